import PyProof.Rows.All
import Wide.All
import OpenK.AllK
import Wide.FinOn
import Lean
import PyProof.EqAt
import PyProof.EqKinds
import PyProof.TupleCall
import PyProof.Draws
import PyProof.EnumMake
import PyProof.WalksEnum
import PyProof.TupleIter
import PyProof.NeData
import PyProof.WalksMore
import PyProof.Rows.StrJoin2
import PyProof.StrWalks
import PyProof.StrBlockH
import PyProof.StrLawsTight
import PyProof.Rows.StrItems
import OpenK.KOwn
import PyProof.NsDelKeeps
import PyProof.RulesAs
import PyProof.ExcAttrAll.ValueError
import PyProof.ZipIter
import PyProof.SumWalkG
import PyProof.CompUse
import PyProof.StrLawsChain
import PyProof.FitsBits
import PyProof.MinMaxWalk
import PyProof.WalkInts
import PyProof.IsRules
import PyProof.Rows.SetFrom
import PyProof.FactsAll.set
import PyProof.DictWalks
import PySem.Challenge.RW_squaresheet_k85_whole_folded_least
set_option Elab.async false
set_option linter.all false
set_option maxRecDepth 100000
namespace L2
open PySem PySem.Spec PyProof.Rows

/-- a key: an int or a str -/
abbrev Key := Sum Int Str
def keyIs : Key → Value → Bool
  | .inl k, v => Value.isInt k v
  | .inr x, v => Value.isStrOf x v
def keyH (w : World) : Key → Int
  | .inl k => hashInt k
  | .inr x => hashStr w x
theorem keyIs_shape : ∀ {k : Key} {v : Value}, keyIs k v = true → (∃ i t, k = Sum.inl i ∧ v = Value.int i t) ∨ (∃ x t, k = Sum.inr x ∧ v = Value.str x t)
  | .inl i, v, h => by
    obtain ⟨t, e⟩ := Value.isInt_shape (k := i) (v := v) h
    exact .inl ⟨i, t, rfl, e⟩
  | .inr x, v, h => by
    obtain ⟨t, e⟩ := Value.isStrOf_shape (x := x) (v := v) h
    exact .inr ⟨x, t, rfl, e⟩
theorem keyIs_int (i : Int) (t : Tok) : keyIs (.inl i) (.int i t) = true := by simp [keyIs, Value.isInt]
theorem keyIs_str (x : Str) (t : Tok) : keyIs (.inr x) (.str x t) = true := by simp [keyIs, Value.isStrOf]
theorem key_ll (a b : Int) : decide ((Sum.inl a : Key) = Sum.inl b) = (a == b) := by
  by_cases e : a = b
  · subst e; simp
  · have h : ¬ (Sum.inl a : Key) = Sum.inl b := fun q => e (Sum.inl.inj q)
    rw [decide_eq_false h]
    exact (beq_eq_false_iff_ne.mpr e).symm
theorem key_rr (a b : Str) : decide ((Sum.inr a : Key) = Sum.inr b) = decide (a = b) := by
  by_cases e : a = b
  · subst e; simp
  · have h : ¬ (Sum.inr a : Key) = Sum.inr b := fun q => e (Sum.inr.inj q)
    rw [decide_eq_false h, decide_eq_false e]
theorem key_lr (a : Int) (b : Str) : decide ((Sum.inl a : Key) = Sum.inr b) = false := decide_eq_false (fun q => nomatch q)
theorem key_rl (a : Str) (b : Int) : decide ((Sum.inr a : Key) = Sum.inl b) = false := decide_eq_false (fun q => nomatch q)

def mixKind (prog : Program) (w : World) : PySem.KeyKind prog w Key where
  is := keyIs
  hash := keyH w
  inj := fun v a b ha hb => by
    rcases keyIs_shape ha with ⟨i, t, rfl, rfl⟩ | ⟨x, t, rfl, rfl⟩
    · rcases keyIs_shape hb with ⟨j, u, rfl, e⟩ | ⟨y, u, rfl, e⟩
      · injection e with e1 _; rw [e1]
      · exact nomatch e
    · rcases keyIs_shape hb with ⟨j, u, rfl, e⟩ | ⟨y, u, rfl, e⟩
      · exact nomatch e
      · injection e with e1 _; rw [e1]
  byValue := fun k v h => by
    rcases keyIs_shape h with ⟨i, t, rfl, rfl⟩ | ⟨x, t, rfl, rfl⟩ <;> rfl
  pyHash := fun hv h => by
    rcases keyIs_shape hv with ⟨i, t, rfl, rfl⟩ | ⟨x, t, rfl, rfl⟩
    · exact wpAny_pyHash_int h
    · exact wpAny_pyHash_str h
  eqBool := fun hu hv h => by
    rcases keyIs_shape hu with ⟨i, t, rfl, rfl⟩ | ⟨x, t, rfl, rfl⟩
    · rcases keyIs_shape hv with ⟨j, u, rfl, rfl⟩ | ⟨y, u, rfl, rfl⟩
      · rw [key_ll] at h; exact wpAny_eqBool_int h
      · rw [key_lr] at h; exact SeqAt.EqAt.int_str i t y u _ _ _ _ h
    · rcases keyIs_shape hv with ⟨j, u, rfl, rfl⟩ | ⟨y, u, rfl, rfl⟩
      · rw [key_rl] at h; exact SeqAt.EqAt.str_int x t j u _ _ _ _ h
      · rw [key_rr] at h; exact wpAny_eqBool_str h
  «strs» := fun k x t v h => by
    rcases keyIs_shape h with ⟨i, u, rfl, e⟩ | ⟨y, u, rfl, e⟩
    · exact nomatch e
    · injection e with e1 _
      subst e1
      cases v <;> rfl

theorem mixKind_int (prog : Program) (w : World) (i : Int) (t : Tok) : (mixKind prog w).is (.inl i) (.int i t) = true := keyIs_int i t
theorem mixKind_str (prog : Program) (w : World) (x : Str) (t : Tok) : (mixKind prog w).is (.inr x) (.str x t) = true := keyIs_str x t
end L2

namespace L2
open PySem PySem.Spec PyProof.Rows

/-- a value, without the heap -/
inductive V where
  | non | bl (b : Bool) | int (i : Int) | str (x : Str) | byt (b : Array UInt8) | flt (b : UInt64) | ref (a : Addr) | ty (n : String)
  deriving DecidableEq

def RelV : V → Value → Prop
  | .non, u => u = Value.none
  | .bl b, u => u = Value.bool b
  | .int i, u => ∃ t, u = Value.int i t
  | .str x, u => ∃ t, u = Value.str x t
  | .byt b, u => ∃ t, u = Value.bytes b t
  | .flt b, u => ∃ t, u = Value.float b t
  | .ref a, u => u = Value.ref a
  | .ty n, u => u = Value.type n

abbrev Vals : List V → List Value → Prop := Paired RelV
theorem Vals.length {xs : List V} {us : List Value} (r : Vals xs us) : xs.length = us.length := Paired.length r
theorem Vals.get : ∀ {xs : List V} {us : List Value} {i : Nat} {x : V}, Vals xs us → xs[i]? = some x → ∃ u, us[i]? = some u ∧ RelV x u
  | _, _, _, _, .nil, e => by simp at e
  | _, _, 0, _, .cons r _, e => by simp at e; subst e; exact ⟨_, rfl, r⟩
  | _, _, i + 1, x, .cons _ t, e => by
    obtain ⟨u, h1, h2⟩ := Vals.get (i := i) (x := x) t (by simpa using e)
    exact ⟨u, by simpa using h1, h2⟩
theorem Vals.set {x : V} {u : Value} (r : RelV x u) : ∀ {xs : List V} {us : List Value} (i : Nat), Vals xs us → Vals (xs.set i x) (us.set i u)
  | _, _, _, .nil => .nil
  | _, _, 0, .cons _ t => .cons r t
  | _, _, i + 1, .cons q t => .cons q (Vals.set r i t)
theorem Vals.append : ∀ {xs ys : List V} {us ws : List Value}, Vals xs us → Vals ys ws → Vals (xs ++ ys) (us ++ ws)
  | _, _, _, _, .nil, s => s
  | _, _, _, _, .cons r t, s => .cons r (Vals.append t s)
theorem Vals.take : ∀ {xs : List V} {us : List Value} (n : Nat), Vals xs us → Vals (xs.take n) (us.take n)
  | _, _, 0, _ => .nil
  | _, _, _ + 1, .nil => .nil
  | _, _, n + 1, .cons r t => .cons r (Vals.take n t)
theorem Vals.drop : ∀ {xs : List V} {us : List Value} (n : Nat), Vals xs us → Vals (xs.drop n) (us.drop n)
  | _, _, 0, r => r
  | _, _, _ + 1, .nil => .nil
  | _, _, n + 1, .cons _ t => Vals.drop n t
def RelO : Option V → Option Value → Prop
  | some v, some u => RelV v u
  | none, none => True
  | _, _ => False
def KV {κ : Type} : List (κ × V) → List (κ × Value) → Prop := Paired fun (p : κ × V) (q : κ × Value) => p.1 = q.1 ∧ RelV p.2 q.2

/-- a key of a dict (00_mix): an int or a text -/
def kV : Key → V
  | .inl i => .int i
  | .inr x => .str x

/-- what stands at a tracked address -/
inductive HO where
  /-- a list -/
  | lst (xs : List V)
  /-- a tuple (never changes) -/
  | tup (xs : List V)
  /-- a dict whose keys are ints and texts; one whose keys are tuples of ints and texts (the empty one is both) -/
  | dK (kvs : List (Key × V)) | dT (kvs : List (List Key × V))
  /-- a set of ints: its members, its size -/
  | set (S : Int → Bool) (n : Nat)
  /-- an instance of the class at C, its dict at dx, its attributes -/
  | ins (C dx : Addr) (fs : List (Str × V))
  /-- the dict of the instance at x -/
  | own (x : Addr)
  /-- the dict of an exception -/
  | xd (fs : List (Str × V))
  /-- a bound method, f of x -/
  | met (f x : Addr)
  /-- a range object lo, lo + 1, .. below hi -/
  | rng (lo hi : Int)
  /-- a thing that is known to the object (the script; a dict while a loop walks it): read, never written while it is so -/
  | frz (o : Obj) (u : HO)
  /-- a code object's table -/
  | tbl (ps : Array Value)
  /-- any other thing, by what is true of its one object (a def of one's own: SetO a S n := HO.ext fun h => ..) -/
  | ext (φ : Heap → Prop)

abbrev Hp := Addr → Option HO
def upd (H : Hp) (a : Addr) (o : HO) : Hp := fun b => if b = a then some o else H b
theorem upd_same {H : Hp} {a : Addr} {o : HO} : upd H a o a = some o := by unfold upd; rw [if_pos rfl]
theorem upd_ne {H : Hp} {a b : Addr} {o : HO} (h : b ≠ a) : upd H a o b = H b := by unfold upd; rw [if_neg h]
/-- two objects of different content stand apart -/
theorem ne_of {H : Hp} {a b : Addr} {o u : HO} (h : H a = some o) (h' : H b = some u) (d : o ≠ u) : a ≠ b := by
  intro e; subst e; rw [h] at h'; exact d (Option.some.inj h')
theorem ne_of_none {H : Hp} {a b : Addr} {o : HO} (h : H a = some o) (h' : H b = none) : a ≠ b := by
  intro e; subst e; rw [h] at h'; cases h'

section
variable (P : Program) (w : World)
/-- the object has no dict -/
def NoD (h : Heap) (a : Addr) : Prop := ∃ o, h.get? a = some o ∧ o.dict = none
def ObjOk (H : Hp) (h : Heap) (a : Addr) : HO → Prop
  | .lst xs => xs.length ≤ sizeLine ∧ ∃ (its : List Value) (n : Nat), Vals xs its ∧ h.get? a = some { cls := .type "list", data := .seq its.toArray n }
  | .tup xs => (xs.length ≤ sizeLine ∧ NoD h a) ∧ ∃ its : List Value, Vals xs its ∧ IsTup h a its.toArray
  | .dK kvs => kvs.length ≤ sizeLine ∧ (a == sysModules) = false ∧ ∃ vs, KV kvs vs ∧ h.DictOf (mixKind P w) a vs
  | .dT kvs => kvs.length ≤ sizeLine ∧ (a == sysModules) = false ∧ ∃ xs : List (List Key × Addr × Value),
      Paired (fun (p : List Key × V) (q : List Key × Addr × Value) => p.1 = q.1 ∧ H q.2.1 = some (.tup (p.1.map kV)) ∧ RelV p.2 q.2.2) kvs xs ∧
      ∃ o es ep, h.get? a = some o ∧ o.ExactDict ∧ o.data = .dict es ep ∧ es.toList = xs.map (entryOfKey (tupleKind (mixKind P w))) ∧ (xs.map (·.1)).Nodup
  | .set S n => h.SetOf (intKind P w) a S n
  | .ins C dx fs => H dx = some (.own a) ∧ fs.length ≤ 1000 ∧ dx ≠ a ∧ h.get? a = some (PySem.W.instObj C dx) ∧
      ∃ mA, h.Ns1 dx mA ∧ (∀ f, RelO (fs.lookup f) (mA f)) ∧ PySem.Within mA (fs.map (·.1))
  | .own _ => ∃ o, h.get? a = some o
  | .xd fs => ∃ mA, h.Ns1 a mA ∧ ∀ f, RelO (fs.lookup f) (mA f)
  | .rng lo hi => ∃ t u v, h.get? a = some { cls := .type "range", data := .fields #[.int lo t, .int hi u, .int 1 v] }
  | .frz o u => h.get? a = some o ∧ ObjOk H h a u
  | .tbl ps => h.get? a = some { cls := .none, data := .fields ps }
  | .met f x => h.get? a = some (PySem.W.methodObj (.ref f) (.ref x))
  | .ext φ => φ h ∧ (∃ o, h.get? a = some o) ∧ ∀ h1 h2 : Heap, φ h1 → (∀ o, h1.get? a = some o → h2.get? a = some o) → φ h2
/-- the abstract heap is held -/
def HOk (H : Hp) (h : Heap) : Prop := ∀ a o, H a = some o → ObjOk P w H h a o
end

section
variable {P : Program} {w : World} {H H' : Hp} {h h' : Heap} {a : Addr} {o : HO}
theorem ObjOk.lt (x : ObjOk P w H h a o) : a < h.objs.size := by
  cases o with
  | lst xs => obtain ⟨_, _, _, _, e⟩ := x; exact Heap.lt_size e
  | tup xs => obtain ⟨_, _, _, p⟩ := x; exact p.lt
  | dK kvs => obtain ⟨_, _, _, _, o, _, _, e, _⟩ := x; exact Heap.lt_size e
  | dT kvs => obtain ⟨_, _, _, _, o, _, _, e, _⟩ := x; exact Heap.lt_size e
  | set S n => obtain ⟨o, _, _, _, e, _⟩ := x; exact Heap.lt_size e
  | ins C dx fs => obtain ⟨_, _, _, e, _⟩ := x; exact Heap.lt_size e
  | own y => obtain ⟨_, e⟩ := x; exact Heap.lt_size e
  | xd fs => obtain ⟨_, ⟨_, _, _, e, _⟩, _⟩ := x; exact Heap.lt_size e
  | rng lo hi => obtain ⟨_, _, _, e⟩ := x; exact Heap.lt_size e
  | frz ob u => obtain ⟨e, _⟩ := x; exact Heap.lt_size e
  | tbl ps => exact Heap.lt_size (show h.get? a = some _ from x)
  | met f y => exact Heap.lt_size (show h.get? a = some _ from x)
  | ext φ => obtain ⟨_, ⟨_, e⟩, _⟩ := x; exact Heap.lt_size e
theorem Paired.mapP {α β : Type} {F G : α → β → Prop} : ∀ {l₁ : List α} {l₂ : List β}, Paired F l₁ l₂ → (∀ a b, F a b → G a b) → Paired G l₁ l₂
  | _, _, .nil, _ => .nil
  | _, _, .cons r t, f => .cons (f _ _ r) (Paired.mapP t f)
/-- what an object's description leans on: its own object, its own dict, the tuples -/
theorem ObjOk.stay (x : ObjOk P w H h a o) (k : ∀ b u, (b = a ∨ H b = some (.own a)) → h.get? b = some u → h'.get? b = some u)
    (ho : ∀ b, H b = some (.own a) → H' b = some (.own a)) (ht : ∀ b xs, H b = some (.tup xs) → H' b = some (.tup xs)) : ObjOk P w H' h' a o := by
  induction o with
  | lst xs => obtain ⟨z, its, n, r, e⟩ := x; exact ⟨z, its, n, r, k _ _ (.inl rfl) e⟩
  | tup xs => obtain ⟨z, its, r, ob, e, c⟩ := x; exact ⟨⟨z.1, z.2.imp fun _ q => ⟨k _ _ (.inl rfl) q.1, q.2⟩⟩, its, r, ob, k _ _ (.inl rfl) e, c⟩
  | dK kvs => obtain ⟨z, y, vs, r, ob, es, ep, e, c⟩ := x; exact ⟨z, y, vs, r, ob, es, ep, k _ _ (.inl rfl) e, c⟩
  | dT kvs =>
    obtain ⟨z, y, xs, r, ob, es, ep, e, c⟩ := x
    exact ⟨z, y, xs, Paired.mapP r fun p q z => ⟨z.1, ht _ _ z.2.1, z.2.2⟩, ob, es, ep, k _ _ (.inl rfl) e, c⟩
  | set S n => obtain ⟨ob, es, ep, t, e, c⟩ := x; exact ⟨ob, es, ep, t, k _ _ (.inl rfl) e, c⟩
  | ins C dx fs =>
    obtain ⟨d, z, ne, e, mA, ⟨od, es, ep, e2, c⟩, r⟩ := x
    exact ⟨ho _ d, z, ne, k _ _ (.inl rfl) e, mA, ⟨od, es, ep, k _ _ (.inr d) e2, c⟩, r⟩
  | own y => obtain ⟨ob, e⟩ := x; exact ⟨ob, k _ _ (.inl rfl) e⟩
  | xd fs => obtain ⟨mA, ⟨od, es, ep, e, c⟩, r⟩ := x; exact ⟨mA, ⟨od, es, ep, k _ _ (.inl rfl) e, c⟩, r⟩
  | rng lo hi => obtain ⟨t, u, v, e⟩ := x; exact ⟨t, u, v, k _ _ (.inl rfl) e⟩
  | frz ob u ih => obtain ⟨e, q⟩ := x; exact ⟨k _ _ (.inl rfl) e, ih q⟩
  | tbl ps =>
    have e : h.get? a = some { cls := .none, data := .fields ps } := x
    show h'.get? a = some { cls := .none, data := .fields ps }
    exact k a _ (.inl rfl) e
  | met f y =>
    have e : h.get? a = some (PySem.W.methodObj (.ref f) (.ref y)) := x
    show h'.get? a = some (PySem.W.methodObj (.ref f) (.ref y))
    exact k a _ (.inl rfl) e
  | ext φ => obtain ⟨p, ⟨o, e⟩, st⟩ := x; exact ⟨st _ _ p fun o q => k _ _ (.inl rfl) q, ⟨o, k _ _ (.inl rfl) e⟩, st⟩
theorem HOk.lt (x : HOk P w H h) (e : H a = some o) : a < h.objs.size := (x a o e).lt
theorem HOk.fresh (x : HOk P w H h) (e : h.objs.size ≤ a) : H a = none := by
  cases q : H a with
  | none => rfl
  | some u => exact absurd (Nat.lt_of_lt_of_le (x.lt q) e) (Nat.lt_irrefl _)
/-- every object of the heap is kept -/
theorem HOk.kept (x : HOk P w H h) (k : ∀ b u, h.get? b = some u → h'.get? b = some u) : HOk P w H h' := fun a o e =>
  (x a o e).stay (fun b u _ q => k b u q) (fun _ q => q) fun _ _ q => q
/-- a new object is laid and tracked -/
theorem HOk.laid (x : HOk P w H h) (k : ∀ b u, h.get? b = some u → h'.get? b = some u) (hp : h.objs.size ≤ a) (new : ObjOk P w (upd H a o) h' a o) : HOk P w (upd H a o) h' := fun b u e => by
  have hn := x.fresh hp
  by_cases hb : b = a
  · subst hb; rw [upd_same] at e; cases e; exact new
  · rw [upd_ne hb] at e
    exact (x b u e).stay (fun c v _ q => k c v q) (fun c q => by rw [upd_ne (ne_of_none q hn)]; exact q) fun c xs q => by rw [upd_ne (ne_of_none q hn)]; exact q
end

/-- what may be read as u: it is u, or a known u -/
def Rd (H : Hp) (a : Addr) (u : HO) : Prop := H a = some u ∨ ∃ o, H a = some (.frz o u)
theorem Rd.ok {P : Program} {w : World} {H : Hp} {h : Heap} {a : Addr} {u : HO} (r : Rd H a u) (x : HOk P w H h) : ObjOk P w H h a u := by
  rcases r with r | ⟨o, r⟩
  · exact x a u r
  · obtain ⟨_, q⟩ := x a _ r
    exact q
/-- what may be written -/
def Mut : Option HO → Prop
  | some (.lst _) => True
  | some (.dK _) => True
  | some (.dT _) => True
  | some (.set _ _) => True
  | some (.ins _ _ _) => True
  | some (.ext _) => True
  | _ => False
section
variable {P : Program} {w : World} {H : Hp} {h h' : Heap} {x e : Addr} {o' : HO}
/-- the object at e is changed: x itself, or the dict of the instance x -/
theorem HOk.write (ok : HOk P w H h) (mu : Mut (H x)) (he : e = x ∨ H e = some (.own x)) (k : ∀ b u, b ≠ e → h.get? b = some u → h'.get? b = some u) (heo : ∃ u, h'.get? e = some u)
    (new : ObjOk P w (upd H x o') h' x o') : HOk P w (upd H x o') h' := fun b u q => by
  have nown : ∀ c y, H c = some (.own y) → c ≠ x := fun c y r z => by subst z; rw [r] at mu; exact mu
  have ntup : ∀ c xs, H c = some (.tup xs) → c ≠ x := fun c xs r z => by subst z; rw [r] at mu; exact mu
  by_cases hb : b = x
  · subst hb; rw [upd_same] at q; cases q; exact new
  · rw [upd_ne hb] at q
    by_cases hbe : b = e
    · have q' : H b = some (.own x) := by
        rcases he with z | z
        · exact absurd (hbe.trans z) hb
        · rw [hbe]; exact z
      rw [q] at q'; cases q'
      obtain ⟨v, hv⟩ := heo
      exact ⟨v, by rw [hbe]; exact hv⟩
    · refine (ok b u q).stay (fun c v hc r => k c v ?_ r) (fun c r => by rw [upd_ne (nown c b r)]; exact r) fun c xs r => by rw [upd_ne (ntup c xs r)]; exact r
      rcases hc with rfl | hc
      · exact hbe
      · rintro rfl
        rcases he with z | z
        · exact nown c b hc z
        · rw [hc] at z; cases z; exact hb rfl
end

structure Un (fs ex : List Addr) (H H' : Hp) (h h' : Heap) : Prop where
  keep : ∀ b o, h.get? b = some o → H b = none → b ∉ fs → b ∉ ex → h'.get? b = some o
  slot : ∀ b o, h.get? b = some o → H b = none → b ∈ fs → b ∉ ex → ∃ sl, h'.get? b = some { o with slots := sl }
  free : ∀ b o, h.get? b = some o → H b = none → b ∉ ex → H' b = none
  there : ∀ b o, h.get? b = some o → b ∉ ex → ∃ o', h'.get? b = some o'
  tups : ∀ b xs, H b = some (.tup xs) → H' b = some (.tup xs)
  frzs : ∀ b o u, H b = some (.frz o u) → H' b = some (.frz o u)
  tbls : ∀ b ps, H b = some (.tbl ps) → ∃ more, H' b = some (.tbl (ps ++ more))
section
variable {fs fs' ex ex' : List Addr} {H H1 H2 : Hp} {h h1 h2 h' : Heap} {a x e : Addr} {o : HO}
theorem Un.any (u : Un fs ex H H1 h h1) {b : Addr} {ob : Obj} (q : h.get? b = some ob) (n : H b = none) (hx : b ∉ ex) : ∃ sl, h1.get? b = some { ob with slots := sl } := by
  by_cases hb : b ∈ fs
  · exact u.slot b ob q n hb hx
  · exact ⟨ob.slots, u.keep b ob q n hb hx⟩
theorem Un.kept (k : ∀ b u, h.get? b = some u → h'.get? b = some u) : Un fs ex H H h h' :=
  ⟨fun b ob q _ _ _ => k b ob q, fun b ob q _ _ _ => ⟨ob.slots, k b ob q⟩, fun _ _ _ n _ => n, fun b ob q _ => ⟨ob, k b ob q⟩, fun _ _ q => q, fun _ _ _ q => q, fun _ ps q => ⟨#[], by rw [q]; simp⟩⟩
theorem Un.refl : Un fs ex H H h h := Un.kept fun _ _ q => q
theorem Un.laid (k : ∀ b u, h.get? b = some u → h'.get? b = some u) (hp : h.objs.size ≤ a) (hn : H a = none) : Un fs ex H (upd H a o) h h' where
  keep := fun b u q _ _ _ => k b u q
  slot := fun b u q _ _ _ => ⟨u.slots, k b u q⟩
  free := fun b u q n _ => by rw [upd_ne (Nat.ne_of_lt (Nat.lt_of_lt_of_le (Heap.lt_size q) hp))]; exact n
  there := fun b u q _ => ⟨u, k b u q⟩
  tups := fun b xs q => by rw [upd_ne (ne_of_none q hn)]; exact q
  frzs := fun b u xs q => by rw [upd_ne (ne_of_none q hn)]; exact q
  tbls := fun b ps q => ⟨#[], by rw [upd_ne (ne_of_none q hn), q]; simp⟩
theorem Un.write (mu : Mut (H x)) (he : e = x ∨ H e = some (.own x)) (k : ∀ b u, b ≠ e → h.get? b = some u → h'.get? b = some u) (heo : ∃ u, h'.get? e = some u) : Un fs ex H (upd H x o) h h' := by
  have hx : ∀ b, H b = none → b ≠ x := fun b n z => by subst z; rw [n] at mu; exact mu
  have hb : ∀ b, H b = none → b ≠ e := fun b n z => by
    subst z
    rcases he with r | r
    · exact hx b n r
    · rw [n] at r; cases r
  have hm : ∀ b u, H b = some u → ¬ Mut (some u) → b ≠ x := fun b u q nm z => by subst z; rw [q] at mu; exact nm mu
  refine ⟨fun b u q n _ _ => k b u (hb b n) q, fun b u q n _ _ => ⟨u.slots, k b u (hb b n) q⟩, fun b u q n _ => by rw [upd_ne (hx b n)]; exact n, fun b u q _ => ?_,
    fun b xs q => by rw [upd_ne (hm b _ q fun z => z)]; exact q, fun b u xs q => by rw [upd_ne (hm b _ q fun z => z)]; exact q, fun b ps q => ⟨#[], by rw [upd_ne (hm b _ q fun z => z), q]; simp⟩⟩
  by_cases hbe : b = e
  · subst hbe; exact heo
  · exact ⟨u, k b u hbe q⟩
end

def trk (h : Heap) (H : Hp) : List Addr := (List.range h.objs.size).filter fun a => (H a).isSome
def hidT (h : Heap) (H : Hp) : Heap := PySem.W.hideAll h (trk h H)
theorem hidT_size (h : Heap) (H : Hp) : (hidT h H).objs.size = h.objs.size := PySem.W.hideAll_size _ _
theorem hidT_get {h : Heap} {H : Hp} {b : Addr} {o : Obj} (e : h.get? b = some o) (n : H b = none) : (hidT h H).get? b = some o :=
  PySem.W.hideAll_get _ e fun hm => by
    have q : (H b).isSome = true := (List.mem_filter.mp hm).2
    rw [n] at q; simp at q
theorem of_hidT {h : Heap} {H : Hp} {b : Addr} {o : Obj} (e : (hidT h H).get? b = some o) : h.get? b = some o ∧ H b = none := by
  have e' : h.get? b = some o := PySem.W.of_hideAll (trk h H) e
  refine ⟨e', ?_⟩
  cases q : H b with
  | none => rfl
  | some x =>
    have hm : b ∈ trk h H := List.mem_filter.mpr ⟨List.mem_range.mpr (Heap.lt_size e'), by simp [q]⟩
    have z : (hidT h H).get? b = none := PySem.W.hideAll_none (trk h H) hm
    rw [z] at e; cases e

end L2

namespace L2
open PySem PySem.Spec PyProof.Rows

/-- the module's facts, over the base: the heap at the law's entry without what is tracked there -/
structure Mod (K : PySem.W.Frag) (mg : Str → Option Value) (base : Heap) : Prop where
  kin : K.In base
  glob : base.Ns mainGlobals mg
  blt : ∃ mb, base.Ns builtinsNs mb ∧ ∀ x : Str, x ≠ "__name__" → mb x = bootBuiltins x
  nolimit : base.NoLimit

/-- the context: a def's body (or a comprehension's block) running. base: fixed through the whole law; s₀, H₀: the entry; outer: the frames whose slots others may change (a def's callers); stack: all frames that run;
   ex: iterators that were made ahead of the entry and are walked here (a comprehension's); fn: the names whose cells were made at the entry (a def: all; a comprehension's block: its own); calm: not within an except suite; pn: pins that every state bears; xe: what is wanted of an exception that leaves the code -/
structure Cx where
  prog : Program
  w : World
  K : PySem.W.Frag
  mg : Str → Option Value
  base : Heap
  A : Around
  N : List Str
  s₀ : Shared
  H₀ : Hp
  env : Env
  outer : List Env
  stack : List Env
  ex : List Addr
  fn : Str → Bool
  calm : Bool
  pn : List (Addr × Obj)
  xe : Value → Shared → Prop
/-- the callers' frames -/
def frs (l : List Env) : List Addr := l.filterMap (·.frame)
abbrev Cx.fs (X : Cx) : List Addr := frs X.outer

def Vis (sc : Scope) (x : Str) : Prop := sc.names.lookup x = some .local ∨ sc.names.lookup x = some .cell ∨ sc.names.lookup x = some .free
def Loc (sc : Scope) (x : Str) : Prop := sc.names.lookup x = some .local ∨ sc.names.lookup x = some .cell
def Look (env : Env) (h : Heap) (m : Str → Option Value) (x : Str) (u : Value) : Prop :=
  (env.kindOf x = some .local ∧ m x = some u) ∨ ((env.kindOf x = some .cell ∨ env.kindOf x = some .free) ∧ ∃ c, env.cells.lookup x = some c ∧ h.IsCell c (some u))

structure Cx.Ok (X : Cx) : Prop where
  mod : Mod X.K X.mg X.base
  kind : X.env.scope.kind = .function
  glob : X.env.globals = mainGlobals
  blt : X.env.builtins = builtinsNs
  above : X.s₀.heap.objs.size ≤ X.env.locals
  inj : ∀ x y c, X.env.cells.lookup x = some c → X.env.cells.lookup y = some c → x = y
  has : ∀ x, (X.env.kindOf x = some .cell ∨ X.env.kindOf x = some .free) → ∃ c, X.env.cells.lookup x = some c
  cab : ∀ x c, X.fn x = true → X.env.cells.lookup x = some c → X.s₀.heap.objs.size ≤ c
  hd : X.calm = true → X.A.handled = none
  frames : X.A.frames = some X.stack
  stk : X.stack = X.outer ∨ (X.stack = X.env :: X.outer ∧ X.env.frame = some X.env.locals)
  exf : ∀ b ∈ X.ex, b ≠ X.env.locals ∧ ∀ x c, X.env.cells.lookup x = some c → c ≠ b
  bs : ∀ b o, X.base.get? b = some o → X.s₀.heap.get? b = some o ∧ X.H₀ b = none
  bsz : X.base.objs.size ≤ X.s₀.heap.objs.size
  noex : ∀ b o, X.base.get? b = some o → b ∉ X.ex
  exfs : ∀ b ∈ X.ex, b ∉ X.fs
  funs : X.s₀.heap.FunFrames X.base X.outer
  frf : ∀ b ∈ X.fs, X.H₀ b = none

structure Inv (X : Cx) (pins : List (Addr × Obj)) (σ : List (Option V)) (H : Hp) (s : Shared) : Prop where
  ok : X.Ok
  os : s.os = X.s₀.os
  bare : AllBare s.gens
  base : Un X.fs X.ex X.H₀ H X.s₀.heap s.heap
  loc : ∃ m, s.heap.Ns X.env.locals m ∧ ∀ (i : Nat) (x : Str) (v : V), X.N[i]? = some x → σ[i]? = some (some v) → Vis X.env.scope x → ∃ u, RelV v u ∧ Look X.env s.heap m x u
  cell : ∀ x c, X.env.cells.lookup x = some c → ∃ v, s.heap.IsCell c v
  free : H X.env.locals = none
  freeC : ∀ x c, X.env.cells.lookup x = some c → H c = none
  pin : ∀ p ∈ X.pn ++ pins, s.heap.get? p.1 = some p.2 ∧ H p.1 = none ∧ p.1 ≠ X.env.locals ∧ p.1 ∉ X.fs ∧ ∀ v, p.2.data ≠ .cell v
  hok : HOk X.prog X.w H s.heap
  len : σ.length = X.N.length

section
variable {X : Cx} {pins : List (Addr × Obj)} {σ : List (Option V)} {H H' : Hp} {s : Shared} {h' : Heap}

theorem Cx.Ok.nofr (ok : X.Ok) {b : Addr} {o : Obj} (e : X.base.get? b = some o) : b ∉ X.fs := fun hb => by
  have := (ok.funs.mem hb).1
  rw [e] at this; cases this
theorem Inv.bs (I : Inv X pins σ H s) : ∀ b o, X.base.get? b = some o → s.heap.get? b = some o ∧ H b = none := fun b o e =>
  ⟨I.base.keep b o (I.ok.bs b o e).1 (I.ok.bs b o e).2 (I.ok.nofr e) (I.ok.noex b o e), I.base.free b o (I.ok.bs b o e).1 (I.ok.bs b o e).2 (I.ok.noex b o e)⟩
theorem Inv.bk (I : Inv X pins σ H s) : ∀ b o, X.base.get? b = some o → s.heap.get? b = some o := fun b o e => (I.bs b o e).1
theorem Inv.mod (I : Inv X pins σ H s) : Mod X.K X.mg X.base := I.ok.mod
theorem Inv.kIn (I : Inv X pins σ H s) : X.K.In s.heap := I.ok.mod.kin.keeps I.bk
theorem Inv.lt (I : Inv X pins σ H s) : X.env.locals < s.heap.objs.size := let ⟨_, hn, _⟩ := I.loc; hn.lt
theorem Inv.sz (I : Inv X pins σ H s) : X.s₀.heap.objs.size ≤ s.heap.objs.size := Nat.le_trans I.ok.above (Nat.le_of_lt I.lt)
theorem Inv.nofs (I : Inv X pins σ H s) {a : Addr} (h : s.heap.objs.size ≤ a) : a ∉ X.fs := fun hb => by
  obtain ⟨_, o, ho, _⟩ := I.ok.funs.mem hb
  exact absurd (Nat.lt_of_lt_of_le (Heap.lt_size ho) (Nat.le_trans I.sz h)) (Nat.lt_irrefl _)
theorem Inv.cne (I : Inv X pins σ H s) : ∀ x c, X.env.cells.lookup x = some c → c ≠ X.env.locals := fun x c e z => by
  obtain ⟨v, o, ho, hd⟩ := I.cell x c e
  obtain ⟨m, ⟨o', es, ep, ho', hd', _⟩, _⟩ := I.loc
  rw [z, ho'] at ho; cases ho; rw [hd'] at hd; cases hd
theorem Inv.funs (I : Inv X pins σ H s) : s.heap.FunFrames X.base X.outer := by
  have all : ∀ (l : List Env), (∀ b ∈ frs l, b ∈ X.fs) → X.s₀.heap.FunFrames X.base l → s.heap.FunFrames X.base l := by
    intro l
    induction l with
    | nil => intro _ _; trivial
    | cons env r ih =>
      intro hs hl
      obtain ⟨hk, ⟨L, o, hf, hn, ho, hd⟩, hr⟩ := hl
      have hL : L ∈ X.fs := hs L (by unfold frs; rw [List.filterMap_cons, hf]; exact List.mem_cons_self)
      obtain ⟨sl, e⟩ := I.base.slot L o ho (I.ok.frf L hL) hL fun z => I.ok.exfs L z hL
      exact ⟨hk, ⟨L, _, hf, hn, e, hd⟩, ih (fun b hb => hs b (by unfold frs; rw [List.filterMap_cons, hf]; exact List.mem_cons_of_mem _ hb)) hr⟩
  exact all X.outer (fun _ hb => hb) I.ok.funs

/-- the frames that run, for a call -/
theorem Inv.stack (I : Inv X pins σ H s) : s.heap.FunFrames X.base X.stack := by
  rcases I.ok.stk with e | ⟨e, hf⟩
  · rw [e]; exact I.funs
  · rw [e]
    obtain ⟨m, hn, _⟩ := I.loc
    refine .cons (by rw [I.ok.kind]; decide) hf hn ?_ I.funs
    exact Heap.get?_none_of_le (Nat.le_trans I.ok.bsz I.ok.above)
theorem Inv.stkSub (I : Inv X pins σ H s) : ∀ b ∈ frs X.stack, b ∈ X.env.locals :: X.fs := fun b hb => by
  rcases I.ok.stk with e | ⟨e, hf⟩
  · rw [e] at hb; exact List.mem_cons_of_mem _ hb
  · rw [e] at hb
    unfold frs at hb
    rw [List.filterMap_cons, hf] at hb
    exact hb
theorem Inv.stkFree (I : Inv X pins σ H s) : ∀ b ∈ frs X.stack, H b = none := fun b hb => by
  rcases List.mem_cons.mp (I.stkSub b hb) with e | hb
  · rw [e]; exact I.free
  · obtain ⟨_, o, ho, _⟩ := I.ok.funs.mem hb
    exact I.base.free b o ho (I.ok.frf b hb) fun z => I.ok.exfs b z hb

/-- THE STEP: the untracked objects but the frame and the records at ch are kept (the callers' frames up to slots), the frame's map is kept, the new abstract heap is held -/
theorem Inv.step {g' : Array GenState} {t' : Nat} {d' : Drawn} {ch : List Addr} (I : Inv X pins σ H s)
    (hch : ∀ b ∈ ch, (b ∈ X.ex ∨ X.s₀.heap.objs.size ≤ b) ∧ b ≠ X.env.locals ∧ (∀ x c, X.env.cells.lookup x = some c → c ≠ b) ∧ ∀ p ∈ X.pn ++ pins, p.1 ≠ b)
    (keep : ∀ b o, b ≠ X.env.locals → b ∉ X.fs → b ∉ ch → s.heap.get? b = some o → H b = none → h'.get? b = some o)
    (slot : ∀ b o, b ≠ X.env.locals → b ∈ X.fs → b ∉ ch → s.heap.get? b = some o → H b = none → ∃ sl, h'.get? b = some { o with slots := sl }) (free : ∀ b o, b ∉ ch → s.heap.get? b = some o → H b = none → H' b = none)
    (there : ∀ b o, b ∉ ch → s.heap.get? b = some o → ∃ o', h'.get? b = some o')
    (tups : ∀ b xs, H b = some (.tup xs) → H' b = some (.tup xs)) (frzs : ∀ b o u, H b = some (.frz o u) → H' b = some (.frz o u)) (tbls : ∀ b ps, H b = some (.tbl ps) → ∃ more, H' b = some (.tbl (ps ++ more)))
    (ns : ∀ m, s.heap.Ns X.env.locals m → h'.Ns X.env.locals m) (hok : HOk X.prog X.w H' h') (hg : AllBare g') :
    Inv X pins σ H' { s with heap := h', gens := g', drawn := d', toks := t' } := by
  have neL : ∀ b o, X.s₀.heap.get? b = some o → b ≠ X.env.locals := fun b o e => Nat.ne_of_lt (Nat.lt_of_lt_of_le (Heap.lt_size e) I.ok.above)
  have neC : ∀ b o, X.s₀.heap.get? b = some o → b ∉ X.ex → b ∉ ch := fun b o e hx hb => by
    rcases (hch b hb).1 with z | z
    · exact hx z
    · exact absurd (Nat.lt_of_lt_of_le (Heap.lt_size e) z) (Nat.lt_irrefl _)
  have cellK : ∀ x c, X.env.cells.lookup x = some c → ∀ v, s.heap.IsCell c v → h'.IsCell c v := fun x c e v ⟨o, ho, hd⟩ => by
    have nch : c ∉ ch := fun z => (hch c z).2.2.1 x c e rfl
    by_cases hc : c ∈ X.fs
    · obtain ⟨sl, q⟩ := slot c o (I.cne x c e) hc nch ho (I.freeC x c e)
      exact ⟨_, q, hd⟩
    · exact ⟨o, keep c o (I.cne x c e) hc nch ho (I.freeC x c e), hd⟩
  refine ⟨I.ok, I.os, hg, ⟨fun b o e n hb hx => ?_, fun b o e n hb hx => ?_, fun b o e n hx => ?_, fun b o e hx => ?_, fun b xs e => tups b xs (I.base.tups b xs e), fun b o xs e => frzs b o xs (I.base.frzs b o xs e), fun b ps e => ?_⟩, ?_, fun x c e => ?_, ?_, fun x c e => ?_, fun p hp => ?_, hok, I.len⟩
  · exact keep b o (neL b o e) hb (neC b o e hx) (I.base.keep b o e n hb hx) (I.base.free b o e n hx)
  · obtain ⟨sl, e1⟩ := I.base.slot b o e n hb hx
    obtain ⟨sl', e2⟩ := slot b _ (neL b o e) hb (neC b o e hx) e1 (I.base.free b o e n hx)
    exact ⟨sl', e2⟩
  · obtain ⟨o', e1⟩ := I.base.there b o e hx
    exact free b o' (neC b o e hx) e1 (I.base.free b o e n hx)
  · obtain ⟨o', e1⟩ := I.base.there b o e hx
    exact there b o' (neC b o e hx) e1
  · obtain ⟨m1, e1⟩ := I.base.tbls b ps e
    obtain ⟨m2, e2⟩ := tbls b _ e1
    exact ⟨m1 ++ m2, by rw [e2, Array.append_assoc]⟩
  · obtain ⟨m, hn, hl⟩ := I.loc
    refine ⟨m, ns m hn, fun i x v e1 e2 e3 => ?_⟩
    obtain ⟨u, r, l⟩ := hl i x v e1 e2 e3
    refine ⟨u, r, ?_⟩
    rcases l with l | ⟨k, c, e, z⟩
    · exact .inl l
    · exact .inr ⟨k, c, e, cellK x c e _ z⟩
  · obtain ⟨v, z⟩ := I.cell x c e
    exact ⟨v, cellK x c e v z⟩
  · obtain ⟨m, ⟨o, _, _, ho, _⟩, _⟩ := I.loc
    exact free _ o (fun z => (hch _ z).2.1 rfl) ho I.free
  · obtain ⟨v, o, ho, hd⟩ := I.cell x c e
    exact free c o (fun z => (hch c z).2.2.1 x c e rfl) ho (I.freeC x c e)
  · obtain ⟨e, n, ne, nf, d⟩ := I.pin p hp
    have nch : p.1 ∉ ch := fun z => (hch p.1 z).2.2.2 p hp rfl
    exact ⟨keep p.1 p.2 ne nf nch e n, free p.1 p.2 nch e n, ne, nf, d⟩
/-- .. where the frame's own object is kept too -/
theorem Inv.un {t' : Nat} (I : Inv X pins σ H s) (u : Un X.fs [] H H' s.heap h') (hok : HOk X.prog X.w H' h') : Inv X pins σ H' { s with heap := h', toks := t' } := by
  obtain ⟨m, ⟨o, es, ep, ho, r⟩, _⟩ := id I.loc
  obtain ⟨sl, hL⟩ := u.any ho I.free (by simp)
  exact I.step (g' := s.gens) (d' := s.drawn) (ch := []) (fun _ z => nomatch z) (fun b o _ hb _ e n => u.keep b o e n hb (by simp)) (fun b o _ hb _ e n => u.slot b o e n hb (by simp)) (fun b o _ e n => u.free b o e n (by simp)) (fun b o _ e => u.there b o e (by simp)) u.tups u.frzs u.tbls (fun m' hm => by
    obtain ⟨o', es', ep', ho', r'⟩ := hm
    rw [ho] at ho'; cases ho'
    exact ⟨_, es', ep', hL, r'⟩) hok I.bare
/-- behind a call (or a comprehension's block): the slots of this frame may have changed too, the records at ch may have turned -/
theorem Inv.call {g' : Array GenState} {t' : Nat} {d' : Drawn} {ch : List Addr} (I : Inv X pins σ H s) (u : Un (frs X.stack) ch H H' s.heap h') (hok : HOk X.prog X.w H' h') (hg : AllBare g')
    (hch : ∀ b ∈ ch, (b ∈ X.ex ∨ X.s₀.heap.objs.size ≤ b) ∧ b ≠ X.env.locals ∧ (∀ x c, X.env.cells.lookup x = some c → c ≠ b) ∧ ∀ p ∈ X.pn ++ pins, p.1 ≠ b) :
    Inv X pins σ H' { s with heap := h', gens := g', drawn := d', toks := t' } := by
  obtain ⟨m, ⟨o, es, ep, ho, r⟩, _⟩ := id I.loc
  obtain ⟨sl, hL⟩ := u.any ho I.free fun z => (hch _ z).2.1 rfl
  exact I.step (ch := ch) hch (fun b o hL hb hc e n => u.keep b o e n (fun z => (List.mem_cons.mp (I.stkSub b z)).elim hL hb) hc) (fun b o _ _ hc e n => u.any e n hc) (fun b o hc e n => u.free b o e n hc) (fun b o hc e => u.there b o e hc) u.tups u.frzs u.tbls (fun m' hm => by
    obtain ⟨o', es', ep', ho', r'⟩ := hm
    rw [ho] at ho'; cases ho'
    exact ⟨_, es', ep', hL, r'⟩) hok hg
/-- an untracked record of ours (an iterator) has turned -/
theorem Inv.turned {t' : Nat} {it : Addr} (I : Inv X pins σ H s) (k : ∀ b o, b ≠ it → s.heap.get? b = some o → h'.get? b = some o) (hn : H it = none) (hL : it ≠ X.env.locals)
    (h1 : it ∈ X.ex ∨ X.s₀.heap.objs.size ≤ it) (h2 : ∀ x c, X.env.cells.lookup x = some c → c ≠ it) (h3 : ∀ p ∈ X.pn ++ pins, p.1 ≠ it) : Inv X pins σ H { s with heap := h', toks := t' } := by
  have nit : ∀ b u, H b = some u → b ≠ it := fun b u e z => by rw [z, hn] at e; cases e
  refine I.step (g' := s.gens) (d' := s.drawn) (ch := [it]) (fun b hb => ?_) (fun b o _ _ hc e _ => k b o (fun z => hc (by simp [z])) e) (fun b o _ _ hc e _ => ⟨o.slots, k b o (fun z => hc (by simp [z])) e⟩) (fun _ _ _ _ n => n)
    (fun b o hc e => ⟨o, k b o (fun z => hc (by simp [z])) e⟩) (fun _ _ e => e) (fun _ _ _ e => e) (fun b ps e => ⟨#[], by rw [e]; simp⟩) (fun m hm => ?_) (fun b u e => ?_) I.bare
  · have e : b = it := by simpa using hb
    subst e
    exact ⟨h1, hL, h2, h3⟩
  · obtain ⟨o, es, ep, ho, r⟩ := hm
    exact ⟨o, es, ep, k _ o (Ne.symm hL) ho, r⟩
  · refine (I.hok b u e).stay (fun c v hc q => k c v ?_ q) (fun _ q => q) fun _ _ q => q
    rcases hc with z | z
    · rw [z]; exact nit b u e
    · exact nit c _ z
theorem Inv.tok (I : Inv X pins σ H s) (t : Nat) : Inv X pins σ H { s with toks := t } := I.un (h' := s.heap) (t' := t) Un.refl I.hok
/-- all objects kept -/
theorem Inv.kept {t' : Nat} (I : Inv X pins σ H s) (k : ∀ b u, s.heap.get? b = some u → h'.get? b = some u) : Inv X pins σ H { s with heap := h', toks := t' } := I.un (Un.kept k) (I.hok.kept k)
/-- a new object laid and tracked -/
theorem Inv.laid {a : Addr} {o : HO} {t' : Nat} (I : Inv X pins σ H s) (k : ∀ b u, s.heap.get? b = some u → h'.get? b = some u) (hp : s.heap.objs.size ≤ a) (new : ObjOk X.prog X.w (upd H a o) h' a o) :
    Inv X pins σ (upd H a o) { s with heap := h', toks := t' } := I.un (Un.laid k hp (I.hok.fresh hp)) (I.hok.laid k hp new)
/-- an object written -/
theorem Inv.write {x e : Addr} {o : HO} {t' : Nat} (I : Inv X pins σ H s) (mu : Mut (H x)) (he : e = x ∨ H e = some (.own x)) (k : ∀ b u, b ≠ e → s.heap.get? b = some u → h'.get? b = some u) (heo : ∃ u, h'.get? e = some u)
    (new : ObjOk X.prog X.w (upd H x o) h' x o) : Inv X pins σ (upd H x o) { s with heap := h', toks := t' } := I.un (Un.write mu he k heo) (I.hok.write mu he k heo new)
theorem Inv.pins_of {pins' : List (Addr × Obj)} (I : Inv X pins σ H s) (h : ∀ p ∈ pins', s.heap.get? p.1 = some p.2 ∧ H p.1 = none ∧ p.1 ≠ X.env.locals ∧ p.1 ∉ X.fs ∧ ∀ v, p.2.data ≠ .cell v) : Inv X pins' σ H s :=
  ⟨I.ok, I.os, I.bare, I.base, I.loc, I.cell, I.free, I.freeC, fun p hp => (List.mem_append.mp hp).elim (fun z => I.pin p (List.mem_append_left _ z)) (h p), I.hok, I.len⟩

theorem nodup_ix {N : List Str} (hN : N.Nodup) {i j : Nat} {x : Str} (a : N[i]? = some x) (b : N[j]? = some x) : i = j := by
  obtain ⟨h1, e1⟩ := List.getElem?_eq_some_iff.mp a
  obtain ⟨h2, e2⟩ := List.getElem?_eq_some_iff.mp b
  exact (List.getElem_inj hN).mp (e1.trans e2.symm)

/-- a name is stored; what changed -/
theorem store_ok2 {M : Model} {A : Around} {E : Value → Shared → Prop} {i : Nat} {x : Str} {v : V} {u : Value} {Q : Unit → Shared → Prop} (I : Inv X pins σ H s) (hN : X.N.Nodup) (hi : X.N[i]? = some x) (hx : Loc X.env.scope x) (r : RelV v u)
    (h : ∀ s', Inv X pins (σ.set i (some v)) H s' → (∃ a, Heap.SameBut a s.heap s'.heap ∧ (a = X.env.locals ∨ X.env.cells.lookup x = some a)) → Q () s') (hf : X.fn x = true ∨ X.env.scope.names.lookup x = some .local := by first | exact .inl rfl | exact .inr rfl | assumption) : wpAny M A (storeName X.env x u) Q E s := by
  obtain ⟨m, hn, hl⟩ := id I.loc
  have hcls : (X.env.scope.kind == .class || (X.env.scope.kind == .module && X.env.locals != X.env.globals)) = false := by rw [I.ok.kind]; rfl
  have hiσ : i < σ.length := by rw [I.len]; exact (List.getElem?_eq_some_iff.mp hi).1
  have cne := I.cne
  have tracked : ∀ {a : Addr} {h' : Heap}, (∃ o, s.heap.get? a = some o ∧ H a = none) → Heap.SameBut a s.heap h' → HOk X.prog X.w H h' := fun {a h'} ha hs b ob e => by
    obtain ⟨_, _, hfree⟩ := ha
    refine (I.hok b ob e).stay (fun c w' hc q => (hs.2 c ?_).trans q) (fun _ q => q) fun _ _ q => q
    rintro rfl
    rcases hc with rfl | hc
    · rw [hfree] at e; cases e
    · rw [hfree] at hc; cases hc
  rcases hx with hk | hk
  · refine wpAny_storeName_local hk hn (fun h' hn' hs => ?_) hcls
    obtain ⟨oL, _, _, hoL, _⟩ := id hn
    refine h _ ⟨I.ok, I.os, I.bare, ⟨fun b o e n hb hx => ?_, fun b o e n hb hx => ?_, I.base.free, fun b o e hx => ?_, I.base.tups, I.base.frzs, I.base.tbls⟩, ⟨_, hn', fun j y v' e1 e2 e3 => ?_⟩, fun y c e => ?_, I.free, I.freeC, fun p hp => ?_, tracked ⟨oL, hoL, I.free⟩ hs, by simpa using I.len⟩ ⟨_, hs, .inl rfl⟩
    · exact (hs.2 b (Nat.ne_of_lt (Nat.lt_of_lt_of_le (Heap.lt_size e) I.ok.above))).trans (I.base.keep b o e n hb hx)
    · obtain ⟨sl, e1⟩ := I.base.slot b o e n hb hx
      exact ⟨sl, (hs.2 b (Nat.ne_of_lt (Nat.lt_of_lt_of_le (Heap.lt_size e) I.ok.above))).trans e1⟩
    · obtain ⟨o', e1⟩ := I.base.there b o e hx
      exact ⟨o', (hs.2 b (Nat.ne_of_lt (Nat.lt_of_lt_of_le (Heap.lt_size e) I.ok.above))).trans e1⟩
    · by_cases hj : j = i
      · subst hj
        rw [hi] at e1; cases e1
        rw [List.getElem?_set_self hiσ] at e2
        cases e2
        exact ⟨u, r, .inl ⟨hk, by simp⟩⟩
      · rw [List.getElem?_set_ne (Ne.symm hj)] at e2
        obtain ⟨u', r', q⟩ := hl j y v' e1 e2 e3
        refine ⟨u', r', ?_⟩
        rcases q with ⟨k, e⟩ | ⟨k, c, e, z⟩
        · refine .inl ⟨k, ?_⟩
          have : y ≠ x := fun e => hj (nodup_ix hN e1 (e ▸ hi))
          simp [this, e]
        · exact .inr ⟨k, c, e, z.sameBut hs (cne y c e)⟩
    · obtain ⟨w', z⟩ := I.cell y c e
      exact ⟨w', z.sameBut hs (cne y c e)⟩
    · obtain ⟨e, n, ne, nf, d⟩ := I.pin p hp
      exact ⟨(hs.2 p.1 ne).trans e, n, ne, nf, d⟩
  · have hfn : X.fn x = true := by
      rcases hf with z | z
      · exact z
      · rw [z] at hk; cases hk
    obtain ⟨c, hc⟩ := I.ok.has x (.inl hk)
    obtain ⟨w', z⟩ := I.cell x c hc
    refine wpAny_storeName_cell I.ok.kind hk hc z (fun h' hc' hs => ?_)
    obtain ⟨oc, hoc, hocd⟩ := id z
    refine h { s with heap := h' } ⟨I.ok, I.os, I.bare, ⟨fun b o e n hb hx => ?_, fun b o e n hb hx => ?_, I.base.free, fun b o e hx => ?_, I.base.tups, I.base.frzs, I.base.tbls⟩, ⟨m, hn.sameBut hs (Ne.symm (cne x c hc)), fun j y v' e1 e2 e3 => ?_⟩, fun y c' e => ?_, I.free, I.freeC, fun p hp => ?_, tracked ⟨oc, hoc, I.freeC x c hc⟩ hs, by simpa using I.len⟩ ⟨c, hs, .inr hc⟩
    · exact (hs.2 b (Nat.ne_of_lt (Nat.lt_of_lt_of_le (Heap.lt_size e) (I.ok.cab x c hfn hc)))).trans (I.base.keep b o e n hb hx)
    · obtain ⟨sl, e1⟩ := I.base.slot b o e n hb hx
      exact ⟨sl, (hs.2 b (Nat.ne_of_lt (Nat.lt_of_lt_of_le (Heap.lt_size e) (I.ok.cab x c hfn hc)))).trans e1⟩
    · obtain ⟨o', e1⟩ := I.base.there b o e hx
      exact ⟨o', (hs.2 b (Nat.ne_of_lt (Nat.lt_of_lt_of_le (Heap.lt_size e) (I.ok.cab x c hfn hc)))).trans e1⟩
    · by_cases hj : j = i
      · subst hj
        rw [hi] at e1; cases e1
        rw [List.getElem?_set_self hiσ] at e2
        cases e2
        exact ⟨u, r, .inr ⟨.inl hk, c, hc, hc'⟩⟩
      · rw [List.getElem?_set_ne (Ne.symm hj)] at e2
        obtain ⟨u', r', q⟩ := hl j y v' e1 e2 e3
        refine ⟨u', r', ?_⟩
        rcases q with q | ⟨k, c', e, z'⟩
        · exact .inl q
        · refine .inr ⟨k, c', e, z'.sameBut hs ?_⟩
          rintro rfl
          exact hj (nodup_ix hN e1 (I.ok.inj _ _ _ e hc ▸ hi))
    · by_cases hcc : c' = c
      · subst hcc; exact ⟨_, hc'⟩
      · obtain ⟨w2, z2⟩ := I.cell y c' e
        exact ⟨w2, z2.sameBut hs hcc⟩
    · obtain ⟨e, n, ne, nf, d⟩ := I.pin p hp
      refine ⟨(hs.2 p.1 ?_).trans e, n, ne, nf, d⟩
      intro q
      rw [q, hoc] at e
      have q' : oc = p.2 := Option.some.inj e
      exact d w' (by rw [← q']; exact hocd)
theorem store_ok {M : Model} {A : Around} {E : Value → Shared → Prop} {i : Nat} {x : Str} {v : V} {u : Value} {Q : Unit → Shared → Prop} (I : Inv X pins σ H s) (hN : X.N.Nodup) (hi : X.N[i]? = some x) (hx : Loc X.env.scope x) (r : RelV v u)
    (h : ∀ s', Inv X pins (σ.set i (some v)) H s' → Q () s') (hf : X.fn x = true ∨ X.env.scope.names.lookup x = some .local := by first | exact .inl rfl | exact .inr rfl | assumption) : wpAny M A (storeName X.env x u) Q E s :=
  store_ok2 I hN hi hx r (fun s' I' _ => h s' I') hf
/-- behind a call or a block, the state as it is -/
theorem Inv.call' {s' : Shared} {ch : List Addr} (I : Inv X pins σ H s) (ho : s'.os = s.os) (u : Un (frs X.stack) ch H H' s.heap s'.heap) (hok : HOk X.prog X.w H' s'.heap) (hg : AllBare s'.gens)
    (hch : ∀ b ∈ ch, (b ∈ X.ex ∨ X.s₀.heap.objs.size ≤ b) ∧ b ≠ X.env.locals ∧ (∀ x c, X.env.cells.lookup x = some c → c ≠ b) ∧ ∀ p ∈ X.pn ++ pins, p.1 ≠ b) : Inv X pins σ H' s' := by
  obtain ⟨h', g', d', t', o'⟩ := s'
  have e : o' = s.os := ho
  subst e
  exact I.call (g' := g') (t' := t') (d' := d') u hok hg hch
end

/-- an exception: its class, its own dict's address (where it has one), the abstract heap behind it -/
abbrev XK := Value → Option Addr → Hp → Prop
abbrev St := List (Option V)
abbrev VK := V → Hp → Prop
/-- an expression's reading; a test's; an argument list's -/
abbrev TE := St → Hp → VK → Prop
abbrev TT := St → Hp → (Bool → Hp → Prop) → Prop
abbrev TA := St → Hp → (List V → Hp → Prop) → Prop
/-- what is wanted behind a statement -/
structure Ends where
  nx : St → Hp → Prop
  rt : VK
  bk : St → Hp → Prop := fun _ _ => False
  ct : St → Hp → Prop := fun _ _ => False
abbrev TS := Ends → St → Hp → Prop

def EP (X : Cx) (pins : List (Addr × Obj)) (σ : St) (Q : VK) (u : Value) (s' : Shared) : Prop := ∃ v H', Inv X pins σ H' s' ∧ RelV v u ∧ Q v H'
def TP (X : Cx) (pins : List (Addr × Obj)) (σ : St) (Q : Bool → Hp → Prop) (b : Bool) (s' : Shared) : Prop := ∃ H', Inv X pins σ H' s' ∧ Q b H'
def AP (X : Cx) (pins : List (Addr × Obj)) (σ : St) (Q : List V → Hp → Prop) (us : List Value) (s' : Shared) : Prop := ∃ vs H', Inv X pins σ H' s' ∧ Vals vs us ∧ Q vs H'
def SP (X : Cx) (pins : List (Addr × Obj)) (D : Ends) (f : Flow) (s' : Shared) : Prop :=
  match f with
  | .next => ∃ σ' H', Inv X pins σ' H' s' ∧ D.nx σ' H'
  | .brk => ∃ σ' H', Inv X pins σ' H' s' ∧ D.bk σ' H'
  | .cont => ∃ σ' H', Inv X pins σ' H' s' ∧ D.ct σ' H'
  | .ret u => ∃ v σ' H', Inv X pins σ' H' s' ∧ RelV v u ∧ D.rt v H'

def PE (X : Cx) (e : Expr) (t : TE) : Prop :=
  ∀ (pins : List (Addr × Obj)) (s : Shared) (σ : St) (H : Hp) (Q : VK), Inv X pins σ H s → t σ H Q → wpAny (model X.prog X.w) X.A (eval e X.env) (EP X pins σ Q) X.xe s
def PT (X : Cx) (e : Expr) (t : TT) : Prop :=
  ∀ (pins : List (Addr × Obj)) (s : Shared) (σ : St) (H : Hp) (Q : Bool → Hp → Prop), Inv X pins σ H s → t σ H Q → wpAny (model X.prog X.w) X.A (isTrue e X.env (eval e X.env)) (TP X pins σ Q) X.xe s
/-- a test whatever its 'whole' is (and, or) -/
def PW (X : Cx) (e : Expr) (t : TT) : Prop :=
  ∀ (whole : Sem Value) (pins : List (Addr × Obj)) (s : Shared) (σ : St) (H : Hp) (Q : Bool → Hp → Prop), Inv X pins σ H s → t σ H Q → wpAny (model X.prog X.w) X.A (isTrue e X.env whole) (TP X pins σ Q) X.xe s
theorem PW.pt {X : Cx} {e : Expr} {t : TT} (h : PW X e t) : PT X e t := h _
/-- an argument list (no star), from the left -/
def PA (X : Cx) (es : List Expr) (t : TA) : Prop :=
  ∀ (pos : Pos) (pins : List (Addr × Obj)) (s : Shared) (σ : St) (H : Hp) (Q : List V → Hp → Prop), Inv X pins σ H s → t σ H Q → wpAny (model X.prog X.w) X.A (spliced (backTo pos (starEach es X.env))) (AP X pins σ Q) X.xe s
def PS (X : Cx) (st : Stmt) (t : TS) : Prop :=
  ∀ (pins : List (Addr × Obj)) (s : Shared) (σ : St) (H : Hp) (D : Ends), Inv X pins σ H s → t D σ H → wpAny (model X.prog X.w) X.A (exec st X.env) (SP X pins D) X.xe s
def PSs (X : Cx) (st : List Stmt) (t : TS) : Prop :=
  ∀ (pins : List (Addr × Obj)) (s : Shared) (σ : St) (H : Hp) (D : Ends), Inv X pins σ H s → t D σ H → wpAny (model X.prog X.w) X.A (execs st X.env) (SP X pins D) X.xe s
/-- weaken the end -/
theorem thn {α : Type} {t : Sem α} {Q Q' : α → Shared → Prop} {M : Model} {A : Around} {E : Value → Shared → Prop} {s : Shared} (h : wpAny M A t Q E s) (hQ : ∀ a s, Q a s → Q' a s) : wpAny M A t Q' E s := wpAny_mono h hQ fun _ _ x => x
end L2

namespace L2
open PySem PySem.Spec PyProof.Rows
section
variable {X : Cx}

def tVar (i : Nat) : TE := fun σ H Q => ∃ v, σ[i]? = some (some v) ∧ Q v H
def tC (v : V) : TE := fun _ H Q => Q v H
theorem pe_var {i : Nat} {x : Str} {pos : Pos} (hN : X.N[i]? = some x) (hv : Vis X.env.scope x) (hd : (x == ("__debug__" : Str)) = false := by decide) (hcd : (x == ("__classdict__" : Str)) = false := by decide) : PE X (.Name x pos) (tVar i) := by
  intro pins s σ H Q I h
  obtain ⟨v, e, h⟩ := h
  obtain ⟨m, hn, hl⟩ := I.loc
  obtain ⟨u, r, l⟩ := hl i x v hN e hv
  have fin : EP X pins σ Q u s := ⟨v, H, I, r, h⟩
  rcases l with ⟨hk, hm⟩ | ⟨hk, c, hc, hcell⟩
  · exact wpAny_Name (wpAny_loadName_local I.ok.kind hk hn hm fin) hd
  · rcases hk with hk | hk
    · exact wpAny_Name (wpAny_loadName_cell I.ok.kind hk hc hcell fin) hd
    · exact wpAny_Name (wpAny_loadName_free I.ok.kind hk hc hcell fin hcd) hd
theorem pe_int {i j pos} : PE X (.Constant (.int i) j pos) (tC (.int i)) := fun _ _ _ H _ I h => wpAny_Constant_int ⟨.int i, H, I.tok _, ⟨_, rfl⟩, h⟩
theorem pe_bl {b j pos} : PE X (.Constant (.bool b) j pos) (tC (.bl b)) := fun _ _ _ H _ I h => Constant_bool ⟨.bl b, H, I, rfl, h⟩
theorem pe_non {j pos} : PE X (.Constant .none j pos) (tC .non) := fun _ _ _ H _ I h => Constant_none ⟨.non, H, I, rfl, h⟩
theorem pe_str {x j pos} : PE X (.Constant (.str x) j pos) (tC (.str x)) := fun _ _ _ H _ I h => Calls.Constant_str ⟨.str x, H, I.tok _, ⟨_, rfl⟩, h⟩

/-- a global name of the def -/
def Gl (X : Cx) (x : Str) : Prop := X.env.kindOf x = some .globalImplicit
theorem ld_glob {E : Value → Shared → Prop} {pins : List (Addr × Obj)} {s : Shared} {σ : St} {H : Hp} {x : Str} {u : Value} {pos : Pos} {Q : Value → Shared → Prop} (I : Inv X pins σ H s) (hg : Gl X x) (hm : X.mg x = some u) (h : Q u s)
    (hd : (x == ("__debug__" : Str)) = false := by decide) : wpAny (model X.prog X.w) X.A (eval (.Name x pos) X.env) Q E s :=
  Calls.Name_function_global I.ok.kind hg (Calls.loadGlobal_global (by rw [I.ok.glob]; exact I.mod.glob.keeps I.bk) hm h) hd
theorem ld_blt {E : Value → Shared → Prop} {pins : List (Addr × Obj)} {s : Shared} {σ : St} {H : Hp} {x : Str} {u : Value} {pos : Pos} {Q : Value → Shared → Prop} (I : Inv X pins σ H s) (hg : Gl X x) (hm : X.mg x = none) (hv : bootBuiltins x = some u) (h : Q u s)
    (hn : x ≠ "__name__" := by decide) (hd : (x == ("__debug__" : Str)) = false := by decide) : wpAny (model X.prog X.w) X.A (eval (.Name x pos) X.env) Q E s := by
  obtain ⟨mb, h1, h2⟩ := I.mod.blt
  exact Calls.Name_function_global I.ok.kind hg (Calls.loadGlobal_builtin (by rw [I.ok.glob]; exact I.mod.glob.keeps I.bk) hm (by rw [I.ok.blt]; exact h1.keeps I.bk) ((h2 x hn).trans hv) h) hd
theorem pe_bltn {x : Str} {v : V} {u : Value} {pos : Pos} (hg : Gl X x) (hm : X.mg x = none) (hv : bootBuiltins x = some u) (r : RelV v u) (hn : x ≠ "__name__" := by decide) (hd : (x == ("__debug__" : Str)) = false := by decide) : PE X (.Name x pos) (tC v) :=
  fun _ _ _ H _ I h => ld_blt I hg hm hv ⟨v, H, I, r, h⟩ hn hd

variable {a b : Expr} {ta tb : TE} {pos : Pos}
def PC (X : Cx) (op : CmpOp) (a b : Expr) (t : TE) : Prop :=
  ∀ (pins : List (Addr × Obj)) (s : Shared) (σ : St) (H : Hp) (Q : VK), Inv X pins σ H s → t σ H Q →
    wpAny (model X.prog X.w) X.A (eval a X.env) (fun v s₁ => wpAny (model X.prog X.w) X.A (eval b X.env) (fun u s₂ => wpAny (model X.prog X.w) X.A (compareOp op v u) (EP X pins σ Q) X.xe s₂) X.xe s₁) X.xe s
/-- a comparison as a value, as a test -/
def tB (t : TE) : TT := fun σ H Q => t σ H fun x H1 => ∃ c, x = .bl c ∧ Q c H1
theorem pe_cmp {op : CmpOp} {t : TE} (h : PC X op a b t) (h1 : behindInMarks op b = false := by first | exact nobehind _ (by decide) (by decide) | rfl) : PE X (.Compare a [op] [b] pos) t := fun pins s σ H Q I hw => wpAny_Compare1 (h pins s σ H Q I hw) h1
theorem pt_cmp {op : CmpOp} {t : TE} (h : PC X op a b t) (h1 : behindInMarks op b = false := by first | exact nobehind _ (by decide) (by decide) | rfl) : PT X (.Compare a [op] [b] pos) (tB t) := by
  intro pins s σ H Q I hw
  refine wpAny_isTrue_Compare1 (thn (h pins s σ H _ I hw) fun v s1 h1 => thn h1 fun u s2 h2 => thn h2 fun c s3 ⟨x, H1, I1, r1, q1⟩ => ?_) h1
  obtain ⟨d, rfl, q⟩ := q1
  cases r1
  exact wpAny_truthy_bool ⟨H1, I1, q⟩
/-- an expression whose value is a bool, as a test -/
theorem pt_val {e : Expr} {t : TE} (h : PE X e t) (he : ∀ whole, isTrue e X.env whole = (do let v ← whole; standAt e.pos; holding [v] (truthy v)) := by intro _; rfl) : PT X e (tB t) := by
  intro pins s σ H Q I hw
  refine isTrue_plain (thn (h pins s σ H _ I hw) fun v s1 ⟨x, H1, I1, r1, q1⟩ => ?_) (he _)
  obtain ⟨d, rfl, q⟩ := q1
  cases r1
  exact wpAny_truthy_bool ⟨H1, I1, q⟩

variable {tA tB' : TT} {rest : List Expr}
def tOr (t u : TT) : TT := fun σ H Q => t σ H fun c H1 => if c = true then Q true H1 else u σ H1 Q
def tNot (t : TT) : TT := fun σ H Q => t σ H fun c H1 => Q (!c) H1
theorem pw_or1 (ha : PT X a tA) : PW X (.BoolOp .Or [a] pos) tA := by
  intro wh pins s σ H Q I h
  refine isTrue_or (thn (ha pins s σ H Q I h) fun c s1 e => ?_)
  cases c with
  | false => exact isTrue_or_nil e
  | true => exact e
theorem pw_or (ha : PT X a tA) (hb : PW X (.BoolOp .Or (b :: rest) pos) tB') : PW X (.BoolOp .Or (a :: b :: rest) pos) (tOr tA tB') := by
  intro wh pins s σ H Q I h
  refine isTrue_or (thn (ha pins s σ H _ I h) fun c s1 ⟨H1, I1, q1⟩ => ?_)
  cases c with
  | true => exact ⟨H1, I1, q1⟩
  | false => exact hb wh pins s1 σ H1 Q I1 q1
theorem pt_not (ha : PT X a tA) : PT X (.UnaryOp .Not a pos) (tNot tA) := by
  intro pins s σ H Q I h
  exact isTrue_not (ha pins s σ H (fun c H1 => Q (!c) H1) I h)
/-- .. as values (bools) -/
def tAndV (ta tb : TE) : TE := fun σ H Q => ta σ H fun x H1 => ∃ c, x = .bl c ∧ if c = true then tb σ H1 Q else Q (.bl false) H1
def tNotV (ta : TE) : TE := fun σ H Q => ta σ H fun x H1 => ∃ c, x = .bl c ∧ Q (.bl (!c)) H1
theorem pe_one {op} {t : TE} (h : PE X a t) : PE X (.BoolOp op [a] pos) t := fun pins s σ H Q I hw => BoolOp_one (h pins s σ H Q I hw)
theorem pe_and (ha : PE X a ta) (hb : PE X (.BoolOp .And (b :: rest) pos) tb) : PE X (.BoolOp .And (a :: b :: rest) pos) (tAndV ta tb) := by
  intro pins s σ H Q I h
  refine BoolOp_and (thn (ha pins s σ H _ I h) fun v s1 ⟨x, H1, I1, r1, q1⟩ => ?_)
  obtain ⟨c, rfl, q1⟩ := q1
  cases r1
  refine wpAny_truthy_bool ?_
  cases c with
  | true => exact hb pins s1 σ H1 Q I1 q1
  | false => exact ⟨.bl false, H1, I1, rfl, q1⟩
theorem pe_not (ha : PE X a ta) : PE X (.UnaryOp .Not a pos) (tNotV ta) := by
  intro pins s σ H Q I h
  refine UnaryOp_ (thn (ha pins s σ H _ I h) fun v s1 ⟨x, H1, I1, r1, q1⟩ => ?_)
  obtain ⟨c, rfl, q1⟩ := q1
  cases r1
  exact not_of (wpAny_truthy_bool ⟨.bl (!c), H1, I1, rfl, q1⟩)
/-- a if t else b -/
def tIf (t : TT) (ta tb : TE) : TE := fun σ H Q => t σ H fun c H1 => if c = true then ta σ H1 Q else tb σ H1 Q
theorem pe_ifExp {c : Expr} (hc : PT X c tA) (ha : PE X a ta) (hb : PE X b tb) : PE X (.IfExp c a b pos) (tIf tA ta tb) := by
  intro pins s σ H Q I h
  refine wpAny_IfExp (thn (hc pins s σ H _ I h) fun d s1 ⟨H1, I1, q1⟩ => ?_)
  cases d with
  | true => exact ha pins s1 σ H1 Q I1 q1
  | false => exact hb pins s1 σ H1 Q I1 q1
end
end L2

namespace L2
open PySem PySem.Spec PyProof.Rows

def SqL (K : PySem.W.Frag) (H : Hp) (a : Addr) (xs : List V) : Prop :=
  Rd H a (.lst xs) ∨
    ∃ (o : Obj) (its : Array Value) (n : Nat), K.lookup a = some o ∧ o.cls = .type "list" ∧ o.dict = none ∧ o.data = .seq its n ∧ its.size ≤ sizeLine ∧ Vals xs its.toList
def SqT (K : PySem.W.Frag) (H : Hp) (a : Addr) (xs : List V) : Prop :=
  Rd H a (.tup xs) ∨
    ∃ (o : Obj) (its : Array Value) (n : Nat), K.lookup a = some o ∧ o.cls = .type "tuple" ∧ o.data = .seq its n ∧ its.size ≤ sizeLine ∧ Vals xs its.toList
def absV : Value → Option V
  | .none => some .non
  | .bool b => some (.bl b)
  | .int i _ => some (.int i)
  | .str x _ => some (.str x)
  | .bytes b _ => some (.byt b)
  | .float b _ => some (.flt b)
  | .ref a => some (.ref a)
  | .type n => some (.ty n)
  | _ => none
theorem RelV.abs {x : V} {u : Value} (r : RelV x u) : absV u = some x := by
  cases x with
  | non => cases r; rfl
  | bl _ => cases r; rfl
  | int _ => obtain ⟨t, rfl⟩ := r; rfl
  | str _ => obtain ⟨t, rfl⟩ := r; rfl
  | byt _ => obtain ⟨t, rfl⟩ := r; rfl
  | flt _ => obtain ⟨t, rfl⟩ := r; rfl
  | ref _ => cases r; rfl
  | ty _ => cases r; rfl
theorem RelV.inj {x y : V} {u : Value} (r : RelV x u) (q : RelV y u) : x = y := Option.some.inj (r.abs.symm.trans q.abs)
theorem Vals.inj : ∀ {xs ys : List V} {us : List Value}, Vals xs us → Vals ys us → xs = ys
  | _, _, _, .nil, .nil => rfl
  | _, _, _, .cons r t, .cons r' t' => by rw [r.inj r', Vals.inj t t']
section
variable {X : Cx} {pins : List (Addr × Obj)} {σ : St} {H : Hp} {s : Shared} {a : Addr} {xs ys : List V}
theorem SqL.of {K : PySem.W.Frag} (h : H a = some (.lst xs)) : SqL K H a xs := .inl (.inl h)
theorem SqT.of {K : PySem.W.Frag} (h : H a = some (.tup xs)) : SqT K H a xs := .inl (.inl h)
theorem Inv.list (I : Inv X pins σ H s) (h : SqL X.K H a xs) : ∃ its : List Value, Vals xs its ∧ PlainL s.heap a its.toArray ∧ xs.length ≤ sizeLine := by
  rcases h with h | ⟨o, its, n, hk, hc, hd, hs, hz, r⟩
  · obtain ⟨z, its, n, r, e⟩ := h.ok I.hok
    exact ⟨its, r, ⟨_, n, e, rfl, rfl, rfl⟩, z⟩
  · refine ⟨its.toList, r, ⟨o, n, I.kIn a o hk, hc, hd, by simpa using hs⟩, ?_⟩
    have e := r.length
    simp only [Array.length_toList] at e
    omega
theorem Inv.tuple (I : Inv X pins σ H s) (h : SqT X.K H a xs) : ∃ its : List Value, Vals xs its ∧ IsTup s.heap a its.toArray ∧ xs.length ≤ sizeLine := by
  rcases h with h | ⟨o, its, n, hk, hc, hs, hz, r⟩
  · obtain ⟨z, its, r, p⟩ := h.ok I.hok
    exact ⟨its, r, p, z.1⟩
  · refine ⟨its.toList, r, ⟨o, I.kIn a o hk, hc, n, by simpa using hs⟩, ?_⟩
    have e := r.length
    simp only [Array.length_toList] at e
    omega
theorem Inv.list_inj (I : Inv X pins σ H s) (h : SqL X.K H a xs) (h' : SqL X.K H a ys) : xs = ys := by
  obtain ⟨its, r, ⟨o, n, e, _, _, d⟩, _⟩ := I.list h
  obtain ⟨its', r', ⟨o', n', e', _, _, d'⟩, _⟩ := I.list h'
  rw [e] at e'; cases e'
  rw [d] at d'
  injection d' with d1 _
  have : its = its' := by simpa using congrArg Array.toList d1
  subst this
  exact r.inj r'
theorem Inv.tuple_inj (I : Inv X pins σ H s) (h : SqT X.K H a xs) (h' : SqT X.K H a ys) : xs = ys := by
  obtain ⟨its, r, ⟨o, e, _, n, d⟩, _⟩ := I.tuple h
  obtain ⟨its', r', ⟨o', e', _, n', d'⟩, _⟩ := I.tuple h'
  rw [e] at e'; cases e'
  rw [d] at d'
  injection d' with d1 _
  have : its = its' := by simpa using congrArg Array.toList d1
  subst this
  exact r.inj r'
end

abbrev Cx.wish (X : Cx) (E : Value → Shared → Prop) : Cx := { X with xe := E }
/-- no exception leaves -/
abbrev Cx.nox (X : Cx) : Cx := X.wish fun _ _ => False
theorem Cx.Ok.wish {X : Cx} (ok : X.Ok) (E : Value → Shared → Prop) : (X.wish E).Ok :=
  ⟨ok.mod, ok.kind, ok.glob, ok.blt, ok.above, ok.inj, ok.has, ok.cab, ok.hd, ok.frames, ok.stk, ok.exf, ok.bs, ok.bsz, ok.noex, ok.exfs, ok.funs, ok.frf⟩
theorem Cx.Ok.unwish {X : Cx} {E : Value → Shared → Prop} (ok : (X.wish E).Ok) : X.Ok :=
  ⟨ok.mod, ok.kind, ok.glob, ok.blt, ok.above, ok.inj, ok.has, ok.cab, ok.hd, ok.frames, ok.stk, ok.exf, ok.bs, ok.bsz, ok.noex, ok.exfs, ok.funs, ok.frf⟩
section
variable {X : Cx} {pins : List (Addr × Obj)} {σ : St} {H : Hp} {s : Shared} {E : Value → Shared → Prop}
theorem Inv.wish (I : Inv X pins σ H s) (E : Value → Shared → Prop) : Inv (X.wish E) pins σ H s := ⟨I.ok.wish E, I.os, I.bare, I.base, I.loc, I.cell, I.free, I.freeC, I.pin, I.hok, I.len⟩
theorem Inv.unwish (I : Inv (X.wish E) pins σ H s) : Inv X pins σ H s := ⟨I.ok.unwish, I.os, I.bare, I.base, I.loc, I.cell, I.free, I.freeC, I.pin, I.hok, I.len⟩
theorem SP.unwish {D : Ends} {f : Flow} {s' : Shared} (h : SP (X.wish E) pins D f s') : SP X pins D f s' := by
  cases f with
  | next => obtain ⟨σ', H', I, q⟩ := h; exact ⟨σ', H', I.unwish, q⟩
  | brk => obtain ⟨σ', H', I, q⟩ := h; exact ⟨σ', H', I.unwish, q⟩
  | cont => obtain ⟨σ', H', I, q⟩ := h; exact ⟨σ', H', I.unwish, q⟩
  | ret u => obtain ⟨v, σ', H', I, r, q⟩ := h; exact ⟨v, σ', H', I.unwish, r, q⟩
theorem PSs.nox {st : List Stmt} {t : TS} (h : PSs X.nox st t) : PSs X st t := fun pins s σ H D I hw =>
  wpAny_mono (h pins s σ H D (I.wish _) hw) (fun _ _ q => q.unwish) fun _ _ z => False.elim z
end

section
variable {X : Cx} {st : Stmt} {rest : List Stmt} {t u : TS} {e : Expr} {te : TE} {pos : Pos}
def tNext : TS := fun D σ H => D.nx σ H
def tSeq (t u : TS) : TS := fun D σ H => t { D with nx := u D } σ H
theorem pss_nil : PSs X [] tNext := fun _ _ σ H _ I h => wpAny_execs_nil ⟨σ, H, I, h⟩
theorem pss_cons (h1 : PS X st t) (h2 : PSs X rest u) : PSs X (st :: rest) (tSeq t u) := by
  intro pins s σ H D I h
  refine wpAny_execs_cons (thn (h1 pins s σ H { D with nx := u D } I h) fun f s1 q => ?_)
  cases f with
  | next =>
    obtain ⟨σ', H', I', q⟩ := q
    exact h2 pins s1 σ' H' D I' q
  | ret v => exact q
  | brk => exact q
  | cont => exact q
theorem pss_one (h1 : PS X st t) : PSs X [st] t := by
  intro pins s σ H D I h
  refine wpAny_execs_cons (thn (h1 pins s σ H D I h) fun f s1 q => ?_)
  cases f with
  | next => exact wpAny_execs_nil q
  | ret v => exact q
  | brk => exact q
  | cont => exact q
/-- in a def's body nothing is shown -/
theorem Inv.quiet {pins : List (Addr × Obj)} {σ : St} {H : Hp} {s : Shared} (I : Inv X pins σ H s) : interactive X.env = false := by simp [interactive, I.ok.kind]
/-- an expression whose value is dropped -/
def tDrop (te : TE) : TS := fun D σ H => te σ H fun _ H1 => D.nx σ H1
theorem ps_expr (he : PE X e te) (hs : swapsWith e none pos.line X.env = pure false := by rfl) : PS X (.Expr e pos) (tDrop te) := by
  intro pins s σ H D I h
  exact wpAny_Expr_any (thn (he pins s σ H _ I h) fun v s1 ⟨x, H1, I1, r1, q1⟩ => ⟨σ, H1, I1, q1⟩) I.quiet hs
def tRet (te : TE) : TS := fun D σ H => te σ H D.rt
theorem ps_ret (he : PE X e te) : PS X (.Return (some e) pos) (tRet te) := by
  intro pins s σ H D I h
  exact wpAny_Return_some (thn (he pins s σ H _ I h) fun v s1 ⟨x, H1, I1, r1, q1⟩ => ⟨x, σ, H1, I1, r1, q1⟩)
def tIfS (c : TT) (t u : TS) : TS := fun D σ H => c σ H fun b H1 => if b = true then t D σ H1 else u D σ H1
theorem ps_if {c : Expr} {a b : List Stmt} {tc : TT} (hc : PT X c tc) (ha : PSs X a t) (hb : PSs X b u) : PS X (.If c a b pos) (tIfS tc t u) := by
  intro pins s σ H D I h
  refine wpAny_If (thn (hc pins s σ H _ I h) fun d s1 ⟨H1, I1, q1⟩ => ?_)
  cases d with
  | true => exact ha pins s1 σ H1 D I1 q1
  | false => exact hb pins s1 σ H1 D I1 q1
end

abbrev TG := V → St → Hp → (St → Hp → Prop) → Prop
abbrev TGs := List V → St → Hp → (St → Hp → Prop) → Prop
def PG (X : Cx) (target : Expr) (t : TG) : Prop :=
  ∀ (pins : List (Addr × Obj)) (s : Shared) (σ : St) (H : Hp) (v : V) (u : Value) (Q : St → Hp → Prop), Inv X pins σ H s → RelV v u → t v σ H Q →
    wpAny (model X.prog X.w) X.A (assign target X.env u) (fun _ s' => ∃ σ' H', Inv X pins σ' H' s' ∧ Q σ' H') X.xe s
/-- several targets, one after another -/
def PGs (X : Cx) (ts : List Expr) (t : TGs) : Prop :=
  ∀ (pins : List (Addr × Obj)) (s : Shared) (σ : St) (H : Hp) (vs : List V) (us : List Value) (Q : St → Hp → Prop), Inv X pins σ H s → Vals vs us → t vs σ H Q →
    wpAny (model X.prog X.w) X.A (assignInOrder ((assignEach ts X.env).map (·.2)) us) (fun _ s' => ∃ σ' H', Inv X pins σ' H' s' ∧ Q σ' H') X.xe s
/-- o[i] = v, by values -/
abbrev TSet := V → V → V → Hp → (Hp → Prop) → Prop
def PSet (X : Cx) (t : TSet) : Prop :=
  ∀ (pins : List (Addr × Obj)) (s : Shared) (σ : St) (H : Hp) (o i v : V) (ov iv u : Value) (Q : Hp → Prop), Inv X pins σ H s → RelV o ov → RelV i iv → RelV v u → t o i v H Q →
    wpAny (model X.prog X.w) X.A (setItem ov iv u) (fun _ s' => ∃ H', Inv X pins σ H' s' ∧ Q H') X.xe s
/-- a op= b, by values -/
abbrev TIp := V → V → Hp → VK → Prop
def PIp (X : Cx) (op : Operator) (t : TIp) : Prop :=
  ∀ (pins : List (Addr × Obj)) (s : Shared) (σ : St) (H : Hp) (x y : V) (v u : Value) (Q : VK), Inv X pins σ H s → RelV x v → RelV y u → t x y H Q →
    wpAny (model X.prog X.w) X.A (inplaceOp op v u) (EP X pins σ Q) X.xe s
section
variable {X : Cx} {pos : Pos}
def gName (i : Nat) : TG := fun v σ H Q => Q (σ.set i (some v)) H
theorem pg_name {i : Nat} {x : Str} (hN : X.N.Nodup) (hi : X.N[i]? = some x) (hx : Loc X.env.scope x) (hf : X.fn x = true ∨ X.env.scope.names.lookup x = some .local := by first | exact .inl rfl | exact .inr rfl | assumption) : PG X (.Name x pos) (gName i) := by
  intro pins s σ H v u Q I r h
  exact wpAny_assign_Name (store_ok I hN hi hx r (fun s' I' => ⟨_, H, I', h⟩) hf)
def gNil : TGs := fun vs σ H Q => vs = [] ∧ Q σ H
def gCons (t : TG) (u : TGs) : TGs := fun vs σ H Q => ∃ v r, vs = v :: r ∧ t v σ H fun σ' H' => u r σ' H' Q
theorem pgs_nil : PGs X [] gNil := by
  intro pins s σ H vs us Q I r h
  obtain ⟨e, h⟩ := h
  subst e
  cases r
  exact assignInOrder_nil ⟨σ, H, I, h⟩
theorem pgs_cons {e : Expr} {es : List Expr} {t : TG} {u : TGs} (h1 : PG X e t) (h2 : PGs X es u)
    (hs : (assignEach (e :: es) X.env).map (·.2) = assign e X.env :: (assignEach es X.env).map (·.2) := by rfl) : PGs X (e :: es) (gCons t u) := by
  intro pins s σ H vs us Q I r h
  obtain ⟨v, vr, e1, h⟩ := h
  subst e1
  cases r with
  | cons r rr =>
    rw [hs]
    refine assignInOrder_cons (thn (h1 pins s σ H _ _ _ I r h) fun _ s1 ⟨σ1, H1, I1, q1⟩ => ?_)
    exact h2 pins s1 σ1 H1 _ _ Q I1 rr q1
/-- (a, b, ..) = a tuple of that length -/
def gTup (K : PySem.W.Frag) (n : Nat) (t : TGs) : TG := fun v σ H Q => ∃ a xs, v = .ref a ∧ SqT K H a xs ∧ xs.length = n ∧ t xs σ H Q
theorem pg_tup {es : List Expr} {k : Nat} {t : TGs} {n : Nat} (hc : X.calm = true) (h : PGs X es t)
    (hn : (assignEach es X.env).length = n := by rfl) (hst : (assignEach es X.env).findIdx? (·.1) = none := by rfl) : PG X (.Tuple es k pos) (gTup X.K n t) := by
  intro pins s σ H v u Q I r hw
  obtain ⟨a, xs, e1, hq, hl, hw⟩ := hw
  subst e1
  cases r
  obtain ⟨its, rv, ht, hz⟩ := I.tuple hq
  refine assign_Tuple_tuple (I.ok.hd hc) ht (by simp [hn, ← hl, rv.length]) hst fun h' hx => ?_
  have I1 : Inv X pins σ H { s with heap := h' } := I.kept (t' := s.toks) fun b o e => hx b o (Nat.ne_of_lt (Heap.lt_size e)) e
  exact h pins _ σ H xs _ Q I1 (by simpa using rv) hw
/-- target = value -/
def tAsg (te : TE) (g : TG) : TS := fun D σ H => te σ H fun x H1 => g x σ H1 D.nx
theorem ps_asg {tg e : Expr} {te : TE} {g : TG} (he : PE X e te) (hg : PG X tg g) (hs : swapsWithSole [tg] e pos.line X.env = pure false := by rfl) (hw : swappedStores [tg] e X.env = pure none := by rfl)
    (h1 : (assignEach [tg] X.env).map (·.2) = [assign tg X.env] := by rfl) : PS X (.Assign [tg] e pos) (tAsg te g) := by
  intro pins s σ H D I h
  refine wpAny_Assign_stores (thn (he pins s σ H _ I h) fun v s1 ⟨x, H1, I1, r1, q1⟩ => ?_) hs hw
  rw [h1]
  exact thn (hg pins s1 σ H1 x v _ I1 r1 q1) fun _ s2 q => q
/-- name = value -/
theorem ps_set {i : Nat} {x : Str} {e : Expr} {te : TE} {pos' : Pos} (hN : X.N.Nodup) (hi : X.N[i]? = some x) (hx : Loc X.env.scope x) (he : PE X e te) (hs : swapsWith e (some (.Name x pos')) pos.line X.env = pure false := by rfl) (hf : X.fn x = true ∨ X.env.scope.names.lookup x = some .local := by first | exact .inl rfl | exact .inr rfl | assumption) :
    PS X (.Assign [.Name x pos'] e pos) (tAsg te (gName i)) := by
  intro pins s σ H D I h
  refine wpAny_Assign_Name (thn (he pins s σ H _ I h) fun v s1 ⟨y, H1, I1, r1, q1⟩ => ?_) hs
  exact store_ok I1 hN hi hx r1 (fun s2 I2 => ⟨_, H1, I2, q1⟩) hf
/-- name op= e -/
def tAug (i : Nat) (te : TE) (ti : TIp) : TS := fun D σ H => ∃ x, σ[i]? = some (some x) ∧ te σ H fun y H1 => ti x y H1 fun z H2 => D.nx (σ.set i (some z)) H2
theorem ps_aug {i : Nat} {x : Str} {e : Expr} {te : TE} {op : Operator} {ti : TIp} {pos' : Pos} (hN : X.N.Nodup) (hi : X.N[i]? = some x) (hx : Loc X.env.scope x) (he : PE X e te) (ho : PIp X op ti) (hf : X.fn x = true ∨ X.env.scope.names.lookup x = some .local := by first | exact .inl rfl | exact .inr rfl | assumption) :
    PS X (.AugAssign (.Name x pos') op e pos) (tAug i te ti) := by
  intro pins s σ H D I h
  obtain ⟨v, e1, h⟩ := h
  obtain ⟨m, hn, hl⟩ := I.loc
  have vis : Vis X.env.scope x := by rcases hx with k | k; exact .inl k; exact .inr (.inl k)
  obtain ⟨u, r, l⟩ := hl i x v hi e1 vis
  refine wpAny_AugAssign_Name ?_
  have go : wpAny (model X.prog X.w) X.A (eval e X.env) (fun w s₂ => wpAny (model X.prog X.w) X.A (inplaceOp op u w) (fun r s₃ => wpAny (model X.prog X.w) X.A (storeName X.env x r) (fun _ => SP X pins D .next) X.xe s₃) X.xe s₂) X.xe s := by
    refine thn (he pins s σ H _ I h) fun w s1 ⟨y, H1, I1, r1, q1⟩ => ?_
    refine thn (ho pins s1 σ H1 v y u w _ I1 r r1 q1) fun z s2 ⟨zv, H2, I2, r2, q2⟩ => ?_
    exact store_ok I2 hN hi hx r2 (fun s3 I3 => ⟨_, H2, I3, q2⟩) hf
  rcases l with ⟨hk, hm⟩ | ⟨hk, c, hc, hcell⟩
  · exact wpAny_loadName_local I.ok.kind hk hn hm go
  · rcases hk with hk | hk
    · exact wpAny_loadName_cell I.ok.kind hk hc hcell go
    · rcases hx with k | k
      · have : X.env.scope.names.lookup x = some .free := hk
        rw [k] at this; cases this
      · have : X.env.scope.names.lookup x = some .free := hk
        rw [k] at this; cases this
/-- ints -/
def ipI (f : Int → Int → Int) : TIp := fun x y H Q => ∃ i j, x = .int i ∧ y = .int j ∧ Q (.int (f i j)) H
theorem ip_add : PIp X .Add (ipI fun i j => i + j) := by
  intro pins s σ H x y v u Q I r1 r2 h
  obtain ⟨i, j, e1, e2, q⟩ := h
  subst e1; subst e2
  obtain ⟨t, rfl⟩ := r1
  obtain ⟨t', rfl⟩ := r2
  exact iadd_int ⟨.int _, H, I.tok _, ⟨_, rfl⟩, q⟩
end

section
variable {X : Cx} {pos : Pos}
/-- the invariant W with its measure -/
def tWhile (c : TT) (tb : TS) : TS := fun D σ H => ∃ W : Nat → St → Hp → Prop, (∃ m, W m σ H) ∧ ∀ m σ H, W m σ H →
  c σ H fun b H1 => if b = true then ∃ N : St → Hp → Prop, (∀ σ' H', N σ' H' → ∃ m', m' < m ∧ W m' σ' H') ∧ tb { D with nx := N, ct := N, bk := D.nx } σ H1 else D.nx σ H1
theorem ps_while {c : Expr} {body : List Stmt} {tc : TT} {tb : TS} (hp : PassesOwn (model X.prog X.w) X.A X.env X.xe) (hc : PT X c tc) (hb : PSs X body tb) : PS X (.While c body [] pos) (tWhile tc tb) := by
  intro pins s σ H D I h
  obtain ⟨W, ⟨m0, w0⟩, turn⟩ := h
  refine wpAny_While (codeAny_whileLoop (fun n s' => ∃ σ' H', Inv X pins σ' H' s' ∧ W n σ' H') ?_ m0 ⟨σ, H, I, w0⟩)
  rintro n s1 ⟨σ1, H1, I1, w1⟩
  refine wpAny_passesOwn hp (thn (hc pins s1 σ1 H1 _ I1 (turn n σ1 H1 w1)) fun b s2 ⟨H2, I2, q2⟩ => ?_)
  cases b with
  | true =>
    obtain ⟨N, hN, q2⟩ := q2
    rw [if_pos rfl]
    refine wpAny_passesOwn hp (thn (hb pins s2 σ1 H2 _ I2 q2) fun f s3 q3 => ?_)
    cases f with
    | next =>
      obtain ⟨σ3, H3, I3, n3⟩ := q3
      obtain ⟨m', hm, w3⟩ := hN σ3 H3 n3
      exact ⟨m', hm, σ3, H3, I3, w3⟩
    | cont =>
      obtain ⟨σ3, H3, I3, n3⟩ := q3
      obtain ⟨m', hm, w3⟩ := hN σ3 H3 n3
      exact ⟨m', hm, σ3, H3, I3, w3⟩
    | brk => exact q3
    | ret v => exact q3
  | false =>
    rw [if_neg Bool.false_ne_true]
    exact wpAny_execs_nil ⟨σ1, H2, I2, q2⟩
end

/-- at turn i: it yields x (the heap may grow), or it stops -/
structure It where
  go : Nat → Hp → Prop
  yld : Nat → Hp → V → Hp → Prop
  stop : Nat → Hp → Prop
/-- the iterator's own objects may turn: they are not the frame's, not pinned, younger than the entry (or a comprehension's own) -/
def FpOk (X : Cx) (pins : List (Addr × Obj)) (H : Hp) (b : Addr) : Prop :=
  H b = none ∧ b ≠ X.env.locals ∧ b ∉ X.fs ∧ (b ∈ X.ex ∨ X.s₀.heap.objs.size ≤ b) ∧ (∀ x c, X.env.cells.lookup x = some c → c ≠ b) ∧ ∀ p ∈ X.pn ++ pins, p.1 ≠ b
theorem Inv.fpOk {X : Cx} {pins : List (Addr × Obj)} {σ : St} {H H' : Hp} {s : Shared} {b : Addr} (I : Inv X pins σ H s) (hb : s.heap.objs.size ≤ b) (hn : H' b = none) : FpOk X pins H' b := by
  refine ⟨hn, Nat.ne_of_gt (Nat.lt_of_lt_of_le I.lt hb), I.nofs hb, .inr (Nat.le_trans I.sz hb), fun x c e z => ?_, fun p hp z => ?_⟩
  · obtain ⟨v, q⟩ := I.cell x c e
    exact absurd (Nat.lt_of_lt_of_le q.lt (by rw [z]; exact hb)) (Nat.lt_irrefl _)
  · exact absurd (Nat.lt_of_lt_of_le (Heap.lt_size (I.pin p hp).1) (by rw [z]; exact hb)) (Nat.lt_irrefl _)
structure Turn (P : Program) (w : World) (K : PySem.W.Frag) (tg : Expr) (J : It) (fp : List Addr) (it : Addr) (tn : Nat → Heap → Prop) : Prop where
  mem : it ∈ fp
  obj : ∀ i h, tn i h → ∀ b ∈ fp, ∃ o, h.get? b = some o ∧ ∀ v, o.data ≠ .cell v
  keep : ∀ i h h', tn i h → (∀ b ∈ fp, ∀ o, h.get? b = some o → h'.get? b = some o) → tn i h'
  item : ∀ (X : Cx), X.prog = P → X.w = w → X.K = K → X.calm = true → ∀ (i : Nat) (pins : List (Addr × Obj)) (s : Shared) (σ : St) (H : Hp) (E : Value → Shared → Prop), Inv X pins σ H s → (∀ b ∈ fp, FpOk X pins H b) → tn i s.heap → J.go i H →
    wpAny (model P w) X.A (pyNext (.ref it)) (fun r s1 => ∃ u, r = some u ∧
      wpAny (model P w) X.A (letOwnedTupleGo tg (.ref it) u) (fun _ s2 => ∃ x H', Inv X pins σ H' s2 ∧ RelV x u ∧ J.yld i H x H' ∧ tn (i + 1) s2.heap ∧ ∀ b ∈ fp, H' b = none) E s1) E s
  done : ∀ (X : Cx), X.prog = P → X.w = w → X.K = K → X.calm = true → ∀ (i : Nat) (pins : List (Addr × Obj)) (s : Shared) (σ : St) (H : Hp) (E : Value → Shared → Prop), Inv X pins σ H s → (∀ b ∈ fp, FpOk X pins H b) → tn i s.heap → J.stop i H →
    wpAny (model P w) X.A (pyNext (.ref it)) (fun r s1 => r = none ∧ Inv X pins σ H s1) E s
  self : ∀ (A : Around) (i : Nat) (s : Shared) (Q : Value → Shared → Prop) (E : Value → Shared → Prop), tn i s.heap → Q (.ref it) s → wpAny (model P w) A (pyIter (.ref it)) Q E s
abbrev TI := St → Hp → (It → Hp → Prop) → Prop
/-- an iterator has come -/
def PIE (X : Cx) (pins : List (Addr × Obj)) (σ : St) (tg : Expr) (R : It → Hp → Prop) (itv : Value) (s2 : Shared) : Prop :=
  ∃ (it : Addr) (fp : List Addr) (tn : Nat → Heap → Prop) (J : It) (H' : Hp), itv = .ref it ∧ Inv X pins σ H' s2 ∧ Turn X.prog X.w X.K tg J fp it tn ∧ tn 0 s2.heap ∧ (∀ b ∈ fp, FpOk X pins H' b) ∧ R J H'
def PI (X : Cx) (tg iter : Expr) (wi : TI) : Prop :=
  ∀ (pins : List (Addr × Obj)) (s : Shared) (σ : St) (H : Hp) (R : It → Hp → Prop), Inv X pins σ H s → wi σ H R →
    wpAny (model X.prog X.w) X.A (eval iter X.env) (fun v s1 => wpAny (model X.prog X.w) X.A (pyIter v) (PIE X pins σ tg R) X.xe s1) X.xe s

/-- the step ahead of the store is nothing for an iterator that keeps no tuple -/
theorem go_of {M : Model} {A : Around} {E : Value → Shared → Prop} {s : Shared} {tg : Expr} {it : Addr} {u : Value} {o : Obj} {n : String} {vs : Array Value} {Q : Unit → Shared → Prop} (ho : s.heap.get? it = some o) (hc : o.cls = .type n) (hd : o.data = .fields vs)
    (hn : ["enumerate", "zip", "dict_itemiterator", "dict_reverseitemiterator", "odict_iterator", "itertools.zip_longest", "itertools.pairwise"].contains n = false) (hQ : Q () s) : wpAny M A (letOwnedTupleGo tg (.ref it) u) Q E s := by
  unfold letOwnedTupleGo
  cases tg <;> first
    | exact wpAny_pure hQ
    | (cases u <;> first
        | exact wpAny_pure hQ
        | (refine wpAny_bind (wpAny_load ho ?_)
           rw [hc, hd]
           show wpAny M A (if (["enumerate", "zip", "dict_itemiterator", "dict_reverseitemiterator", "odict_iterator", "itertools.zip_longest", "itertools.pairwise"].contains n && vs[0]? == some (rawInt _)) = true then _ else _) Q E s
           rw [if_neg (by intro h; rw [hn, Bool.false_and] at h; cases h)]
           exact wpAny_pure hQ))

/-- the list at a, as it stands at each turn (a loop may append to it) -/
def Itl (K : PySem.W.Frag) (a : Addr) : It :=
  ⟨fun i H => ∃ xs x, SqL K H a xs ∧ xs[i]? = some x, fun i H x H' => H' = H ∧ ∀ xs, SqL K H a xs → xs[i]? = some x, fun i H => ∃ xs, SqL K H a xs ∧ xs.length ≤ i⟩
def Itt (K : PySem.W.Frag) (a : Addr) : It :=
  ⟨fun i H => ∃ xs x, SqT K H a xs ∧ xs[i]? = some x, fun i H x H' => H' = H ∧ ∀ xs, SqT K H a xs → xs[i]? = some x, fun i H => ∃ xs, SqT K H a xs ∧ xs.length ≤ i⟩
/-- lo, lo + 1, .. (n of them) -/
def Itr (lo : Int) (n : Nat) : It := ⟨fun i _ => i < n, fun i H x H' => H' = H ∧ x = .int (lo + i), fun i _ => n ≤ i⟩
theorem turn_list {P : Program} {w : World} {K : PySem.W.Frag} {tg : Expr} (a it : Addr) : Turn P w K tg (Itl K a) [it] it (fun i h => h.IsListIter it a i) where
  mem := by simp
  obj := fun i h st b hb => by
    have e : b = it := by simpa using hb
    subst e
    obtain ⟨o, e, c, d⟩ := st
    exact ⟨o, e, fun v z => by rw [d] at z; cases z⟩
  keep := fun i h h' st k => st.at fun o e => k it (by simp) o e
  item := by
    intro X hP hw hK hc i pins s σ H E I hf st hg
    subst hP hw hK
    obtain ⟨xs, x, hq, hx⟩ := hg
    obtain ⟨its, rv, p, hz⟩ := I.list hq
    obtain ⟨u, hu, ru⟩ := rv.get hx
    obtain ⟨f0, f1, f2, f3, f4, f5⟩ := hf it (by simp)
    refine wpAny_pyNext_list_item st p.isList (x := u) (by simpa using hu) fun h' st' sb => ?_
    have I1 : Inv X pins σ H { s with heap := h' } := I.turned (t' := s.toks) (fun b o hb e => (sb.2 b hb).trans e) f0 f1 f3 f4 f5
    obtain ⟨o, e, c, d⟩ := id st'
    exact ⟨u, rfl, go_of (s := { s with heap := h' }) e c d (by decide) ⟨x, H, I1, ru, ⟨rfl, fun ys hy => by rw [I.list_inj hy hq]; exact hx⟩, st', fun b hb => (hf b hb).1⟩⟩
  done := by
    intro X hP hw hK hc i pins s σ H E I hf st hg
    subst hP hw hK
    obtain ⟨xs, hq, hx⟩ := hg
    obtain ⟨its, rv, p, hz⟩ := I.list hq
    obtain ⟨f0, f1, f2, f3, f4, f5⟩ := hf it (by simp)
    have hl := rv.length
    exact wpAny_pyNext_list_end (I.ok.hd hc) st p.isList (by simp; omega) fun h' eb => ⟨rfl, I.turned (t' := s.toks) (fun b o hb e => eb b o hb e) f0 f1 f3 f4 f5⟩
  self := fun _ _ _ _ _ st h => wpAny_pyIter_listiter st h
theorem turn_tuple {P : Program} {w : World} {K : PySem.W.Frag} {tg : Expr} (a it : Addr) : Turn P w K tg (Itt K a) [it] it (fun i h => h.IsTupleIter it a i) where
  mem := by simp
  obj := fun i h st b hb => by
    have e : b = it := by simpa using hb
    subst e
    obtain ⟨o, e, c, d⟩ := st
    exact ⟨o, e, fun v z => by rw [d] at z; cases z⟩
  keep := fun i h h' st k => st.at fun o e => k it (by simp) o e
  item := by
    intro X hP hw hK hc i pins s σ H E I hf st hg
    subst hP hw hK
    obtain ⟨xs, x, hq, hx⟩ := hg
    obtain ⟨its, rv, p, hz⟩ := I.tuple hq
    obtain ⟨u, hu, ru⟩ := rv.get hx
    obtain ⟨f0, f1, f2, f3, f4, f5⟩ := hf it (by simp)
    refine wpAny_pyNext_tuple_item st (show s.heap.IsTuple a its.toArray from p) (x := u) (by simpa using hu) fun h' st' sb => ?_
    have I1 : Inv X pins σ H { s with heap := h' } := I.turned (t' := s.toks) (fun b o hb e => (sb.2 b hb).trans e) f0 f1 f3 f4 f5
    obtain ⟨o, e, c, d⟩ := id st'
    exact ⟨u, rfl, go_of (s := { s with heap := h' }) e c d (by decide) ⟨x, H, I1, ru, ⟨rfl, fun ys hy => by rw [I.tuple_inj hy hq]; exact hx⟩, st', fun b hb => (hf b hb).1⟩⟩
  done := by
    intro X hP hw hK hc i pins s σ H E I hf st hg
    subst hP hw hK
    obtain ⟨xs, hq, hx⟩ := hg
    obtain ⟨its, rv, p, hz⟩ := I.tuple hq
    obtain ⟨f0, f1, f2, f3, f4, f5⟩ := hf it (by simp)
    have hl := rv.length
    exact wpAny_pyNext_tuple_end (I.ok.hd hc) st (show s.heap.IsTuple a its.toArray from p) (by simp; omega) fun h' eb => ⟨rfl, I.turned (t' := s.toks) (fun b o hb e => eb b o hb e) f0 f1 f3 f4 f5⟩
  self := fun _ _ _ _ _ st h => wpAny_pyIter_tupleiter st h
theorem turn_range {P : Program} {w : World} {K : PySem.W.Frag} {tg : Expr} (it : Addr) (lo : Int) (n : Nat) : Turn P w K tg (Itr lo n) [it] it (fun i h => IsRangeIter h it (lo + (i : Nat) * 1) ((n : Int) - (i : Nat)) 1) where
  mem := by simp
  obj := fun i h st b hb => by
    have e : b = it := by simpa using hb
    subst e
    exact ⟨_, st, fun v z => by
      have z' : Data.fields _ = Data.cell v := z
      cases z'⟩
  keep := fun i h h' st k => k it (by simp) _ st
  item := by
    intro X hP hw hK hc i pins s σ H E I hf st hg
    subst hP hw hK
    obtain ⟨f0, f1, f2, f3, f4, f5⟩ := hf it (by simp)
    have W := Walks.range (prog := X.prog) (w := X.w) (I.ok.hd hc) it lo 1 n
    refine W.item i s _ _ hg st fun v h' tk hv st' kk => ?_
    obtain ⟨t, rfl⟩ := hv
    have I1 : Inv X pins σ H { s with heap := h', toks := tk } := I.turned (fun b o hb e => kk b o (by simpa using hb) e) f0 f1 f3 f4 f5
    refine ⟨_, rfl, go_of (s := { s with heap := h', toks := tk }) (n := "range_iterator") st' rfl rfl (by decide) ⟨.int (lo + i), H, I1, ⟨t, ?_⟩, ⟨rfl, rfl⟩, st', fun b hb => (hf b hb).1⟩⟩
    rw [Int.mul_one]
  done := by
    intro X hP hw hK hc i pins s σ H E I hf st hg
    subst hP hw hK
    obtain ⟨f0, f1, f2, f3, f4, f5⟩ := hf it (by simp)
    exact wpAny_pyNext_range_end (I.ok.hd hc) st (by have : n ≤ i := hg; omega) fun h' eb => ⟨rfl, I.turned (t' := s.toks) (fun b o hb e => eb b o hb e) f0 f1 f3 f4 f5⟩
  self := fun _ _ _ _ _ st h => wpAny_pyIter_rangeiter st h
end L2

namespace L2
open PySem PySem.Spec PyProof.Rows
section
variable {X : Cx} {tg : Expr}
def iList (K : PySem.W.Frag) (tl : TE) : TI := fun σ H R => tl σ H fun x H1 => ∃ a, x = .ref a ∧ (∃ xs, SqL K H1 a xs) ∧ R (Itl K a) H1
def iTup (K : PySem.W.Frag) (tl : TE) : TI := fun σ H R => tl σ H fun x H1 => ∃ a, x = .ref a ∧ (∃ xs, SqT K H1 a xs) ∧ R (Itt K a) H1
theorem pi_list {l : Expr} {tl : TE} (hl : PE X l tl) : PI X tg l (iList X.K tl) := by
  intro pins s σ H R I h
  refine thn (hl pins s σ H _ I h) fun v s1 ⟨x, H1, I1, r1, q1⟩ => ?_
  obtain ⟨a, e, ⟨xs, hq⟩, q⟩ := q1
  subst e
  cases r1
  obtain ⟨its, rv, p, hz⟩ := I1.list hq
  refine wpAny_pyIter_list p.isList ?_
  refine ⟨s1.heap.objs.size, [s1.heap.objs.size], _, _, H1, rfl, I1.kept (t' := s1.toks) fun b o e => Heap.get?_push_of_some _ e, turn_list a _, ⟨_, Heap.get?_push_size _ rfl, rfl, rfl⟩, fun b hb => ?_, q⟩
  have e : b = s1.heap.objs.size := by simpa using hb
  subst e
  exact I1.fpOk (Nat.le_refl _) (I1.hok.fresh (Nat.le_refl _))
theorem pi_tup {l : Expr} {tl : TE} (hl : PE X l tl) : PI X tg l (iTup X.K tl) := by
  intro pins s σ H R I h
  refine thn (hl pins s σ H _ I h) fun v s1 ⟨x, H1, I1, r1, q1⟩ => ?_
  obtain ⟨a, e, ⟨xs, hq⟩, q⟩ := q1
  subst e
  cases r1
  obtain ⟨its, rv, p, hz⟩ := I1.tuple hq
  refine wpAny_pyIter_tuple (show s1.heap.IsTuple a its.toArray from p) ?_
  refine ⟨s1.heap.objs.size, [s1.heap.objs.size], _, _, H1, rfl, I1.kept (t' := s1.toks) fun b o e => Heap.get?_push_of_some _ e, turn_tuple a _, ⟨_, Heap.get?_push_size _ rfl, rfl, rfl⟩, fun b hb => ?_, q⟩
  have e : b = s1.heap.objs.size := by simpa using hb
  subst e
  exact I1.fpOk (Nat.le_refl _) (I1.hok.fresh (Nat.le_refl _))
/-- a range object just made, walked -/
theorem range_it {pins : List (Addr × Obj)} {σ : St} {H : Hp} {s : Shared} {R : It → Hp → Prop} {E : Value → Shared → Prop} {lo hi : Int} {t u v : Tok} {tk : Nat} (I : Inv X pins σ H s) (h1 : -(2 ^ 62) ≤ lo) (h2 : lo < 2 ^ 62) (h3 : -(2 ^ 62) ≤ hi) (h4 : hi < 2 ^ 62)
    (q : R (Itr lo (hi - lo).toNat) H) : wpAny (model X.prog X.w) X.A (pyIter (.ref s.heap.objs.size)) (PIE X pins σ tg R) E { s with heap := s.heap.push { cls := .type "range", data := .fields #[.int lo t, .int hi u, .int 1 v] }, toks := tk } := by
  refine wpAny_pyIter_range (IsRange.new ..) (small_one h1 h2 h3 h4) ?_
  have I1 : Inv X pins σ H { s with heap := s.heap.push { cls := .type "range", data := .fields #[.int lo t, .int hi u, .int 1 v] }, toks := tk } := I.kept fun b o e => Heap.get?_push_of_some _ e
  refine ⟨(s.heap.push { cls := .type "range", data := .fields #[.int lo t, .int hi u, .int 1 v] }).objs.size, [(s.heap.push { cls := .type "range", data := .fields #[.int lo t, .int hi u, .int 1 v] }).objs.size], _, _, H, rfl,
    I1.kept (t' := tk) fun b o e => Heap.get?_push_of_some _ e, turn_range _ lo (hi - lo).toNat, ?_, fun b hb => ?_, q⟩
  · have e1 : lo + ((0 : Nat) : Int) * 1 = lo := by simp
    have e2 : (((hi - lo).toNat : Nat) : Int) - ((0 : Nat) : Int) = Builtin.Range.rangeSize lo hi 1 := by rw [rangeSize_one]; split <;> omega
    show IsRangeIter _ _ (lo + ((0 : Nat) : Int) * 1) ((((hi - lo).toNat : Nat) : Int) - ((0 : Nat) : Int)) 1
    rw [e1, e2]
    exact Heap.get?_push_size _ rfl
  · have e : b = (s.heap.push { cls := .type "range", data := .fields #[.int lo t, .int hi u, .int 1 v] }).objs.size := by simpa using hb
    subst e
    exact I1.fpOk (Nat.le_refl _) (I1.hok.fresh (Nat.le_refl _))
def iRng1 (ta : TA) : TI := fun σ H R => ta σ H fun vs H1 => ∃ j : Int, vs = [.int j] ∧ -(2 ^ 62) ≤ j ∧ j < 2 ^ 62 ∧ R (Itr 0 j.toNat) H1
theorem pi_range1 {a : Expr} {ta : TA} {p pos : Pos} (hg : Gl X "range") (hm : X.mg "range" = none) (ha : PA X [a] ta) (hs : starEach [a] X.env = [(false, eval a X.env)] := by rfl) : PI X tg (.Call (.Name "range" p) [a] [] pos) (iRng1 ta) := by
  intro pins s σ H R I h
  refine Call_ (ld_blt I hg hm boot_range (PyProof.Rows.callWith_type1 (thn (ha pos pins s σ H _ I h) fun us s1 ⟨vs, H1, I1, r1, q1⟩ => ?_) hs rfl))
  obtain ⟨j, e, q1, q2, q⟩ := q1
  subst e
  cases r1 with
  | cons r rr =>
    cases rr
    obtain ⟨t, rfl⟩ := r
    exact call_range_1 (range_it I1 (by omega) (by omega) q1 q2 (by simpa using q))
/-- W: the invariant by the turn and a measure; N: what the body is to reach -/
def tFor (wi : TI) (g : TG) (tb : TS) : TS := fun D σ H => wi σ H fun J H1 => ∃ W : Nat → Nat → St → Hp → Prop, (∃ m, W 0 m σ H1) ∧ ∀ i m σ H, W i m σ H →
  (J.stop i H ∧ D.nx σ H) ∨ (J.go i H ∧ ∃ N : St → Hp → Prop, (∀ σ' H', N σ' H' → ∃ m', m' < m ∧ W (i + 1) m' σ' H') ∧ ∀ x H', J.yld i H x H' → g x σ H' fun σ2 H2 => tb { D with nx := N, ct := N, bk := D.nx } σ2 H2)
/-- the records at fp as they stand -/
def pinsAt (fp : List Addr) (h : Heap) : List (Addr × Obj) := fp.filterMap fun b => (h.get? b).map fun o => (b, o)
theorem mem_pinsAt {fp : List Addr} {h : Heap} {b : Addr} {o : Obj} (hb : b ∈ fp) (e : h.get? b = some o) : (b, o) ∈ pinsAt fp h := List.mem_filterMap.mpr ⟨b, hb, by rw [e]; rfl⟩
theorem of_pinsAt {fp : List Addr} {h : Heap} {p : Addr × Obj} (hp : p ∈ pinsAt fp h) : p.1 ∈ fp ∧ h.get? p.1 = some p.2 := by
  obtain ⟨b, hb, e⟩ := List.mem_filterMap.mp hp
  cases q : h.get? b with
  | none => rw [q] at e; cases e
  | some o =>
    rw [q] at e
    have e' : (b, o) = p := Option.some.inj e
    subst e'
    exact ⟨hb, q⟩
theorem Inv.pinned {pins : List (Addr × Obj)} {σ : St} {H : Hp} {s : Shared} {fp : List Addr} (I : Inv X pins σ H s) (hf : ∀ b ∈ fp, FpOk X pins H b) (ho : ∀ b ∈ fp, ∃ o, s.heap.get? b = some o ∧ ∀ v, o.data ≠ .cell v) : Inv X (pins ++ pinsAt fp s.heap) σ H s :=
  I.pins_of fun p hp => (List.mem_append.mp hp).elim (fun z => I.pin p (List.mem_append_right _ z)) fun z => by
    obtain ⟨hb, e⟩ := of_pinsAt z
    obtain ⟨f0, f1, f2, _⟩ := hf p.1 hb
    obtain ⟨o, e', d⟩ := ho p.1 hb
    rw [e] at e'; cases e'
    exact ⟨e, f0, f1, f2, d⟩
theorem Inv.unpinned {pins pl : List (Addr × Obj)} {σ : St} {H : Hp} {s : Shared} (I : Inv X (pins ++ pl) σ H s) : Inv X pins σ H s := I.pins_of fun p hp => I.pin p (List.mem_append_right _ (List.mem_append_left _ hp))
theorem ps_for {iter : Expr} {body : List Stmt} {wi : TI} {g : TG} {tb : TS} {pos : Pos} (hp : PassesOwn (model X.prog X.w) X.A X.env X.xe) (hc : X.calm = true) (hi : PI X tg iter wi) (hg : PG X tg g) (hb : PSs X body tb)
    (hs : ∀ x, foldedSetIterable iter X.env x = pure x := by intro _; rfl) : PS X (.For tg iter body [] pos) (tFor wi g tb) := by
  intro pins s σ H D I h
  refine wpAny_For (thn (hi pins s σ H _ I h) fun v s1 h1 => thn h1 fun itv s2 h2 => ?_) hs
  obtain ⟨it, fp, tn, J, H2, e, I2, T, st2, f2, W, ⟨m0, w0⟩, turn⟩ := h2
  subst e
  -- what stays true of the iterator's objects through the loop
  have stat : ∀ {H' : Hp}, (∀ b ∈ fp, H' b = none) → ∀ b ∈ fp, FpOk X pins H' b := fun hn b hb => ⟨hn b hb, (f2 b hb).2⟩
  refine codeAny_forLoop_any (fun n s' => ∃ i σ' H', Inv X pins σ' H' s' ∧ tn i s'.heap ∧ (∀ b ∈ fp, H' b = none) ∧ W i n σ' H') ?_ m0 ⟨0, σ, H2, I2, st2, fun b hb => (f2 b hb).1, w0⟩
  rintro n s3 ⟨i, σ3, H3, I3, st3, fr3, w3⟩
  rcases turn i n σ3 H3 w3 with ⟨stop, qn⟩ | ⟨go, N, hN, step⟩
  · refine wpAny_passesOwn hp (thn (T.done X rfl rfl rfl hc i pins s3 σ3 H3 X.xe I3 (stat fr3) st3 stop) fun r s4 ⟨hr, I4⟩ => ?_)
    subst hr
    exact wpAny_execs_nil ⟨σ3, H3, I4, qn⟩
  · refine wpAny_passesOwn hp (thn (T.item X rfl rfl rfl hc i pins s3 σ3 H3 X.xe I3 (stat fr3) st3 go) fun r s4 ⟨u, hr, h4⟩ => ?_)
    subst hr
    refine wpAny_passesOwn hp (thn h4 fun _ s5 ⟨x, H5, I5, r5, y5, st5, fr5⟩ => ?_)
    have I5' := I5.pinned (stat fr5) (T.obj _ _ st5)
    refine wpAny_passesOwn hp (thn (hg _ s5 σ3 H5 x u _ I5' r5 (step x H5 y5)) fun _ s6 ⟨σ6, H6, I6, q6⟩ => ?_)
    refine wpAny_passesOwn hp (thn (hb _ s6 σ6 H6 _ I6 q6) fun f s7 q7 => ?_)
    have again : ∀ {σ7 : St} {H7 : Hp}, Inv X (pins ++ pinsAt fp s5.heap) σ7 H7 s7 → N σ7 H7 → ∃ m, m < n ∧ ∃ i σ' H', Inv X pins σ' H' s7 ∧ tn i s7.heap ∧ (∀ b ∈ fp, H' b = none) ∧ W i m σ' H' := fun {σ7 H7} I7 n7 => by
      obtain ⟨m', hm, w7⟩ := hN σ7 H7 n7
      refine ⟨m', hm, i + 1, σ7, H7, I7.unpinned, T.keep _ _ _ st5 fun b hb o e => (I7.pin (b, o) (List.mem_append_right _ (List.mem_append_right _ (mem_pinsAt hb e)))).1, fun b hb => ?_, w7⟩
      obtain ⟨o, e, d⟩ := T.obj _ _ st5 b hb
      exact (I7.pin (b, o) (List.mem_append_right _ (List.mem_append_right _ (mem_pinsAt hb e)))).2.1
    cases f with
    | next => obtain ⟨σ7, H7, I7, n7⟩ := q7; exact again I7 n7
    | cont => obtain ⟨σ7, H7, I7, n7⟩ := q7; exact again I7 n7
    | brk => obtain ⟨σ7, H7, I7, q7⟩ := q7; exact ⟨σ7, H7, I7.unpinned, q7⟩
    | ret v => obtain ⟨x7, σ7, H7, I7, r7, q7⟩ := q7; exact ⟨x7, σ7, H7, I7.unpinned, r7, q7⟩
end

/-- over a list that the body leaves as it is -/
theorem for_list {K : PySem.W.Frag} {a : Addr} {xs : List V} {g : TG} {tb : TS} {D : Ends} {σ : St} {H : Hp} (Pv : Nat → St → Hp → Prop) (h0 : Pv 0 σ H) (hl : ∀ i σ H, i ≤ xs.length → Pv i σ H → SqL K H a xs)
    (hs : ∀ i x σ H, xs[i]? = some x → Pv i σ H → g x σ H fun σ2 H2 => tb { D with nx := Pv (i + 1), ct := Pv (i + 1), bk := D.nx } σ2 H2) (hd : ∀ σ H, Pv xs.length σ H → D.nx σ H) :
    ∃ W : Nat → Nat → St → Hp → Prop, (∃ m, W 0 m σ H) ∧ ∀ i m σ H, W i m σ H →
      ((Itl K a).stop i H ∧ D.nx σ H) ∨ ((Itl K a).go i H ∧ ∃ N : St → Hp → Prop, (∀ σ' H', N σ' H' → ∃ m', m' < m ∧ W (i + 1) m' σ' H') ∧ ∀ x H', (Itl K a).yld i H x H' → g x σ H' fun σ2 H2 => tb { D with nx := N, ct := N, bk := D.nx } σ2 H2) := by
  refine ⟨fun i m σ H => m = xs.length - i ∧ i ≤ xs.length ∧ Pv i σ H, ⟨xs.length, by simp, Nat.zero_le _, h0⟩, ?_⟩
  rintro i m σ H ⟨rfl, hi, p⟩
  have q := hl i σ H hi p
  by_cases hlt : i < xs.length
  · refine .inr ⟨⟨xs, xs[i], q, by simp [hlt]⟩, Pv (i + 1), fun σ' H' p' => ⟨xs.length - (i + 1), by omega, rfl, hlt, p'⟩, fun x H' y => ?_⟩
    obtain ⟨e, y⟩ := y
    subst e
    exact hs i x σ _ (y xs q) p
  · have e : i = xs.length := by omega
    subst e
    exact .inl ⟨⟨xs, q, Nat.le_refl _⟩, hd σ H p⟩
theorem for_tup {K : PySem.W.Frag} {a : Addr} {xs : List V} {g : TG} {tb : TS} {D : Ends} {σ : St} {H : Hp} (Pv : Nat → St → Hp → Prop) (h0 : Pv 0 σ H) (hl : ∀ i σ H, i ≤ xs.length → Pv i σ H → SqT K H a xs)
    (hs : ∀ i x σ H, xs[i]? = some x → Pv i σ H → g x σ H fun σ2 H2 => tb { D with nx := Pv (i + 1), ct := Pv (i + 1), bk := D.nx } σ2 H2) (hd : ∀ σ H, Pv xs.length σ H → D.nx σ H) :
    ∃ W : Nat → Nat → St → Hp → Prop, (∃ m, W 0 m σ H) ∧ ∀ i m σ H, W i m σ H →
      ((Itt K a).stop i H ∧ D.nx σ H) ∨ ((Itt K a).go i H ∧ ∃ N : St → Hp → Prop, (∀ σ' H', N σ' H' → ∃ m', m' < m ∧ W (i + 1) m' σ' H') ∧ ∀ x H', (Itt K a).yld i H x H' → g x σ H' fun σ2 H2 => tb { D with nx := N, ct := N, bk := D.nx } σ2 H2) := by
  refine ⟨fun i m σ H => m = xs.length - i ∧ i ≤ xs.length ∧ Pv i σ H, ⟨xs.length, by simp, Nat.zero_le _, h0⟩, ?_⟩
  rintro i m σ H ⟨rfl, hi, p⟩
  have q := hl i σ H hi p
  by_cases hlt : i < xs.length
  · refine .inr ⟨⟨xs, xs[i], q, by simp [hlt]⟩, Pv (i + 1), fun σ' H' p' => ⟨xs.length - (i + 1), by omega, rfl, hlt, p'⟩, fun x H' y => ?_⟩
    obtain ⟨e, y⟩ := y
    subst e
    exact hs i x σ _ (y xs q) p
  · have e : i = xs.length := by omega
    subst e
    exact .inl ⟨⟨xs, q, Nat.le_refl _⟩, hd σ H p⟩
theorem for_range {lo : Int} {n : Nat} {g : TG} {tb : TS} {D : Ends} {σ : St} {H : Hp} (Pv : Nat → St → Hp → Prop) (h0 : Pv 0 σ H)
    (hs : ∀ i σ H, i < n → Pv i σ H → g (.int (lo + i)) σ H fun σ2 H2 => tb { D with nx := Pv (i + 1), ct := Pv (i + 1), bk := D.nx } σ2 H2) (hd : ∀ σ H, Pv n σ H → D.nx σ H) :
    ∃ W : Nat → Nat → St → Hp → Prop, (∃ m, W 0 m σ H) ∧ ∀ i m σ H, W i m σ H →
      ((Itr lo n).stop i H ∧ D.nx σ H) ∨ ((Itr lo n).go i H ∧ ∃ N : St → Hp → Prop, (∀ σ' H', N σ' H' → ∃ m', m' < m ∧ W (i + 1) m' σ' H') ∧ ∀ x H', (Itr lo n).yld i H x H' → g x σ H' fun σ2 H2 => tb { D with nx := N, ct := N, bk := D.nx } σ2 H2) := by
  refine ⟨fun i m σ H => m = n - i ∧ i ≤ n ∧ Pv i σ H, ⟨n, by simp, Nat.zero_le _, h0⟩, ?_⟩
  rintro i m σ H ⟨rfl, hi, p⟩
  by_cases hlt : i < n
  · refine .inr ⟨hlt, Pv (i + 1), fun σ' H' p' => ⟨n - (i + 1), by omega, rfl, hlt, p'⟩, fun x H' y => ?_⟩
    obtain ⟨e, y⟩ := y
    subst e y
    exact hs i σ _ hlt p
  · have e : i = n := by omega
    subst e
    exact .inl ⟨Nat.le_refl _, hd σ H p⟩
/-- while, by a word and a measure of the state -/
theorem while_by {c : TT} {tb : TS} {D : Ends} {σ : St} {H : Hp} (Pv : St → Hp → Prop) (μ : St → Hp → Nat) (h0 : Pv σ H)
    (hs : ∀ σ H, Pv σ H → c σ H fun b H1 => if b = true then tb { D with nx := fun σ' H' => Pv σ' H' ∧ μ σ' H' < μ σ H, ct := fun σ' H' => Pv σ' H' ∧ μ σ' H' < μ σ H, bk := D.nx } σ H1 else D.nx σ H1)
    (mono : ∀ σ H Q Q', (∀ b H1, Q b H1 → Q' b H1) → c σ H Q → c σ H Q') : tWhile c tb D σ H := by
  refine ⟨fun m σ H => m = μ σ H ∧ Pv σ H, ⟨_, rfl, h0⟩, ?_⟩
  rintro m σ H ⟨rfl, p⟩
  refine mono σ H _ _ (fun b H1 q => ?_) (hs σ H p)
  cases b with
  | true => exact ⟨_, fun σ' H' ⟨p', l⟩ => ⟨_, l, rfl, p'⟩, q⟩
  | false => exact q
end L2

namespace L2
open PySem PySem.Spec PyProof.Rows

abbrev R2 := V → V → Hp → VK → Prop
/-- a two-place operation on values: f is binaryOp op, inplaceOp op or compareOp op -/
def OpR (X : Cx) (f : Value → Value → Sem Value) (r : R2) : Prop :=
  ∀ (pins : List (Addr × Obj)) (s : Shared) (σ : St) (H : Hp) (x y : V) (v u : Value) (Q : VK), Inv X pins σ H s → RelV x v → RelV y u → r x y H Q →
    wpAny (model X.prog X.w) X.A (f v u) (EP X pins σ Q) X.xe s
/-- a call of a value that is known (a builtin, a type) with values -/
def CallR (X : Cx) (f : Value) (r : List V → Hp → VK → Prop) : Prop :=
  ∀ (pins : List (Addr × Obj)) (s : Shared) (σ : St) (H : Hp) (xs : List V) (us : List Value) (Q : VK), Inv X pins σ H s → Vals xs us → r xs H Q →
    wpAny (model X.prog X.w) X.A (call f us) (EP X pins σ Q) X.xe s
def tOp (r : R2) (ta tb : TE) : TE := fun σ H Q => ta σ H fun x H1 => tb σ H1 fun y H2 => r x y H2 Q
/-- ints in, under C, and a value out -/
def rI (C : Int → Int → Prop) (g : Int → Int → V) : R2 := fun x y H Q => ∃ i j, x = .int i ∧ y = .int j ∧ C i j ∧ Q (g i j) H
def rI0 (g : Int → Int → V) : R2 := fun x y H Q => ∃ i j, x = .int i ∧ y = .int j ∧ Q (g i j) H
section
variable {X : Cx} {a b c : Expr} {ta tb tc : TE} {pos : Pos}

theorem binT (ha : PE X a ta) (hb : PE X b tb) {pins : List (Addr × Obj)} {s : Shared} {σ : St} {H : Hp} {R : V → V → Hp → Prop} (I : Inv X pins σ H s)
    (h : ta σ H fun x H1 => tb σ H1 fun y H2 => R x y H2) {Q : Value → Shared → Prop} {f : Value → Value → Sem Value}
    (hf : ∀ v u s2 x y H2, Inv X pins σ H2 s2 → RelV x v → RelV y u → R x y H2 → wpAny (model X.prog X.w) X.A (f v u) Q X.xe s2) :
    wpAny (model X.prog X.w) X.A (eval a X.env) (fun v s₁ => wpAny (model X.prog X.w) X.A (eval b X.env) (fun u s₂ => wpAny (model X.prog X.w) X.A (f v u) Q X.xe s₂) X.xe s₁) X.xe s := by
  refine thn (ha pins s σ H _ I h) fun v s1 ⟨x, H1, I1, r1, q1⟩ => ?_
  refine thn (hb pins s1 σ H1 _ I1 q1) fun u s2 ⟨y, H2, I2, r2, q2⟩ => ?_
  exact hf v u s2 x y H2 I2 r1 r2 q2

theorem pe_op {op : Operator} {r : R2} (ho : OpR X (binaryOp op) r) (ha : PE X a ta) (hb : PE X b tb) : PE X (.BinOp a op b pos) (tOp r ta tb) := by
  intro pins s σ H Q I h
  exact wpAny_BinOp (binT ha hb I h fun v u s2 x y H2 I2 rx ry q => ho pins s2 σ H2 x y v u Q I2 rx ry q)
theorem opI {f : Value → Value → Sem Value} {C : Int → Int → Prop} {g : Int → Int → Int}
    (rule : ∀ (i j : Int) (t u : Tok) (s : Shared) (Q : Value → Shared → Prop) (E : Value → Shared → Prop), C i j → Q (.int (g i j) s.toks) { s with toks := s.toks + 1 } → wpAny (model X.prog X.w) X.A (f (.int i t) (.int j u)) Q E s) :
    OpR X f (rI C fun i j => .int (g i j)) := by
  intro pins s σ H x y v u Q I rx ry h
  obtain ⟨i, j, rfl, rfl, hc, q⟩ := h
  obtain ⟨t, rfl⟩ := rx
  obtain ⟨t', rfl⟩ := ry
  exact rule i j t t' s _ _ hc ⟨.int (g i j), H, I.tok _, ⟨_, rfl⟩, q⟩
theorem opI0 {f : Value → Value → Sem Value} {g : Int → Int → Int}
    (rule : ∀ (i j : Int) (t u : Tok) (s : Shared) (Q : Value → Shared → Prop) (E : Value → Shared → Prop), Q (.int (g i j) s.toks) { s with toks := s.toks + 1 } → wpAny (model X.prog X.w) X.A (f (.int i t) (.int j u)) Q E s) :
    OpR X f (rI0 fun i j => .int (g i j)) := by
  intro pins s σ H x y v u Q I rx ry h
  obtain ⟨i, j, rfl, rfl, q⟩ := h
  obtain ⟨t, rfl⟩ := rx
  obtain ⟨t', rfl⟩ := ry
  exact rule i j t t' s _ _ ⟨.int (g i j), H, I.tok _, ⟨_, rfl⟩, q⟩
theorem opB0 {f : Value → Value → Sem Value} {g : Int → Int → Bool}
    (rule : ∀ (i j : Int) (t u : Tok) (s : Shared) (Q : Value → Shared → Prop) (E : Value → Shared → Prop), Q (.bool (g i j)) s → wpAny (model X.prog X.w) X.A (f (.int i t) (.int j u)) Q E s) :
    OpR X f (rI0 fun i j => .bl (g i j)) := by
  intro pins s σ H x y v u Q I rx ry h
  obtain ⟨i, j, rfl, rfl, q⟩ := h
  obtain ⟨t, rfl⟩ := rx
  obtain ⟨t', rfl⟩ := ry
  exact rule i j t t' s _ _ ⟨.bl (g i j), H, I, rfl, q⟩

def CDiv (i j : Int) : Prop := 0 < j ∧ j < 1073741824
def CPow (i j : Int) : Prop := 0 ≤ j ∧ j ≤ 1000000 ∧ i.natAbs < 2 ^ 64
def CMul (i j : Int) : Prop := (-(2 ^ 64) < i ∧ i < 2 ^ 64) ∨ (-(2 ^ 64) < j ∧ j < 2 ^ 64)
theorem CMul.ok {i j : Int} (h : CMul i j) : IntMulOk i j := by
  rcases h with ⟨h1, h2⟩ | ⟨h1, h2⟩
  · exact .of_left (intBits_le_64 h1 h2)
  · exact .of_right (intBits_le_64 h1 h2)
theorem op_add : OpR X (binaryOp .Add) (rI0 fun i j => .int (i + j)) := opI0 fun _ _ _ _ _ _ _ q => add_int q
theorem op_mul : OpR X (binaryOp .Mult) (rI CMul fun i j => .int (i * j)) := opI fun _ _ _ _ _ _ _ hc q => mul_int q hc.ok
/-- // by a positive divisor -/
theorem op_fdiv : OpR X (binaryOp .FloorDiv) (rI CDiv fun i j => .int (i / j)) := opI fun i j _ _ _ _ _ hc q => by
  have h1 : (0 : Int) < j := hc.1
  have h2 : j < 1073741824 := hc.2
  exact floordiv_int (by omega) (by rw [Int.fdiv_eq_ediv_of_nonneg i (by omega)]; exact q) (.inl (PyProof.noPylong_small (by omega)))
/-- % by a positive divisor of any size -/
theorem op_mod : OpR X (binaryOp .Mod) (rI (fun _ j => 0 < j) fun i j => .int (i % j)) := opI fun i j _ _ _ _ _ hc q => by
  have h1 : (0 : Int) < j := hc
  exact mod_int' (by omega) (by rw [Int.fmod_eq_emod_of_nonneg i (by omega)]; exact q)
theorem op_pow : OpR X (binaryOp .Pow) (rI CPow fun i j => .int (i ^ j.toNat)) := opI fun _ _ _ _ _ _ _ hc q => pow_int_small hc.1 hc.2.1 hc.2.2 q
end

/-- the scalars that == tells apart as data does -/
def scal : V → V → Bool
  | .non, .non => true | .non, .int _ => true | .int _, .non => true | .non, .bl _ => true | .bl _, .non => true | .non, .str _ => true | .str _, .non => true
  | .int _, .int _ => true | .bl _, .bl _ => true | .str _, .str _ => true | .byt _, .byt _ => true
  | .int _, .str _ => true | .str _, .int _ => true | .bl _, .str _ => true | .str _, .bl _ => true
  | _, _ => false
def rEq : R2 := fun x y H Q => scal x y = true ∧ Q (.bl (decide (x = y))) H
def rNe : R2 := fun x y H Q => scal x y = true ∧ Q (.bl (!decide (x = y))) H

theorem dec_int {i j : Int} : decide (V.int i = V.int j) = (i == j) := by
  rw [Bool.eq_iff_iff]
  simp
theorem dec_bl {i j : Bool} : decide (V.bl i = V.bl j) = (i == j) := by
  rw [Bool.eq_iff_iff]
  simp
theorem dec_str {i j : Str} : decide (V.str i = V.str j) = (i == j) := by
  rw [Bool.eq_iff_iff]
  simp
theorem dec_byt {i j : Array UInt8} : decide (V.byt i = V.byt j) = (i.toList == j.toList) := by
  rw [Bool.eq_iff_iff]
  cases i
  cases j
  simp

section
variable {X : Cx} {a b c : Expr} {ta tb tc : TE} {pos : Pos}
theorem fin_bl {pins : List (Addr × Obj)} {σ : St} {H : Hp} {s : Shared} {Q : VK} {k k' : Bool} (I : Inv X pins σ H s) (q : Q (.bl k) H) (e : k = k') : EP X pins σ Q (.bool k') s := by
  subst e
  exact ⟨.bl k, H, I, rfl, q⟩
theorem op_eq : OpR X (compareOp .Eq) rEq := by
  intro pins s σ H x y v u Q I rx ry h
  obtain ⟨hs, q⟩ := h
  cases x with
  | non =>
    cases rx
    cases y with
    | non => cases ry; exact PySem.EqNone.eq_none_none (fin_bl I q (by simp))
    | bl j => cases ry; exact PySem.EqNone.eq_none_bool (fin_bl I q (by simp))
    | int j => obtain ⟨t', rfl⟩ := ry; exact PySem.EqNone.eq_none_int (fin_bl I q (by simp))
    | str j => obtain ⟨t', rfl⟩ := ry; exact PySem.EqNone.eq_none_str (fin_bl I q (by simp))
    | _ => exact absurd (show false = true from hs) Bool.false_ne_true
  | bl i =>
    cases rx
    cases y with
    | non => cases ry; exact PySem.EqNone.eq_bool_none (fin_bl I q (by simp))
    | bl j => cases ry; exact eq_bool (fin_bl I q dec_bl)
    | str j => obtain ⟨t', rfl⟩ := ry; exact PySem.EqMixed.eq_bool_str (fin_bl I q (by simp))
    | _ => exact absurd (show false = true from hs) Bool.false_ne_true
  | int i =>
    obtain ⟨t, rfl⟩ := rx
    cases y with
    | non => cases ry; exact PySem.EqNone.eq_int_none (fin_bl I q (by simp))
    | int j => obtain ⟨t', rfl⟩ := ry; exact eq_int (fin_bl I q dec_int)
    | str j => obtain ⟨t', rfl⟩ := ry; exact PySem.EqMixed.eq_int_str (fin_bl I q (by simp))
    | _ => exact absurd (show false = true from hs) Bool.false_ne_true
  | str i =>
    obtain ⟨t, rfl⟩ := rx
    cases y with
    | non => cases ry; exact PySem.EqNone.eq_str_none (fin_bl I q (by simp))
    | bl j => cases ry; exact PySem.EqMixed.eq_str_bool (fin_bl I q (by simp))
    | int j => obtain ⟨t', rfl⟩ := ry; exact PySem.EqMixed.eq_str_int (fin_bl I q (by simp))
    | str j => obtain ⟨t', rfl⟩ := ry; exact eq_str (fin_bl I q dec_str)
    | _ => exact absurd (show false = true from hs) Bool.false_ne_true
  | byt i =>
    obtain ⟨t, rfl⟩ := rx
    cases y with
    | byt j => obtain ⟨t', rfl⟩ := ry; exact PySem.W.eq_bytes (fin_bl I q dec_byt)
    | _ => exact absurd (show false = true from hs) Bool.false_ne_true
  | _ => cases y <;> exact absurd (show false = true from hs) Bool.false_ne_true
theorem op_ne : OpR X (compareOp .NotEq) rNe := by
  intro pins s σ H x y v u Q I rx ry h
  obtain ⟨hs, q⟩ := h
  cases x with
  | non =>
    cases rx
    cases y with
    | non => cases ry; exact PySem.EqNone.ne_none_none (fin_bl I q (by simp))
    | bl j => cases ry; exact PySem.EqNone.ne_none_bool (fin_bl I q (by simp))
    | int j => obtain ⟨t', rfl⟩ := ry; exact PySem.EqNone.ne_none_int (fin_bl I q (by simp))
    | str j => obtain ⟨t', rfl⟩ := ry; exact PySem.EqNone.ne_none_str (fin_bl I q (by simp))
    | _ => exact absurd (show false = true from hs) Bool.false_ne_true
  | bl i =>
    cases rx
    cases y with
    | non => cases ry; exact PySem.EqNone.ne_bool_none (fin_bl I q (by simp))
    | bl j => cases ry; exact ne_bool (fin_bl I q (congrArg not dec_bl))
    | str j => obtain ⟨t', rfl⟩ := ry; exact PySem.EqMixed.ne_bool_str (fin_bl I q (by simp))
    | _ => exact absurd (show false = true from hs) Bool.false_ne_true
  | int i =>
    obtain ⟨t, rfl⟩ := rx
    cases y with
    | non => cases ry; exact PySem.EqNone.ne_int_none (fin_bl I q (by simp))
    | int j => obtain ⟨t', rfl⟩ := ry; exact ne_int (fin_bl I q (congrArg not dec_int))
    | str j => obtain ⟨t', rfl⟩ := ry; exact PySem.EqMixed.ne_int_str (fin_bl I q (by simp))
    | _ => exact absurd (show false = true from hs) Bool.false_ne_true
  | str i =>
    obtain ⟨t, rfl⟩ := rx
    cases y with
    | non => cases ry; exact PySem.EqNone.ne_str_none (fin_bl I q (by simp))
    | bl j => cases ry; exact PySem.EqMixed.ne_str_bool (fin_bl I q (by simp))
    | int j => obtain ⟨t', rfl⟩ := ry; exact PySem.EqMixed.ne_str_int (fin_bl I q (by simp))
    | str j => obtain ⟨t', rfl⟩ := ry; exact ne_str (fin_bl I q (congrArg not dec_str))
    | _ => exact absurd (show false = true from hs) Bool.false_ne_true
  | byt i =>
    obtain ⟨t, rfl⟩ := rx
    cases y with
    | byt j => obtain ⟨t', rfl⟩ := ry; exact PySem.W.ne_bytes (fin_bl I q (congrArg not dec_byt))
    | _ => exact absurd (show false = true from hs) Bool.false_ne_true
  | _ => cases y <;> exact absurd (show false = true from hs) Bool.false_ne_true

theorem op_lt : OpR X (compareOp .Lt) (rI0 fun i j => .bl (decide (i < j))) := opB0 fun _ _ _ _ _ _ _ q => lt_int q
theorem op_le : OpR X (compareOp .LtE) (rI0 fun i j => .bl (decide (i ≤ j))) := opB0 fun _ _ _ _ _ _ _ q => le_int q
theorem op_gt : OpR X (compareOp .Gt) (rI0 fun i j => .bl (decide (j < i))) := opB0 fun _ _ _ _ _ _ _ q => gt_int q
theorem op_ge : OpR X (compareOp .GtE) (rI0 fun i j => .bl (decide (j ≤ i))) := opB0 fun _ _ _ _ _ _ _ q => ge_int q
/-- is None, is not None: the right side a value none -/
theorem op_isN : OpR X (compareOp .Is) (fun x y H Q => y = .non ∧ Q (.bl (decide (x = .non))) H) := by
  intro pins s σ H x y v u Q I rx ry h
  obtain ⟨rfl, q⟩ := h
  cases ry
  refine is_none_gen (fin_bl I q ?_)
  cases x <;> first
    | (cases rx; rfl)
    | (obtain ⟨t, rfl⟩ := rx; rfl)
theorem nomark (b : Expr) {op : CmpOp} (h : op ≠ .In := by decide) (h2 : op ≠ .NotIn := by decide) : behindInMarks op b = false := by
  have e1 : (op == CmpOp.In) = false := by cases op <;> first | rfl | exact absurd rfl h
  have e2 : (op == CmpOp.NotIn) = false := by cases op <;> first | rfl | exact absurd rfl h2
  cases b <;> simp [behindInMarks, e1, e2]
/-- a comparison as a value; hm: nomark b, or (for in, not in) by with_unfolding_all rfl -/
theorem pe_cmpR {op : CmpOp} {r : R2} (ho : OpR X (compareOp op) r) (ha : PE X a ta) (hb : PE X b tb) (hm : behindInMarks op b = false) : PE X (.Compare a [op] [b] pos) (tOp r ta tb) := by
  intro pins s σ H Q I h
  exact wpAny_Compare1 (binT ha hb I h fun v u s2 x y H2 I2 rx ry q => ho pins s2 σ H2 x y v u Q I2 rx ry q) hm
/-- a reading of a value as a test -/
def tTest (t : TE) : TT := fun σ H Q => t σ H fun x H' => ∃ k, x = .bl k ∧ Q k H'
theorem pt_cmpR {op : CmpOp} {r : R2} (ho : OpR X (compareOp op) r) (ha : PE X a ta) (hb : PE X b tb) (hm : behindInMarks op b = false) : PT X (.Compare a [op] [b] pos) (tTest (tOp r ta tb)) := by
  intro pins s σ H Q I h
  refine wpAny_isTrue_Compare1 (thn (ha pins s σ H _ I h) fun v s1 ⟨x, H1, I1, r1, q1⟩ => thn (hb pins s1 σ H1 _ I1 q1) fun u s2 ⟨y, H2, I2, r2, q2⟩ =>
    thn (ho pins s2 σ H2 x y v u _ I2 r1 r2 q2) fun c s3 ⟨z, H3, I3, r3, k, e, q3⟩ => ?_) hm
  subst e
  cases r3
  exact wpAny_truthy_bool ⟨H3, I3, q3⟩
/-- a op1 b op2 c -/
def tChain (r r' : R2) (ta tb tc : TE) : TE := fun σ H Q => ta σ H fun x H1 => tb σ H1 fun y H2 => r x y H2 fun z H3 => ∃ k, z = .bl k ∧
  (if k = true then tc σ H3 fun w' H4 => r' y w' H4 Q else Q (.bl false) H3)
theorem pe_chain {op op' : CmpOp} {r r' : R2} (ho : OpR X (compareOp op) r) (ho' : OpR X (compareOp op') r') (ha : PE X a ta) (hb : PE X b tb) (hc : PE X c tc)
    (hm : lastMarks [op, op'] [b, c] = false := by with_unfolding_all rfl) : PE X (.Compare a [op, op'] [b, c] pos) (tChain r r' ta tb tc) := by
  intro pins s σ H Q I h
  refine Compare_chain (thn (ha pins s σ H _ I h) fun v s1 ⟨x, H1, I1, r1, q1⟩ => chain_link (thn (hb pins s1 σ H1 _ I1 q1) fun u s2 ⟨y, H2, I2, r2, q2⟩ =>
    thn (ho pins s2 σ H2 x y v u _ I2 r1 r2 q2) fun d s3 ⟨z, H3, I3, r3, k, e, q3⟩ => ?_)) hm
  subst e
  cases r3
  refine wpAny_truthy_bool ?_
  cases k with
  | false => exact ite_ff ⟨.bl false, H3, I3, rfl, q3⟩
  | true => exact ite_tt (chain_last (thn (hc pins s3 σ H3 _ I3 q3) fun w' s4 ⟨z', H4, I4, r4, q4⟩ => ho' pins s4 σ H4 y z' u w' Q I4 r2 r4 q4))
theorem line63 : (sizeLine : Nat) < 2 ^ 63 := by rw [sizeLine_eq]; decide
theorem op_add_str : OpR X (binaryOp .Add) (fun x y H Q => ∃ i j, x = .str i ∧ y = .str j ∧ i.length + j.length ≤ sizeLine ∧ Q (.str (i ++ j)) H) := by
  intro pins s σ H x y v u Q I rx ry h
  obtain ⟨i, j, rfl, rfl, hz, q⟩ := h
  obtain ⟨t, rfl⟩ := rx
  obtain ⟨t', rfl⟩ := ry
  exact add_str (fun t' tk => ⟨.str (i ++ j), H, I.tok _, ⟨_, rfl⟩, q⟩) hz
theorem vals1 {x : V} {us : List Value} (r : Vals [x] us) : ∃ u, us = [u] ∧ RelV x u := by
  cases r with
  | cons r1 r2 => cases r2; exact ⟨_, rfl, r1⟩
theorem vals2 {x y : V} {us : List Value} (r : Vals [x, y] us) : ∃ u w', us = [u, w'] ∧ RelV x u ∧ RelV y w' := by
  cases r with
  | cons r1 r2 =>
    cases r2 with
    | cons r3 r4 => cases r4; exact ⟨_, _, rfl, r1, r3⟩
theorem call_int1 : CallR X (.type "int") (fun xs H Q => (∃ i, xs = [.int i] ∧ Q (.int i) H) ∨ ∃ k, xs = [.bl k] ∧ Q (.int (if k then 1 else 0)) H) := by
  intro pins s σ H xs us Q I r h
  rcases h with ⟨i, rfl, q⟩ | ⟨k, rfl, q⟩
  · obtain ⟨u, rfl, t, rfl⟩ := vals1 r
    exact call_int_int ⟨.int i, H, I, ⟨_, rfl⟩, q⟩
  · obtain ⟨u, rfl, r1⟩ := vals1 r
    cases r1
    exact call_int_bool ⟨.int (if k then 1 else 0), H, I.tok _, ⟨_, rfl⟩, q⟩
end
end L2

namespace L2
open PySem PySem.Spec PyProof.Rows

structure ObjM (h : Heap) (x dx C : Addr) (mA : Str → Option Value) : Prop where
  obj : h.get? x = some (PySem.W.instObj C dx)
  ns : h.Ns1 dx mA
  ne : dx ≠ x

theorem lookIn_ns {h : Heap} {dx : Addr} {mA : Str → Option Value} (n : h.Ns1 dx mA) : ∃ od, h.get? dx = some od ∧ ∀ name, PySem.W.lookIn name od = some (mA name) := by
  obtain ⟨o, es, ep, ho, hd, hk, _, hm⟩ := n
  refine ⟨o, ho, fun name => ?_⟩
  have e := hm name
  unfold nsFind findBy at e
  rw [← Array.find?_toList] at e
  unfold PySem.W.lookIn
  rw [hd]
  dsimp only
  split
  · rename_i y q
    rw [q] at e
    exact congrArg some e
  · rename_i q
    rw [q] at e
    have a : es.toList.any (·.refKey) = false := by
      rw [List.any_eq_false]
      intro y hy
      obtain ⟨z, t, hkey⟩ := hk y (Array.mem_toList_iff.mp hy)
      simp [DictEntry.refKey, hkey]
    have a' : ¬ es.toList.any (·.refKey) = true := by rw [a]; exact Bool.false_ne_true
    rw [if_neg a']
    exact congrArg some e

theorem ObjM.look {h : Heap} {x dx C : Addr} {mA : Str → Option Value} (I : ObjM h x dx C mA) : ∃ od, PySem.W.InstAt h x (PySem.W.instObj C dx) C (some od) ∧ ∀ name, PySem.W.lookIn name od = some (mA name) :=
  let ⟨od, ho, hl⟩ := lookIn_ns I.ns
  ⟨od, ⟨I.obj, rfl, rfl, ho⟩, hl⟩

section
variable {prog : Program} {w : World} {A : Around} {E : Value → Shared → Prop} {s : Shared} {K : PySem.W.Frag} {x dx C f : Addr} {mA : Str → Option Value} {name : Str} {v : Value}

end

theorem RelO.some_of {v : V} {o : Option Value} (r : RelO (some v) o) : ∃ u, o = some u ∧ RelV v u := by
  cases o with
  | none => exact (show False from r).elim
  | some u => exact ⟨u, rfl, r⟩
section
variable {P : Program} {w : World} {H H' : Hp} {h h' : Heap} {a C dx : Addr} {fs fs' : List (Str × V)}
theorem ins_get (hok : HOk P w H h) (e : H a = some (.ins C dx fs)) : ∃ mA, ObjM h a dx C mA ∧ (∀ f, RelO (fs.lookup f) (mA f)) ∧ PySem.Within mA (fs.map (·.1)) ∧ fs.length ≤ 1000 ∧ H dx = some (.own a) := by
  obtain ⟨d, z, ne, ob, mA, n, r, q⟩ := (show ObjOk P w H h a (.ins C dx fs) from hok a _ e)
  exact ⟨mA, ⟨ob, n, ne⟩, r, q, z, d⟩
end

structure Cls (K : PySem.W.Frag) (C : Addr) : Prop where
  pg : PySem.W.plainGet K C Str.empty = true
  hd : PySem.W.hasDictIn K C = true
  po : PySem.W.plainOver K C = true
  sa : PySem.W.findIn K (.ref C) "__setattr__" = some (some (.builtin "object.__setattr__"))
theorem Cls.get {K : PySem.W.Frag} {C : Addr} (c : Cls K C) (f : Str) : PySem.W.plainGet K C f = true := c.pg
section
variable {X : Cx} {pins : List (Addr × Obj)} {σ : St} {H : Hp} {s : Shared} {a C dx : Addr} {fs : List (Str × V)} {f : Str} {v : V} {A : Around} {E : Value → Shared → Prop}

end

section
variable {X : Cx} {o e value : Expr} {f : Str} {pos pos' tpos : Pos} {ta tv : TE}
end

section
variable {X : Cx} {pins : List (Addr × Obj)} {σ : St} {H : Hp} {s : Shared} {A : Around} {E : Value → Shared → Prop} {Q : Value → Shared → Prop} {c : Value} {b : Bool}
/-- the type of a value, as the fragment's deciders take it; for an instance its class -/
inductive TyOf (K : PySem.W.Frag) (H : Hp) : V → Value → Prop where
  | non : TyOf K H .non (.type "NoneType")
  | bl (x : Bool) : TyOf K H (.bl x) (.type "bool")
  | int (i : Int) : TyOf K H (.int i) (.type "int")
  | str (x : Str) : TyOf K H (.str x) (.type "str")
  | flt (x : UInt64) : TyOf K H (.flt x) (.type "float")
  | lst {a : Addr} {xs : List V} (e : H a = some (.lst xs)) : TyOf K H (.ref a) (.type "list")
  | frz {a : Addr} {o : Obj} {xs : List V} (e : H a = some (.frz o (.lst xs))) : TyOf K H (.ref a) (.type "list")
  | tup {a : Addr} {xs : List V} (e : H a = some (.tup xs)) : TyOf K H (.ref a) (.type "tuple")
  | dK {a : Addr} {kvs : List (Key × V)} (e : H a = some (.dK kvs)) : TyOf K H (.ref a) (.type "dict")
  | dT {a : Addr} {kvs : List (List Key × V)} (e : H a = some (.dT kvs)) : TyOf K H (.ref a) (.type "dict")
  | ins {a C dx : Addr} {fs : List (Str × V)} (e : H a = some (.ins C dx fs)) (cl : Cls K C) (ha : PySem.W.findIn K (.ref C) "__class__" = some (some (.builtin "object.__class__")))
      (hn : PySem.W.specialIn K (.builtin "object.__class__") "__get__" = some (some (.builtin "getset_descriptor.__get__"))) (htk : PySem.W.takesIn K (.builtin "object.__class__") = some true)
      (hm : PySem.W.mroIn K C (.type "object") = some true) : TyOf K H (.ref a) (.ref C)
/-- isinstance(x, c) for one class c, a built-in or an own one: kitOne's answer -/
theorem isinst_ok {x : V} {u t : Value} (I : Inv X pins σ H s) (rx : RelV x u) (ty : TyOf X.K H x t) (e : PySem.W.kitOne X.K t c = some b) (h : ∀ tk, Q (.bool b) { s with toks := tk }) :
    wpAny (model X.prog X.w) A (call (.builtin "isinstance") [u, c]) Q E s := by
  cases ty with
  | non => cases (show u = Value.none from rx); exact PySem.W.kia_one PySem.W.kitx_none I.kIn True.intro e (fun z => nomatch z) h
  | bl y => cases (show u = Value.bool y from rx); exact PySem.W.kia_one PySem.W.kitx_bool I.kIn True.intro e (fun z => nomatch z) h
  | int i => obtain ⟨t, q⟩ := (show ∃ t, u = Value.int i t from rx); cases q; exact PySem.W.kia_one PySem.W.kitx_int I.kIn True.intro e (fun z => nomatch z) h
  | str y => obtain ⟨t, q⟩ := (show ∃ t, u = Value.str y t from rx); cases q; exact PySem.W.kia_one PySem.W.kitx_str I.kIn True.intro e (fun z => nomatch z) h
  | flt y => obtain ⟨t, q⟩ := (show ∃ t, u = Value.float y t from rx); cases q; exact PySem.W.kia_one PySem.W.kitx_float I.kIn True.intro e (fun z => nomatch z) h
  | @lst a xs ea =>
    cases (show u = Value.ref a from rx)
    obtain ⟨_, _, n, _, h1⟩ := (show ObjOk X.prog X.w H s.heap a (.lst xs) from I.hok a _ ea)
    exact PySem.W.kia_one PySem.W.kitx_list I.kIn ⟨_, h1, rfl⟩ e (fun z => nomatch z) h
  | @frz a ob xs ea =>
    cases (show u = Value.ref a from rx)
    obtain ⟨_, _, _, n, _, h1⟩ := (show ObjOk X.prog X.w H s.heap a (.frz ob (.lst xs)) from I.hok a _ ea)
    exact PySem.W.kia_one PySem.W.kitx_list I.kIn ⟨_, h1, rfl⟩ e (fun z => nomatch z) h
  | @tup a xs ea =>
    cases (show u = Value.ref a from rx)
    obtain ⟨_, _, _, p⟩ := (show ObjOk X.prog X.w H s.heap a (.tup xs) from I.hok a _ ea)
    obtain ⟨o, h1, h2, _⟩ := p
    exact PySem.W.kia_one PySem.W.kitx_tuple I.kIn ⟨o, h1, h2⟩ e (fun z => nomatch z) h
  | @dK a kvs ea =>
    cases (show u = Value.ref a from rx)
    obtain ⟨_, _, vs, _, p⟩ := (show ObjOk X.prog X.w H s.heap a (.dK kvs) from I.hok a _ ea)
    obtain ⟨o, es, ep, h1, h2, _⟩ := p
    exact PySem.W.kia_one PySem.W.kitx_dict I.kIn ⟨o, h1, h2.1⟩ e (fun z => nomatch z) h
  | @dT a kvs ea =>
    cases (show u = Value.ref a from rx)
    obtain ⟨_, _, xs, _, o, es, ep, h1, h2, _⟩ := (show ObjOk X.prog X.w H s.heap a (.dT kvs) from I.hok a _ ea)
    exact PySem.W.kia_one PySem.W.kitx_dict I.kIn ⟨o, h1, h2.1⟩ e (fun z => nomatch z) h
  | @ins a C dx fs ea cl ha hn htk hm =>
    cases (show u = Value.ref a from rx)
    obtain ⟨mA, O, _⟩ := ins_get I.hok ea
    obtain ⟨od, J, _⟩ := O.look
    exact PySem.W.kia_one (PySem.W.kitx_own (cl.get _) cl.hd ha hn htk hm) I.kIn J e (fun z => nomatch z) h
end
end L2

namespace L2
open PySem PySem.Spec PyProof.Rows

structure Room (k : Nat) (A : Around) : Prop where
  hd : A.handled = none
  dp : A.depth + 3 * k + 5 < recursionLimit
  un : A.units + 16 * k + 200 < cLine
theorem Room.mono {j k : Nat} {A : Around} (r : Room k A) (h : j ≤ k) : Room j A := ⟨r.hd, by have := r.dp; omega, by have := r.un; omega⟩
theorem Room.deeper {k : Nat} {A : Around} (r : Room (k + 1) A) (env : Env) : Room k (A.deeper env) :=
  ⟨r.hd, by have := r.dp; show A.depth + 1 + 3 * k + 5 < _; omega, by have := r.un; show A.units + 3 + 16 * k + 200 < _; omega⟩
theorem Room.depth {k : Nat} {A : Around} (r : Room k A) : A.depth < recursionLimit := by have := r.dp; omega
theorem Room.units {k : Nat} {A : Around} (r : Room k A) : A.units + 64 < cLine := by have := r.un; omega
def tNil : TA := fun _ H Q => Q [] H
def tCons (ta : TE) (tr : TA) : TA := fun σ H Q => ta σ H fun x H1 => tr σ H1 fun xs H2 => Q (x :: xs) H2
section
variable {X : Cx} {e : Expr} {es : List Expr} {te : TE} {t : TA} {pos : Pos}
theorem pa_nil : PA X [] tNil := fun _ _ _ _ H Q I h => Calls.spliced_nil ⟨[], H, I, .nil, h⟩
theorem pa_cons (ha : PE X e te) (hr : PA X es t) (hs : starEach (e :: es) X.env = (false, eval e X.env) :: starEach es X.env := by rfl) : PA X (e :: es) (tCons te t) := by
  intro pos pins s σ H Q I h
  rw [hs]
  show wpAny _ _ (spliced ((false, eval e X.env) :: backTo pos (starEach es X.env))) _ _ s
  refine Calls.spliced_cons (thn (ha pins s σ H _ I h) fun u s1 ⟨x, H1, I1, r1, q1⟩ => ?_)
  exact thn (hr pos pins s1 σ H1 _ I1 q1) fun us s2 ⟨xs, H2, I2, r2, q2⟩ => ⟨x :: xs, H2, I2, .cons r1 r2, q2⟩

/-- a tuple, a list of written items -/
def tTup (t : TA) : TE := fun σ H Q => t σ H fun xs H1 => xs.length ≤ sizeLine ∧ ∀ p, H1 p = none → Q (.ref p) (upd H1 p (.tup xs))
def tLst (t : TA) : TE := fun σ H Q => t σ H fun xs H1 => xs.length ≤ sizeLine ∧ ∀ p, H1 p = none → Q (.ref p) (upd H1 p (.lst xs))
theorem pe_tup {x1} (h : PA X es t) : PE X (.Tuple es x1 pos) (tTup t) := by
  intro pins s σ H Q I hq
  refine wpAny_Tuple_spliced (thn (h pos pins s σ H _ I hq) fun us s1 ⟨xs, H1, I1, r, z, q⟩ => ⟨by rw [← r.length]; exact z, ?_⟩)
  have hf : H1 s1.heap.objs.size = none := I1.hok.fresh (Nat.le_refl _)
  refine ⟨.ref s1.heap.objs.size, upd H1 s1.heap.objs.size (.tup xs), I1.laid (t' := s1.toks) (fun b u e => Heap.get?_push_of_some _ e) (Nat.le_refl _) ?_, rfl, q _ hf⟩
  exact ⟨⟨z, _, Heap.get?_push_size _ rfl, rfl⟩, us, r, ⟨_, Heap.get?_push_size _ rfl, rfl, _, rfl⟩⟩
theorem pe_lst (h : PA X es t) : PE X (.List es pos) (tLst t) := by
  intro pins s σ H Q I hq
  refine wpAny_List_spliced (thn (h pos pins s σ H _ I hq) fun us s1 ⟨xs, H1, I1, r, z, q⟩ => ⟨by rw [← r.length]; exact z, ?_⟩)
  have hf : H1 s1.heap.objs.size = none := I1.hok.fresh (Nat.le_refl _)
  refine ⟨.ref s1.heap.objs.size, upd H1 s1.heap.objs.size (.lst xs), I1.laid (t' := s1.toks) (fun b u e => Heap.get?_push_of_some _ e) (Nat.le_refl _) ?_, rfl, q _ hf⟩
  exact ⟨z, us, 0, r, Heap.get?_push_size _ rfl⟩
end

/-- a def's promise: the bound arguments in the parameters' order, the heap, the wanted end, the wanted exception -/
abbrev Sp := List V → Hp → VK → XK → Prop
/-- how an exception lies behind a call (file 08 gives it): the callers' frames, abstract heap and state ahead of the call, the wish, the exception, the state -/
abbrev CXT := List Env → Hp → Shared → XK → Value → Shared → Prop

/-- the state at a call -/
structure Env0 (P : Program) (w : World) (K : PySem.W.Frag) (mg : Str → Option Value) (base : Heap) (A : Around) (outer : List Env) (s : Shared) (H : Hp) : Prop where
  frames : A.frames = some outer
  mod : Mod K mg base
  bs : ∀ b o, base.get? b = some o → s.heap.get? b = some o ∧ H b = none
  bsz : base.objs.size ≤ s.heap.objs.size
  funs : s.heap.FunFrames base outer
  frf : ∀ b ∈ frs outer, H b = none
  hok : HOk P w H s.heap
  bare : AllBare s.gens
/-- a call's end -/
def CE (outer : List Env) (P : Program) (w : World) (H : Hp) (s : Shared) (Q : VK) (u : Value) (s' : Shared) : Prop :=
  ∃ v H', s'.os = s.os ∧ AllBare s'.gens ∧ Un (frs outer) [] H H' s.heap s'.heap ∧ HOk P w H' s'.heap ∧ RelV v u ∧ Q v H'
def CR (CX : CXT) (outer : List Env) (P : Program) (w : World) (H : Hp) (s : Shared) (Q : VK) (E : XK) (r : Result) (s' : Shared) : Prop :=
  match r with
  | .ok (.ret u) => CE outer P w H s Q u s'
  | .ok _ => False
  | .error e => CX outer H s E e s'
structure FnOk (P : Program) (w : World) (K : PySem.W.Frag) (mg : Str → Option Value) (base : Heap) (CX : CXT) (k : Nat) (f : Addr) (fd : FuncData) (ps : List Str) (sp : Sp) : Prop where
  len : ∀ vs H Q E, sp vs H Q E → vs.length = ps.length
  run : ∀ (A : Around) (outer : List Env) (s : Shared) (H : Hp) (args : Args) (us : List Value) (vs : List V) (Q : VK) (E : XK), Room k A → Env0 P w K mg base A outer s H → BindsTo s fd args (ps.zip us) → Vals vs us → sp vs H Q E →
    codeAny (model P w) A (.call (.ref f) args) (CR CX outer P w H s Q E) s
section
variable {X : Cx} {pins : List (Addr × Obj)} {σ : St} {H : Hp} {s s' : Shared}
/-- from a body: what a callee wants -/
theorem Inv.env0 (I : Inv X pins σ H s) : Env0 X.prog X.w X.K X.mg X.base X.A X.stack s H :=
  ⟨I.ok.frames, I.ok.mod, I.bs, Nat.le_trans I.ok.bsz I.sz, I.stack, I.stkFree, I.hok, I.bare⟩
/-- behind a call -/
theorem Inv.after {Q : VK} {u : Value} (I : Inv X pins σ H s) (h : CE X.stack X.prog X.w H s Q u s') : EP X pins σ Q u s' := by
  obtain ⟨v, H', os, bare, un, hok, r, q⟩ := h
  obtain ⟨hh, g, d, t, os'⟩ := s'
  obtain rfl : os' = s.os := os
  exact ⟨v, H', I.call (h' := hh) (g' := g) (d' := d) (t' := t) (ch := []) un hok bare (fun b z => absurd z (by simp)), r, q⟩
end

/-- f(..): the written arguments, then the defaults dvs; E: what is wanted of an exception -/
def tCall (sp : Sp) (dvs : List V) (E : XK) (t : TA) : TE := fun σ H Q => t σ H fun vs H1 => sp (vs ++ dvs) H1 Q E
/-- how the parameters are bound: us the positional arguments, kw the keywords' values by name, ds the defaults that fill up -/
def Binds (K : PySem.W.Frag) (fd : FuncData) (ps : List Str) (ds : List Value) : Prop :=
  ∀ (s : Shared) (us : List Value), K.In s.heap → (us ++ ds).length = ps.length → BindsTo s fd ⟨us, []⟩ (ps.zip (us ++ ds))
/-- every parameter is given -/
theorem Binds.all {K : PySem.W.Frag} {fd : FuncData} {ps : List Str} (h : ∀ us : List Value, us.length = ps.length → bindArgs fd ⟨us, []⟩ = pure (ps.zip us)) : Binds K fd ps [] := fun s us _ hl => by
  rw [List.append_nil] at hl ⊢
  exact .of_eq (h us hl)

/-- an exception of a callee reaches what this body wants of exceptions -/
def Passes (CX : CXT) (X : Cx) (E : XK) : Prop := ∀ (pins : List (Addr × Obj)) (σ : St) (H : Hp) (s : Shared) (e : Value) (s' : Shared), Inv X pins σ H s → CX X.stack H s E e s' → X.xe e s'

section
variable {X : Cx} {CX : CXT} {k : Nat} {f C : Addr} {fd : FuncData} {ps : List Str} {sp : Sp} {dvs : List V} {ds : List Value} {E : XK} {x m : Str} {p pos apos : Pos} {e o : Expr} {es : List Expr} {ta : TE} {t : TA}

/-- the callee runs -/
theorem run_fn {pins : List (Addr × Obj)} {σ : St} {H : Hp} {s : Shared} {Q : VK} {us : List Value} {vs : List V} (F : FnOk X.prog X.w X.K X.mg X.base CX k f fd ps sp) (hr : Room k X.A) (hb : Binds X.K fd ps ds) (hd : Vals dvs ds) (hx : Passes CX X E)
    (I : Inv X pins σ H s) (r : Vals vs us) (h : sp (vs ++ dvs) H Q E) : wpAny (model X.prog X.w) X.A (call (.ref f) us) (EP X pins σ Q) X.xe s := by
  have r2 : Vals (vs ++ dvs) (us ++ ds) := r.append hd
  have hl : (us ++ ds).length = ps.length := by rw [← r2.length]; exact F.len _ _ _ _ h
  refine wpAny_call (codeAny_mono (F.run X.A X.stack s H ⟨us, []⟩ (us ++ ds) (vs ++ dvs) Q E hr I.env0 (hb s us I.kIn hl) r2 h) fun r s' hq => ?_)
  cases r with
  | error e => exact hx pins σ H s e s' I hq
  | ok fl =>
    cases fl with
    | ret u => exact I.after hq
    | next => exact False.elim hq
    | brk => exact False.elim hq
    | cont => exact False.elim hq

theorem pe_call (F : FnOk X.prog X.w X.K X.mg X.base CX k f fd ps sp) (hr : Room k X.A) (hg : Gl X x) (hm : X.mg x = some (.ref f)) (hk : PySem.W.keepIn X.K (.ref f) = true) (hb : Binds X.K fd ps ds) (hd : Vals dvs ds) (hx : Passes CX X E)
    (ha : PA X (e :: es) t) (hdb : (x == ("__debug__" : Str)) = false := by decide) (he : starEach (e :: es) X.env = (false, eval e X.env) :: starEach es X.env := by rfl) (hpl : (backTo pos (starEach es X.env)).any (·.1) = false := by rfl) :
    PE X (.Call (.Name x p) (e :: es) [] pos) (tCall sp dvs E t) := by
  intro pins s σ H Q I h
  refine wpAny_Call_Name_kw (ld_glob I hg hm ?_ hdb)
  refine PySem.W.callWith_K (h₀ := X.base) I.ok.mod.kin hk (thn (ha pos pins s σ H _ I h) fun us s1 ⟨vs, H1, I1, r, q⟩ => ⟨I1.kIn, ?_⟩) he hpl
  exact run_fn F hr hb hd hx I1 r q
end

section
variable {X : Cx} {CX : CXT} {k : Nat} {f C : Addr} {fd : FuncData} {ps ks : List Str} {sp : Sp} {E : XK} {x m : Str} {p pos apos kpos : Pos} {e o : Expr} {es : List Expr} {kws : List Keyword} {te ta : TE} {t tk : TA} {nm : Option Str}
variable {g : List Value → List Value → List Value} {gV : List V → List V → List V}
end

/-- names: the parameters first -/
structure FnScope (N P : List Str) (sc : Scope) : Prop where
  kind : sc.kind = .function
  co : sc.isCoroutine = false
  gen : sc.isGenerator = false
  nd : N.Nodup
  pre : N.take P.length = P
  par : ∀ x ∈ P, sc.names.lookup x = some .local ∨ sc.names.lookup x = some .cell
  nofree : ∀ y ∈ sc.names, y.2 ≠ .free

theorem bindL_out {kindOf : Str → Option NameKind} {x : Str} : ∀ {binds : List (Str × Value)} {m : Str → Option Value}, (∀ v, (x, v) ∉ binds) → bindL kindOf binds m x = m x
  | [], _, _ => rfl
  | (n, v) :: r, m, h => by
    unfold bindL
    rw [bindL_out fun w hw => h w (List.mem_cons_of_mem _ hw)]
    split
    · have : x ≠ n := by rintro rfl; exact h v List.mem_cons_self
      simp [this]
    · rfl
theorem bindC_out {kindOf : Str → Option NameKind} {x : Str} : ∀ {binds : List (Str × Value)} {m : Str → Option Value}, (∀ v, (x, v) ∉ binds) → bindC kindOf binds m x = m x
  | [], _, _ => rfl
  | (n, v) :: r, m, h => by
    unfold bindC
    rw [bindC_out fun w hw => h w (List.mem_cons_of_mem _ hw)]
    split
    · rfl
    · have : x ≠ n := by rintro rfl; exact h v List.mem_cons_self
      simp [this]
theorem bindL_get {kindOf : Str → Option NameKind} {x : Str} {v : Value} : ∀ {P : List Str} {vs : List Value} {i : Nat} {m : Str → Option Value}, P.Nodup → P[i]? = some x → vs[i]? = some v → kindOf x = some .local →
    bindL kindOf (P.zip vs) m x = some v
  | [], _, _, _, _, h, _, _ => by simp at h
  | _ :: _, [], _, _, _, _, h, _ => by simp at h
  | p :: P, w :: vs, 0, m, nd, h1, h2, hk => by
    simp at h1 h2; subst h1; subst h2
    show bindL kindOf ((p, w) :: P.zip vs) m p = _
    unfold bindL
    rw [bindL_out fun v hv => (List.nodup_cons.mp nd).1 (List.of_mem_zip hv).1, if_pos hk]
    simp
  | p :: P, w :: vs, i + 1, m, nd, h1, h2, hk => by
    show bindL kindOf ((p, w) :: P.zip vs) m x = _
    unfold bindL
    exact bindL_get (i := i) (List.nodup_cons.mp nd).2 (by simpa using h1) (by simpa using h2) hk
theorem bindC_get {kindOf : Str → Option NameKind} {x : Str} {v : Value} : ∀ {P : List Str} {vs : List Value} {i : Nat} {m : Str → Option Value}, P.Nodup → P[i]? = some x → vs[i]? = some v → kindOf x ≠ some .local →
    bindC kindOf (P.zip vs) m x = some v
  | [], _, _, _, _, h, _, _ => by simp at h
  | _ :: _, [], _, _, _, _, h, _ => by simp at h
  | p :: P, w :: vs, 0, m, nd, h1, h2, hk => by
    simp at h1 h2; subst h1; subst h2
    show bindC kindOf ((p, w) :: P.zip vs) m p = _
    unfold bindC
    rw [bindC_out fun v hv => (List.nodup_cons.mp nd).1 (List.of_mem_zip hv).1, if_neg hk]
    simp
  | p :: P, w :: vs, i + 1, m, nd, h1, h2, hk => by
    show bindC kindOf ((p, w) :: P.zip vs) m x = _
    unfold bindC
    exact bindC_get (i := i) (List.nodup_cons.mp nd).2 (by simpa using h1) (by simpa using h2) hk

/-- the names' values at the entry -/
def start (N : List Str) (vs : List V) : St := vs.map some ++ List.replicate (N.length - vs.length) none

/-- the context of a def's body, at its entry; an exception leaves the frame, then lies as CX says -/
def cxOf (CX : CXT) (P : Program) (w : World) (K : PySem.W.Frag) (mg : Str → Option Value) (base : Heap) (N : List Str) (qual : Str) (scope : Scope) (f : Addr) (cd : Value) (A : Around) (outer : List Env) (s : Shared) (H : Hp) (E : XK) : Cx where
  prog := P
  w := w
  K := K
  mg := mg
  base := base
  A := A.deeper (envOfC qual scope s.heap.objs.size f cd)
  N := N
  s₀ := s
  H₀ := H
  env := envOfC qual scope s.heap.objs.size f cd
  outer := outer
  stack := envOfC qual scope s.heap.objs.size f cd :: outer
  ex := []
  calm := true
  fn := fun _ => true
  pn := []
  xe := fun e s' => wpAny (model P w) (A.deeper (envOfC qual scope s.heap.objs.size f cd)) (leaving (envOfC qual scope s.heap.objs.size f cd) e) (fun _ s'' => CX outer H s E e s'') (fun e' s'' => CX outer H s E e' s'') s'

theorem cell_has {sc : Scope} {n : Nat} {x : Str} (h : sc.names.lookup x = some .cell) : ∃ c, (cellsFrom n sc.names []).lookup x = some c := by
  have q := PySem.W.cellsFrom_some sc.names n [] (.inl h)
  exact Option.isSome_iff_exists.mp q

theorem inv_start {CX : CXT} {P : Program} {w : World} {K : PySem.W.Frag} {mg : Str → Option Value} {base : Heap} {N ps : List Str} {qual : Str} {scope : Scope} {f : Addr} {cd : Value} {A : Around} {outer : List Env} {s s1 : Shared} {H : Hp} {E : XK} {us : List Value} {vs : List V}
    (S : FnScope N ps scope) (hd : A.handled = none) (e0 : Env0 P w K mg base A outer s H) (hl : vs.length = ps.length) (r : Vals vs us)
    (x : InCallC s s.heap.objs.size (bindL (envOfC qual scope s.heap.objs.size f cd).kindOf (ps.zip us) fun _ => none) (cellsFrom (s.heap.objs.size + 1) scope.names []) (bindC (envOfC qual scope s.heap.objs.size f cd).kindOf (ps.zip us) fun _ => none) s1) :
    Inv (cxOf CX P w K mg base N qual scope f cd A outer s H E) [] (start N vs) H s1 := by
  have hpl : ps.length ≤ N.length := by have := congrArg List.length S.pre; rw [List.length_take] at this; omega
  obtain ⟨h1, tk, rfl, hk⟩ := x.done
  have noA : ∀ b : Addr, b ∉ (cxOf CX P w K mg base N qual scope f cd A outer s H E).ex := fun b z => absurd (show b ∈ ([] : List Addr) from z) (by simp)
  refine ⟨⟨e0.mod, S.kind, rfl, rfl, Nat.le_refl _, fun y z c h1 h2 => ?_, fun y hy => ?_, fun y c _ h => ?_, fun _ => hd, Around.frames_deeper e0.frames, .inr ⟨rfl, rfl⟩, fun b z => absurd z (noA b), e0.bs, e0.bsz, fun b _ _ => noA b, fun b z => absurd z (noA b), e0.funs, e0.frf⟩,
    rfl, e0.bare, Un.kept hk, ⟨_, x.toInCall.ns, fun i y v h1 h2 h3 => ?_⟩, fun y c h => ⟨_, x.cell y c h⟩, e0.hok.fresh (Nat.le_refl _), fun y c h => ?_, fun p hp => absurd (show p ∈ ([] : List (Addr × Obj)) from hp) (by simp), e0.hok.kept hk, ?_⟩
  · exact name_of_addr x.apart (PySem.mem_of_lookup h1) (PySem.mem_of_lookup h2)
  · have hy : scope.names.lookup y = some .cell ∨ scope.names.lookup y = some .free := hy
    rcases hy with hy | hy
    · exact cell_has hy
    · exact absurd rfl (S.nofree _ (PySem.mem_of_lookup hy))
  · exact Nat.le_of_lt (x.above y c (PySem.mem_of_lookup h))
  · have hi : i < vs.length := by
      unfold start at h2
      by_cases hi : i < vs.length
      · exact hi
      · rw [List.getElem?_append_right (by simpa using hi)] at h2
        rw [List.getElem?_replicate] at h2
        split at h2 <;> cases h2
    have ha : vs[i]? = some v := by
      unfold start at h2
      rw [List.getElem?_append_left (by simpa using hi), List.getElem?_map] at h2
      cases e : vs[i]? with
      | none => rw [e] at h2; cases h2
      | some a => rw [e] at h2; cases h2; rfl
    obtain ⟨u, hu, rv⟩ := r.get ha
    have hp : ps[i]? = some y := by
      rw [← S.pre, List.getElem?_take_of_lt (by omega)]; exact h1
    have ndP : ps.Nodup := by rw [← S.pre]; exact S.nd.sublist (List.take_sublist _ _)
    refine ⟨u, rv, ?_⟩
    rcases S.par y (List.mem_of_getElem? hp) with k | k
    · exact .inl ⟨k, bindL_get ndP hp hu k⟩
    · obtain ⟨c, e⟩ := cell_has (n := s.heap.objs.size + 1) k
      refine .inr ⟨.inl k, c, e, ?_⟩
      have q := x.cell y c e
      rw [bindC_get ndP hp hu (by show scope.names.lookup y ≠ _; rw [k]; decide)] at q
      exact q
  · exact e0.hok.fresh (Nat.le_of_lt (x.above y c (PySem.mem_of_lookup h)))
  · unfold start
    show _ = N.length
    rw [List.length_append, List.length_map, List.length_replicate]
    omega

/-- THE RULE: a def (or a method) of the text, by its body. The body's reading t is chosen for each entry; it is run at the parameters' values -/
theorem fn_of {CX : CXT} {P : Program} {w : World} {K : PySem.W.Frag} {mg : Str → Option Value} {base : Heap} {k : Nat} {f : Addr} {name qual : Str} {params : Arguments} {body : List Stmt} {scope : Scope} {dV kV doc pm cdv ct oc : Value} {an od : Option Addr}
    {osl : Array (Option Value)} {N ps : List Str} {sp : Sp} (lk : K.lookup f = some ⟨oc, od, .func (PySem.W.fnOf name qual params body scope dV kV doc pm an cdv ct), osl⟩) (hcd : PySem.W.codeIn K cdv qual = true) (S : FnScope N ps scope)
    (len : ∀ vs H Q E, sp vs H Q E → vs.length = ps.length)
    (hbody : ∀ (A : Around) (outer : List Env) (s : Shared) (H : Hp) (vs : List V) (Q : VK) (E : XK), Room k (A.deeper (envOfC qual scope s.heap.objs.size f cdv)) → sp vs H Q E →
      ∃ t, PSs (cxOf CX P w K mg base N qual scope f cdv A outer s H E) body t ∧ t { nx := fun _ H' => Q .non H', rt := Q } (start N vs) H) :
    FnOk P w K mg base CX (k + 1) f (PySem.W.fnOf name qual params body scope dV kV doc pm an cdv ct) ps sp := by
  refine ⟨len, fun A outer s H args us vs Q E hr e0 hb r hsp => ?_⟩
  have hl := len _ _ _ _ hsp
  have KX : K.In s.heap := e0.mod.kin.keeps fun b o e => (e0.bs b o e).1
  have lim : s.heap.NoLimit := e0.mod.nolimit.keeps fun b o e => (e0.bs b o e).1
  have hkind : ∀ y ∈ ps.zip us, scope.names.lookup y.1 = some .local ∨ (scope.names.lookup y.1 = some .cell ∧ ((cellsFrom (s.heap.objs.size + 1) scope.names []).lookup y.1).isSome = true) := fun ⟨n, v⟩ hy => by
    rcases S.par n (List.of_mem_zip hy).1 with q | q
    · exact .inl q
    · exact .inr ⟨q, PySem.W.cellsFrom_some _ _ _ (.inl q)⟩
  refine codeAny_call_function hr.depth (KX _ _ lk) rfl S.co S.gen rfl (PySem.W.codeRec_of KX hcd) (hb _ _ _ _ ?_)
  refine wpAny_newFunctionEnv_cells S.kind hkind fun env he s1 x => ?_
  subst he
  refine ⟨lim.keeps x.toInCall.keep, codeAny_func ?_⟩
  obtain ⟨t, ht, hq⟩ := hbody A outer s H vs Q E (hr.deeper _) hsp
  have I : Inv (cxOf CX P w K mg base N qual scope f cdv A outer s H E) [] (start N vs) H s1 := inv_start S hr.hd e0 hl r x
  refine wpAny_mono (ht [] s1 (start N vs) H _ I hq) (fun fl s' hs => ?_) fun e s' hs => hs
  have fin : ∀ {σ' : St} {H' : Hp} {v : V} {u : Value}, Inv (cxOf CX P w K mg base N qual scope f cdv A outer s H E) [] σ' H' s' → RelV v u → Q v H' → CE outer P w H s Q u s' :=
    fun {σ' H' v u} J rv q => ⟨v, H', J.os, J.bare, J.base, J.hok, rv, q⟩
  cases fl with
  | ret u =>
    obtain ⟨v, σ', H', J, rv, q⟩ := hs
    exact fin J rv q
  | next =>
    obtain ⟨σ', H', J, q⟩ := hs
    exact fin (v := V.non) (u := Value.none) J rfl q
  | brk =>
    obtain ⟨_, _, _, q⟩ := hs
    exact False.elim q
  | cont =>
    obtain ⟨_, _, _, q⟩ := hs
    exact False.elim q
end L2

namespace L2
open PySem PySem.Spec PyProof.Rows
section
variable {X : Cx} {x : Str} {p pos : Pos} {e : Expr} {es : List Expr} {t : TA} {id T : String} {r : List V → Hp → VK → Prop}

def tCB (r : List V → Hp → VK → Prop) (t : TA) : TE := fun σ H Q => t σ H fun vs H1 => r vs H1 Q
/-- f(e, ..), f a built-in function -/
theorem pe_callB (hc : CallR X (.builtin id) r) (hg : Gl X x) (hm : X.mg x = none) (hv : bootBuiltins x = some (.builtin id)) (ha : PA X (e :: es) t) (hn : x ≠ "__name__" := by decide) (hdb : (x == ("__debug__" : Str)) = false := by decide)
    (he : starEach (e :: es) X.env = (false, eval e X.env) :: starEach es X.env := by rfl) (hpl : (backTo pos (starEach es X.env)).any (·.1) = false := by rfl) : PE X (.Call (.Name x p) (e :: es) [] pos) (tCB r t) := by
  intro pins s σ H Q I h
  refine wpAny_Call_Name_kw (ld_blt I hg hm hv ?_ hn hdb)
  exact PyProof.Rows.callWith_builtin1 (thn (ha pos pins s σ H _ I h) fun us s1 ⟨vs, H1, I1, r1, q1⟩ => hc pins s1 σ H1 vs us Q I1 r1 q1) he hpl
/-- T(e, ..), T a built-in type -/
theorem pe_callTy (hc : CallR X (.type T) r) (hg : Gl X x) (hm : X.mg x = none) (hv : bootBuiltins x = some (.type T)) (ha : PA X (e :: es) t) (hn : x ≠ "__name__" := by decide) (hdb : (x == ("__debug__" : Str)) = false := by decide)
    (he : starEach (e :: es) X.env = (false, eval e X.env) :: starEach es X.env := by rfl) (hpl : (backTo pos (starEach es X.env)).any (·.1) = false := by rfl) : PE X (.Call (.Name x p) (e :: es) [] pos) (tCB r t) := by
  intro pins s σ H Q I h
  refine wpAny_Call_Name_kw (ld_blt I hg hm hv ?_ hn hdb)
  exact PyProof.Rows.callWith_type1 (thn (ha pos pins s σ H _ I h) fun us s1 ⟨vs, H1, I1, r1, q1⟩ => hc pins s1 σ H1 vs us Q I1 r1 q1) he hpl
end
end L2

namespace HT
open PySem PyProof.Rows

section
open PySem.SeqAt
open PySem.AutoSeq1 (wpAny_loadPart')
open PySem.MeetsSeq PySem.MeetsSeq2 PySem.MeetsSeq3

end

section
variable {prog : Program} {w : World} {A : Around} {E : Value → Shared → Prop} {s : Shared}

/-- a slice's bound as a place among n (d where it is left out) -/
def sIx (n d : Nat) : Option Int → Nat
  | none => d
  | some v => if v < 0 then (v + (n : Int)).toNat else min v.toNat n
end
end HT

namespace L2
open PySem PySem.Spec PyProof.Rows

abbrev TO := St → Hp → (Option Int → Hp → Prop) → Prop
/-- a slice's part (left out, or an int) -/
def PO (X : Cx) (e : Option Expr) (t : TO) : Prop :=
  ∀ (pins : List (Addr × Obj)) (s : Shared) (σ : St) (H : Hp) (Q : Option Int → Hp → Prop), Inv X pins σ H s → t σ H Q →
    wpAny (model X.prog X.w) X.A (evalPart e X.env) (fun u s' => ∃ o H', Inv X pins σ H' s' ∧ IsPart u o ∧ Q o H') X.xe s
def tPart (t : TE) : TO := fun σ H Q => t σ H fun x H1 => ∃ i, x = .int i ∧ Q (some i) H1

theorem intsAre_of {ns : List Int} : ∀ {us : List Value}, Vals (ns.map V.int) us → IntsAre us ns := by
  induction ns with
  | nil => intro us r; rw [List.map_nil] at r; cases r; exact .nil
  | cons n ns ih =>
    intro us r
    rw [List.map_cons] at r
    cases r with
    | cons r1 r2 =>
      obtain ⟨t, e⟩ := r1
      subst e
      exact .cons n t (ih r2)

section
variable {X : Cx} {e : Expr} {te : TE} {lo hi : Option Expr} {tl th : TO} {pos p2 : Pos}

theorem po_some (h : PE X e te) : PO X (some e) (tPart te) := by
  intro pins s σ H Q I hw
  rw [evalPart_some]
  refine thn (h pins s σ H _ I hw) fun u s1 ⟨x, H1, I1, r1, q1⟩ => ?_
  obtain ⟨i, rfl, q⟩ := q1
  obtain ⟨t, rfl⟩ := r1
  exact ⟨some i, H1, I1, .int i t, q⟩

/-- what a slice of a value is, by values: the slice object stands at sl -/
def SlR (X : Cx) (r : V → Option Int → Option Int → Hp → VK → Prop) : Prop :=
  ∀ (pins : List (Addr × Obj)) (s : Shared) (σ : St) (H : Hp) (x : V) (v vl vu : Value) (lo hi : Option Int) (sl : Addr) (Q : VK), Inv X pins σ H s → RelV x v → s.heap.IsSliceOf sl vl vu .none → IsPart vl lo → IsPart vu hi → r x lo hi H Q →
    ∃ T id, typeLookup (.type T) "__getitem__" = pure (some (.builtin id)) ∧ s.TypeIs v T ∧ wpAny (model X.prog X.w) X.A (getItem v (.ref sl)) (EP X pins σ Q) X.xe s
def tSl (r : V → Option Int → Option Int → Hp → VK → Prop) (te : TE) (tl th : TO) : TE := fun σ H Q => te σ H fun x H1 => tl σ H1 fun l H2 => th σ H2 fun u H3 => r x l u H3 Q
/-- a[lo:hi], any a -/
theorem pe_slice {r : V → Option Int → Option Int → Hp → VK → Prop} (hr : SlR X r) (he : PE X e te) (hl : PO X lo tl) (hu : PO X hi th) : PE X (.Subscript e (.Slice lo hi none p2) pos) (tSl r te tl th) := by
  intro pins s σ H Q I h
  refine Subscript_ (thn (he pins s σ H _ I h) fun v s1 ⟨x, H1, I1, r1, q1⟩ => ?_)
  refine wpAny_Slice (thn (hl pins s1 σ H1 _ I1 q1) fun vl s2 ⟨l, H2, I2, pl, q2⟩ => thn (hu pins s2 σ H2 _ I2 q2) fun vu s3 ⟨u, H3, I3, pu, q3⟩ => ?_)
  rw [evalPart_none]
  refine wpAny_pure ?_
  have I4 : Inv X pins σ H3 { s3 with heap := s3.heap.push { cls := .type "slice", data := .fields #[vl, vu, .none] } } := I3.kept (t' := s3.toks) fun b ob q => Heap.get?_push_of_some _ q
  obtain ⟨T, id, hT, ht, hg⟩ := hr pins { s3 with heap := s3.heap.push { cls := .type "slice", data := .fields #[vl, vu, .none] } } σ H3 x v vl vu l u s3.heap.objs.size Q I4 r1 (Heap.IsSliceOf.new ..) pl pu q3
  show wpAny (model X.prog X.w) X.A (subscriptTail e (.Slice lo hi none p2) v (.ref s3.heap.objs.size)) (EP X pins σ Q) X.xe { s3 with heap := s3.heap.push { cls := .type "slice", data := .fields #[vl, vu, .none] } }
  exact tail_any (ops := [.ref s3.heap.objs.size, v]) ht hT hg (by with_unfolding_all rfl)

/-- the items of xs[lo:hi] -/
def cutV (xs : List V) (lo hi : Option Int) : List V := (xs.drop (HT.sIx xs.length 0 lo)).take (HT.sIx xs.length xs.length hi - HT.sIx xs.length 0 lo)
theorem cutV_length (xs : List V) (lo hi : Option Int) : (cutV xs lo hi).length ≤ xs.length := by
  unfold cutV
  rw [List.length_take, List.length_drop]
  omega
end
end L2

namespace L2
open PySem PySem.Spec PyProof.Rows

/-- the place that an index of any sign means -/
def ixN (n : Nat) (i : Int) : Option Nat := if 0 ≤ i then (if i < n then some i.toNat else none) else if -(n : Int) ≤ i then some (i + n).toNat else none
def atI {α : Type} (xs : List α) (i : Int) : Option α := (ixN xs.length i).bind fun j => xs[j]?
theorem ixN_seq {n : Nat} {i : Int} {j : Nat} (h : ixN n i = some j) : seqIndex? i n = some j ∧ j < n ∧ -(n : Int) ≤ i ∧ i < n := by
  unfold ixN at h
  by_cases h0 : 0 ≤ i
  · rw [if_pos h0] at h
    by_cases h1 : i < n
    · rw [if_pos h1] at h
      have e : i.toNat = j := Option.some.inj h
      exact ⟨by rw [seqIndex_of h0 h1, e], by omega, by omega, h1⟩
    · rw [if_neg h1] at h; cases h
  · rw [if_neg h0] at h
    by_cases h1 : -(n : Int) ≤ i
    · rw [if_pos h1] at h
      have e : (i + n).toNat = j := Option.some.inj h
      exact ⟨by rw [seqIndex_neg (by omega) h1, e], by omega, h1, by omega⟩
    · rw [if_neg h1] at h; cases h
theorem atI_get {α : Type} {xs : List α} {i : Int} {v : α} (h : atI xs i = some v) : ∃ j, seqIndex? i xs.length = some j ∧ xs[j]? = some v ∧ j < xs.length ∧ -(xs.length : Int) ≤ i ∧ i < xs.length := by
  unfold atI at h
  cases e : ixN xs.length i with
  | none => rw [e] at h; cases h
  | some j =>
    rw [e] at h
    obtain ⟨h1, h2, h3, h4⟩ := ixN_seq e
    exact ⟨j, h1, h, h2, h3, h4⟩
theorem atI_nat {α : Type} {xs : List α} {j : Nat} {v : α} (h : xs[j]? = some v) : atI xs (j : Int) = some v := by
  have hj : j < xs.length := (List.getElem?_eq_some_iff.mp h).1
  have e : ixN xs.length (j : Int) = some j := by
    unfold ixN
    rw [if_pos (by omega), if_pos (by omega)]; simp
  unfold atI; rw [e]; exact h
/-- what stands as an index of a plain subscript -/
def PlainIx (b : Expr) : Prop := ∀ o i, subscripted b false o i = operate [o, i] (getItem o i)
/-- a subscript by values -/
def IxR (X : Cx) (r : R2) : Prop :=
  ∀ (value slice : Expr) (pins : List (Addr × Obj)) (s : Shared) (σ : St) (H : Hp) (x y : V) (v u : Value) (Q : VK), Inv X pins σ H s → RelV x v → RelV y u → r x y H Q →
    subscripted slice false v u = operate [v, u] (getItem v u) → wpAny (model X.prog X.w) X.A (subscriptTail value slice v u) (EP X pins σ Q) X.xe s
/-- a call of a builtin's method by values: the receiver, the arguments -/
def MtR (X : Cx) (id : String) (r : V → List V → Hp → VK → Prop) : Prop :=
  ∀ (pins : List (Addr × Obj)) (s : Shared) (σ : St) (H : Hp) (x : V) (xs : List V) (v : Value) (us : List Value) (Q : VK), Inv X pins σ H s → RelV x v → Vals xs us → r x xs H Q →
    wpAny (model X.prog X.w) X.A (call (.builtin id) (v :: us)) (EP X pins σ Q) X.xe s
section
variable {X : Cx} {a b : Expr} {ta tb : TE} {pos : Pos}
theorem IxR.or {r r' : R2} (h : IxR X r) (h' : IxR X r') : IxR X (fun x y H Q => r x y H Q ∨ r' x y H Q) := by
  intro value slice pins s σ H x y v u Q I rx ry q hs
  rcases q with q | q
  · exact h value slice pins s σ H x y v u Q I rx ry q hs
  · exact h' value slice pins s σ H x y v u Q I rx ry q hs
/-- a[b] -/
theorem pe_ix {r : R2} (hr : IxR X r) (ha : PE X a ta) (hb : PE X b tb) (hs : PlainIx b) : PE X (.Subscript a b pos) (tOp r ta tb) := by
  intro pins s σ H Q I h
  exact Subscript_ (binT ha hb I h fun v u s2 x y H2 I2 rx ry q => hr a b pins s2 σ H2 x y v u Q I2 rx ry q (hs _ _))

def rIxL (K : PySem.W.Frag) : R2 := fun x y H Q => ∃ p xs i v, x = .ref p ∧ y = .int i ∧ SqL K H p xs ∧ atI xs i = some v ∧ Q v H
def rIxT (K : PySem.W.Frag) : R2 := fun x y H Q => ∃ p xs i v, x = .ref p ∧ y = .int i ∧ SqT K H p xs ∧ atI xs i = some v ∧ Q v H
def rIxS : R2 := fun x y H Q => ∃ z i c, x = .str z ∧ y = .int i ∧ z.length ≤ sizeLine ∧ atI z.cps.toList i = some c ∧ Q (.str ⟨#[c]⟩) H
theorem ix_list : IxR X (rIxL X.K) := by
  intro value slice pins s σ H x y v u Q I rx ry h hs
  obtain ⟨p, xs, i, z, rfl, rfl, hq, he, q⟩ := h
  cases rx
  obtain ⟨t, rfl⟩ := ry
  obtain ⟨its, r, pl, hz⟩ := I.list hq
  obtain ⟨j, h1, h2, h3, h4, h5⟩ := atI_get he
  obtain ⟨w, ew, rw'⟩ := r.get h2
  have hl := r.length
  have hn := line63
  have fin : EP X pins σ Q w s := ⟨z, H, I, rw', q⟩
  by_cases h0 : 0 ≤ i
  · have hj : i.toNat = j := by
      rw [seqIndex_of h0 h5] at h1
      exact Option.some.inj h1
    exact item_listR pl.isList h0 (by omega) (by rw [hj]; simpa using ew) fin hs
  · have hj : (i + (its.toArray.size : Int)).toNat = j := by
      rw [seqIndex_neg (by omega) h4] at h1
      rw [List.size_toArray, ← hl]
      exact Option.some.inj h1
    exact subscriptTail_builtinR (x := w) pl.isList.typeIs slot_list_getitem.lookup
      (wpAny_getItem_list_neg (Q := fun r s' => r = w ∧ EP X pins σ Q r s') pl.isList (by omega) (by rw [List.size_toArray] <;> omega) (by omega) (by rw [hj]; simpa using ew) ⟨rfl, fin⟩) hs
theorem ix_tup : IxR X (rIxT X.K) := by
  intro value slice pins s σ H x y v u Q I rx ry h hs
  obtain ⟨p, xs, i, z, rfl, rfl, hq, he, q⟩ := h
  cases rx
  obtain ⟨t, rfl⟩ := ry
  obtain ⟨its, r, pl, hz⟩ := I.tuple hq
  obtain ⟨j, h1, h2, h3, h4, h5⟩ := atI_get he
  obtain ⟨w, ew, rw'⟩ := r.get h2
  have hl := r.length
  have hn := line63
  have fin : EP X pins σ Q w s := ⟨z, H, I, rw', q⟩
  exact subscriptTail_builtinR (x := w) pl.typeIs slot_tuple_getitem.lookup
    (getItem_tuple (j := j) (Q := fun r s' => r = w ∧ EP X pins σ Q r s') pl (by omega) (by omega) (by rw [List.size_toArray, ← hl]; exact h1) (by simpa using ew) ⟨rfl, fin⟩) hs
theorem ix_str : IxR X rIxS := by
  intro value slice pins s σ H x y v u Q I rx ry h hs
  obtain ⟨z, i, c, rfl, rfl, hz, he, q⟩ := h
  obtain ⟨t, rfl⟩ := rx
  obtain ⟨t', rfl⟩ := ry
  obtain ⟨j, h1, h2, h3, h4, h5⟩ := atI_get he
  have hl : z.cps.toList.length = z.length := by simp [Str.length]
  rw [hl] at h1 h4 h5
  have hn := line63
  exact tail_any (typeIs_str s z t) slot_str_getitem.lookup (getItem_str (c := c) (by
    have e1 : decide (i < -(2 ^ 63 : Int)) = false := decide_eq_false (by omega)
    have e2 : decide (i ≥ 2 ^ 63) = false := decide_eq_false (by omega)
    rw [e1, e2, Bool.or_false]) (by rw [h1]; simpa using h2) ⟨.str ⟨#[c]⟩, H, I.tok _, ⟨_, rfl⟩, q⟩) hs
/-- list, tuple or str -/
def rIx (K : PySem.W.Frag) : R2 := fun x y H Q => rIxL K x y H Q ∨ rIxT K x y H Q ∨ rIxS x y H Q
theorem ix_seq : IxR X (rIx X.K) := ix_list.or (ix_tup.or ix_str)

/-- the list's object behind a store -/
theorem mapSeq_set (its : List Value) (n j : Nat) (u : Value) : Obj.mapSeq (·.setIfInBounds j u) { cls := .type "list", data := .seq its.toArray n } = { cls := .type "list", data := .seq (its.set j u).toArray n } := by
  simp [Obj.mapSeq]
theorem Inv.lst {pins : List (Addr × Obj)} {σ : St} {H : Hp} {s : Shared} {p : Addr} {xs : List V} (I : Inv X pins σ H s) (h : H p = some (.lst xs)) :
    ∃ (its : List Value) (n : Nat), Vals xs its ∧ s.heap.get? p = some { cls := .type "list", data := .seq its.toArray n } ∧ xs.length ≤ sizeLine := by
  obtain ⟨z, its, n, r, e⟩ := I.hok p _ h
  exact ⟨its, n, r, e, z⟩
/-- the list at p is written by an update of its object -/
theorem Inv.lstUpd {pins : List (Addr × Obj)} {σ : St} {H : Hp} {s : Shared} {p : Addr} {xs ys : List V} {its its' : List Value} {n n' : Nat} {f : Obj → Obj} (I : Inv X pins σ H s) (h : H p = some (.lst xs))
    (ho : s.heap.get? p = some { cls := .type "list", data := .seq its.toArray n }) (hf : f { cls := .type "list", data := .seq its.toArray n } = { cls := .type "list", data := .seq its'.toArray n' }) (r : Vals ys its') (hz : ys.length ≤ sizeLine) (t : Nat) :
    Inv X pins σ (upd H p (.lst ys)) { s with heap := s.heap.update p f, toks := t } := by
  have e : (s.heap.update p f).get? p = some { cls := .type "list", data := .seq its'.toArray n' } := by
    rw [Heap.get?_update_self f ho (by rw [hf] <;> rfl), hf]
  refine I.write (x := p) (e := p) (by rw [h]; trivial) (.inl rfl) (fun b u hb q => (Heap.get?_update_other _ _ (Ne.symm hb)).trans q) ⟨_, e⟩ ?_
  exact ⟨hz, its', n', r, e⟩
def rSetL : V → V → V → Hp → (Hp → Prop) → Prop := fun o i v H Q => ∃ p xs k j, o = .ref p ∧ i = .int k ∧ H p = some (.lst xs) ∧ ixN xs.length k = some j ∧ Q (upd H p (.lst (xs.set j v)))
theorem set_list : PSet X rSetL := by
  intro pins s σ H o i v ov iv u Q I ro ri rv h
  obtain ⟨p, xs, k, j, rfl, rfl, hp, hj, q⟩ := h
  cases ro
  obtain ⟨t, rfl⟩ := ri
  obtain ⟨its, n, r, ho, hz⟩ := I.lst hp
  obtain ⟨h1, h2, h3, h4⟩ := ixN_seq hj
  have hl := r.length
  have hn := line63
  have I' : Inv X pins σ (upd H p (.lst (xs.set j v))) { s with heap := s.heap.update p (Obj.mapSeq (·.setIfInBounds j u)) } :=
    I.lstUpd hp ho (mapSeq_set its n j u) (r.set rv j) (by rw [List.length_set]; exact hz) s.toks
  by_cases h0 : 0 ≤ k
  · have hk : k.toNat = j := by
      rw [seqIndex_of h0 h4] at h1
      exact Option.some.inj h1
    exact PySem.W.ki_setAt ho h0 (by omega) (by rw [List.size_toArray, ← hl]; exact h4) (by rw [hk]; exact ⟨_, I', q⟩)
  · have hk : (k + (its.toArray.size : Int)).toNat = j := by
      rw [seqIndex_neg (by omega) h3] at h1
      rw [List.size_toArray, ← hl]
      exact Option.some.inj h1
    exact PySem.W.ki_setBack ho (by omega) (by rw [List.size_toArray, ← hl]; exact h3) (by omega) (by rw [hk]; exact ⟨_, I', q⟩)

theorem slice_bounds (lo hi : Option Int) (n : Nat) : (sliceBounds lo hi none n).1 = ((HT.sIx n 0 lo : Nat) : Int) ∧ (sliceBounds lo hi none n).2.1 = ((HT.sIx n n hi : Nat) : Int) ∧ (sliceBounds lo hi none n).2.2 = 1 := by
  refine ⟨?_, ?_, rfl⟩
  · cases lo with
    | none => simp [sliceBounds, HT.sIx]
    | some i =>
      simp only [sliceBounds, HT.sIx, Option.getD_none, show (1 : Int) > 0 by decide, if_true]
      by_cases h : i < 0
      · simp only [h, if_true] <;> omega
      · simp only [h, if_false] <;> omega
  · cases hi with
    | none => simp [sliceBounds, HT.sIx]
    | some i =>
      simp only [sliceBounds, HT.sIx, Option.getD_none, show (1 : Int) > 0 by decide, if_true]
      by_cases h : i < 0
      · simp only [h, if_true] <;> omega
      · simp only [h, if_false] <;> omega
theorem slicePick_cut (its : List Value) (lo hi : Option Int) : slicePick its.toArray lo hi none = ((its.drop (HT.sIx its.length 0 lo)).take (HT.sIx its.length its.length hi - HT.sIx its.length 0 lo)).toArray := by
  obtain ⟨h1, h2, h3⟩ := slice_bounds lo hi its.toArray.size
  unfold slicePick
  rw [h1, h2, h3]
  simp only [sliceRange_one, pick_run, List.size_toArray] <;> rfl
/-- xs[lo:hi] of a list: a new list -/
def rSlL (K : PySem.W.Frag) : V → Option Int → Option Int → Hp → VK → Prop := fun x lo hi H Q => ∃ a xs, x = .ref a ∧ SqL K H a xs ∧ ∀ p, H p = none → Q (.ref p) (upd H p (.lst (cutV xs lo hi)))
theorem sl_list : SlR X (rSlL X.K) := by
  intro pins s σ H x v vl vu lo hi sl Q I rx hs pl pu h
  obtain ⟨a, xs, rfl, hx, q⟩ := h
  cases rx
  obtain ⟨its, r, ht, hz⟩ := I.list hx
  have hlen := r.length
  refine ⟨"list", _, slot_list_getitem.lookup, ht.isList.typeIs, ?_⟩
  refine wpAny_getItem_list_slice ht.isList hs pl pu .none (by simp) ?_ (by rw [List.size_toArray] <;> omega)
  rw [slicePick_cut, ← hlen]
  refine ⟨.ref s.heap.objs.size, _, I.laid (t' := s.toks) (o := .lst (cutV xs lo hi)) (fun b ob q => Heap.get?_push_of_some _ q) (Nat.le_refl _) ?_, rfl, q _ (I.hok.fresh (Nat.le_refl _))⟩
  exact ⟨Nat.le_trans (cutV_length xs lo hi) hz, _, 0, (r.drop (HT.sIx xs.length 0 lo)).take (HT.sIx xs.length xs.length hi - HT.sIx xs.length 0 lo), Heap.get?_push_size _ rfl⟩

def flatV : V → Bool
  | .non => true
  | .bl _ => true
  | .int _ => true
  | .str _ => true
  | _ => false
/-- == of flat values -/
def eqV : V → V → Bool
  | .non, .non => true
  | .bl a, .bl b => a == b
  | .bl a, .int b => (if a then 1 else 0) == b
  | .int a, .bl b => a == (if b then 1 else 0)
  | .int a, .int b => a == b
  | .str a, .str b => a == b
  | _, _ => false
theorem eqAt_V {A : Around} {s : Shared} {y x : V} {u v : Value} (ry : RelV y u) (rx : RelV x v) (fy : flatV y = true) (fx : flatV x = true) : SeqAt.EqAt A s u v (eqV y x) := by
  cases y with
  | non =>
    cases ry
    cases x with
    | non => cases rx; exact SeqAt.EqAt.same _
    | bl b => cases rx; exact SeqAt.EqAt.none_bool b
    | int b => obtain ⟨t, rfl⟩ := rx; exact SeqAt.EqAt.none_int b t
    | str b => obtain ⟨t, rfl⟩ := rx; exact SeqAt.EqAt.none_str b t
    | _ => exact absurd (show false = true from fx) Bool.false_ne_true
  | bl a =>
    cases ry
    cases x with
    | non => cases rx; exact SeqAt.EqAt.bool_none a
    | bl b => cases rx; exact SeqAt.EqAt.bool_bool a b
    | int b => obtain ⟨t, rfl⟩ := rx; exact SeqAt.EqAt.bool_int a b t
    | str b => obtain ⟨t, rfl⟩ := rx; exact SeqAt.EqAt.bool_str a b t
    | _ => exact absurd (show false = true from fx) Bool.false_ne_true
  | int a =>
    obtain ⟨t', rfl⟩ := ry
    cases x with
    | non => cases rx; exact SeqAt.EqAt.int_none a t'
    | bl b => cases rx; exact SeqAt.EqAt.int_bool a t' b
    | int b => obtain ⟨t, rfl⟩ := rx; exact SeqAt.EqAt.int_int a t' b t
    | str b => obtain ⟨t, rfl⟩ := rx; exact SeqAt.EqAt.int_str a t' b t
    | _ => exact absurd (show false = true from fx) Bool.false_ne_true
  | str a =>
    obtain ⟨t', rfl⟩ := ry
    cases x with
    | non => cases rx; exact SeqAt.EqAt.str_none a t'
    | bl b => cases rx; exact SeqAt.EqAt.str_bool a t' b
    | int b => obtain ⟨t, rfl⟩ := rx; exact SeqAt.EqAt.str_int a t' b t
    | str b => obtain ⟨t, rfl⟩ := rx; exact SeqAt.EqAt.str_str a t' b t
    | _ => exact absurd (show false = true from fx) Bool.false_ne_true
  | _ => exact absurd (show false = true from fy) Bool.false_ne_true
/-- the items' answers, read off the values (a value's own answer does not lean on its token) -/
def eqU (x : V) (u : Value) : Bool := match u with
  | .none => eqV .non x
  | .bool b => eqV (.bl b) x
  | .int i _ => eqV (.int i) x
  | .str z _ => eqV (.str z) x
  | _ => false
theorem eqU_of {x y : V} {u : Value} (r : RelV y u) (f : flatV y = true) : eqU x u = eqV y x := by
  cases y with
  | non => cases r; rfl
  | bl b => cases r; rfl
  | int i => obtain ⟨t, rfl⟩ := r; rfl
  | str z => obtain ⟨t, rfl⟩ := r; rfl
  | _ => exact absurd (show false = true from f) Bool.false_ne_true
theorem any_eqU {x : V} : ∀ {xs : List V} {us : List Value}, Vals xs us → xs.all flatV = true → us.any (eqU x) = xs.any fun y => eqV y x
  | _, _, .nil, _ => rfl
  | y :: xs, u :: us, .cons r t, f => by
    rw [List.all_cons, Bool.and_eq_true] at f
    rw [List.any_cons, List.any_cons, eqU_of r f.1, any_eqU t f.2]
theorem mem_eqAt {A : Around} {s : Shared} {x : V} {v : Value} (rx : RelV x v) (fx : flatV x = true) : ∀ {xs : List V} {us : List Value}, Vals xs us → xs.all flatV = true → ∀ u ∈ us, SeqAt.EqAt A s u v (eqU x u)
  | _, _, .nil, _ => fun u hu => by cases hu
  | y :: xs, u :: us, .cons r t, f => fun u' hu => by
    rw [List.all_cons, Bool.and_eq_true] at f
    rcases List.mem_cons.mp hu with rfl | hu
    · rw [eqU_of r f.1]; exact eqAt_V r rx f.1 fx
    · exact mem_eqAt rx fx t f.2 u' hu
def inV (x : V) (xs : List V) : Bool := xs.any fun y => eqV y x
/-- x in a list or tuple of flat items -/
def rIn (K : PySem.W.Frag) (neg : Bool) : R2 := fun x y H Q => ∃ p xs, y = .ref p ∧ (SqL K H p xs ∨ SqT K H p xs) ∧ flatV x = true ∧ xs.all flatV = true ∧ Q (.bl (if neg then !inV x xs else inV x xs)) H
theorem op_notIn_seq : OpR X (compareOp .NotIn) (rIn X.K true) := by
  intro pins s σ H x y v u Q I rx ry h
  obtain ⟨p, xs, rfl, hq, fx, fs, q⟩ := h
  cases ry
  rcases hq with hq | hq
  · obtain ⟨its, r, pl, hz⟩ := I.list hq
    refine SeqAt.notIn_listAt (eqU x) pl.isList (fun w hw => mem_eqAt rx fx r fs w (by simpa using hw)) ⟨.bl _, H, I, rfl, ?_⟩
    rw [show its.toArray.any (eqU x) = its.any (eqU x) by simp, any_eqU r fs]
    exact q
  · obtain ⟨its, r, pl, hz⟩ := I.tuple hq
    refine SeqAt.notIn_tupleAt (eqU x) pl (fun w hw => mem_eqAt rx fx r fs w (by simpa using hw)) ⟨.bl _, H, I, rfl, ?_⟩
    rw [show its.toArray.any (eqU x) = its.any (eqU x) by simp, any_eqU r fs]
    exact q
theorem call_len_seq : CallR X (.builtin "len") (fun xs H Q => ∃ p ys, xs = [.ref p] ∧ (SqL X.K H p ys ∨ SqT X.K H p ys) ∧ Q (.int ys.length) H) := by
  intro pins s σ H xs us Q I r h
  obtain ⟨p, ys, rfl, hq, q⟩ := h
  obtain ⟨u, rfl, rx⟩ := vals1 r
  cases rx
  have hn := line63
  rcases hq with hq | hq
  · obtain ⟨its, r', pl, hz⟩ := I.list hq
    have hlen := r'.length
    exact Calls.call_len_list pl.isList (by simp only [List.size_toArray] <;> omega) ⟨.int ys.length, H, I.tok _, ⟨s.toks + 1, by rw [List.size_toArray, hlen]⟩, q⟩
  · obtain ⟨its, r', pl, hz⟩ := I.tuple hq
    have hlen := r'.length
    exact len_tuple pl (by simp only [List.size_toArray] <;> omega) ⟨.int ys.length, H, I.tok _, ⟨s.toks + 1, by rw [List.size_toArray, hlen]⟩, q⟩
theorem call_list_of : CallR X (.type "list") (fun xs H Q => ∃ p ys, xs = [.ref p] ∧ (SqL X.K H p ys ∨ SqT X.K H p ys) ∧ ∀ l, H l = none → Q (.ref l) (upd H l (.lst ys))) := by
  intro pins s σ H xs us Q I r h
  obtain ⟨p, ys, rfl, hq, q⟩ := h
  obtain ⟨u, rfl, rx⟩ := vals1 r
  cases rx
  have fin : ∀ (its : List Value), Vals ys its → ys.length ≤ sizeLine → ∀ (h' : Heap) (c' : Nat), (∀ b o', s.heap.get? b = some o' → h'.get? b = some o') →
      h'.get? s.heap.objs.size = some { cls := .type "list", dict := none, data := .seq its.toArray c', slots := #[] } → EP X pins σ Q (.ref s.heap.objs.size) { s with heap := h' } := fun its r' hz h' c' kp e =>
    ⟨.ref s.heap.objs.size, _, I.laid (t' := s.toks) kp (Nat.le_refl _) (show ObjOk X.prog X.w _ h' _ (.lst ys) from ⟨hz, its, c', r', e⟩), rfl, q _ (I.hok.fresh (Nat.le_refl _))⟩
  rcases hq with hq | hq
  · obtain ⟨its, r', pl, hz⟩ := I.list hq
    have hlen := r'.length
    obtain ⟨o, ho, hc, n, hd⟩ := pl.isList
    exact call_list_seq p (.inl rfl) ho hc hd (fun h' c' kp e => fin its r' hz h' c' kp e) (by simp only [List.size_toArray] <;> omega)
  · obtain ⟨its, r', pl, hz⟩ := I.tuple hq
    have hlen := r'.length
    obtain ⟨o, ho, hc, n, hd⟩ := pl
    exact call_list_seq p (.inr rfl) ho hc hd (fun h' c' kp e => fin its r' hz h' c' kp e) (by simp only [List.size_toArray] <;> omega)
theorem call_tuple_of : CallR X (.type "tuple") (fun xs H Q => ∃ p ys, xs = [.ref p] ∧ ((SqL X.K H p ys ∧ ∀ l, H l = none → Q (.ref l) (upd H l (.tup ys))) ∨ (SqT X.K H p ys ∧ Q (.ref p) H))) := by
  intro pins s σ H xs us Q I r h
  obtain ⟨p, ys, rfl, h⟩ := h
  obtain ⟨u, rfl, rx⟩ := vals1 r
  cases rx
  rcases h with ⟨hq, q⟩ | ⟨hq, q⟩
  · obtain ⟨its, r', pl, hz⟩ := I.list hq
    have hlen := r'.length
    refine call_tuple_list pl.isList (fun h' kp => ?_) (by simp only [List.size_toArray] <;> omega)
    have I1 : Inv X pins σ H { s with heap := h' } := I.kept (t' := s.toks) kp
    have I2 : Inv X pins σ (upd H h'.objs.size (.tup ys)) { s with heap := h'.push { cls := .type "tuple", data := .seq its.toArray } } :=
      I1.laid (t' := s.toks) (fun b o e => Heap.get?_push_of_some _ e) (Nat.le_refl _) (show ObjOk X.prog X.w _ _ _ (.tup ys) from ⟨⟨hz, _, Heap.get?_push_size _ rfl, rfl⟩, its, r', IsTup.new _ _⟩)
    exact ⟨.ref h'.objs.size, _, I2, rfl, q _ (I1.hok.fresh (Nat.le_refl _))⟩
  · obtain ⟨its, r', pl, hz⟩ := I.tuple hq
    exact call_tuple_same pl ⟨.ref p, H, I, rfl, q⟩

/-- the value is of that builtin type -/
def tyV (K : PySem.W.Frag) (T : String) (x : V) (H : Hp) : Prop := match x with
  | .str _ => T = "str"
  | .int _ => T = "int"
  | .ref p => (T = "list" ∧ ∃ xs, SqL K H p xs) ∨ (T = "tuple" ∧ ∃ o, K.lookup p = some o ∧ o.cls = .type "tuple" ∧ o.dict = none) ∨
      (T = "dict" ∧ ((∃ kvs, H p = some (.dK kvs)) ∨ ∃ kvs, H p = some (.dT kvs))) ∨ (T = "set" ∧ ∃ S n, H p = some (.set S n))
  | _ => False
theorem tyV_is {pins : List (Addr × Obj)} {σ : St} {H : Hp} {s : Shared} {T : String} {x : V} {v : Value} (I : Inv X pins σ H s) (r : RelV x v) (ty : tyV X.K T x H) :
    s.TypeIs v T ∧ ∀ a, v = .ref a → ∃ ob, s.heap.get? a = some ob ∧ ob.dict = none := by
  cases x with
  | str z =>
    obtain ⟨t, rfl⟩ := r
    cases (show T = "str" from ty)
    exact ⟨typeIs_str s z t, fun _ e => nomatch e⟩
  | int i =>
    obtain ⟨t, rfl⟩ := r
    cases (show T = "int" from ty)
    exact ⟨typeIs_int s i t, fun _ e => nomatch e⟩
  | ref p =>
    cases r
    rcases ty with ⟨rfl, xs, hq⟩ | ⟨rfl, o, hk, hc, hd⟩ | ⟨rfl, hk⟩ | ⟨rfl, S, n, hk⟩
    · obtain ⟨its, _, pl, _⟩ := I.list hq
      refine ⟨pl.isList.typeIs, fun a e => ?_⟩
      cases e
      obtain ⟨o, n, e, c, hd, _⟩ := pl
      exact ⟨o, e, hd⟩
    · refine ⟨⟨o, I.kIn p o hk, hc⟩, fun a e => ?_⟩
      cases e
      exact ⟨o, I.kIn _ o hk, hd⟩
    · have z : ∃ o, s.heap.get? p = some o ∧ o.ExactDict := by
        rcases hk with ⟨kvs, hk⟩ | ⟨kvs, hk⟩
        · obtain ⟨_, _, _, _, o, _, _, e, ex, _⟩ := I.hok p _ hk
          exact ⟨o, e, ex⟩
        · obtain ⟨_, _, _, _, o, _, _, e, ex, _⟩ := I.hok p _ hk
          exact ⟨o, e, ex⟩
      obtain ⟨o, e, ex⟩ := z
      refine ⟨⟨o, e, ex.1⟩, fun a e2 => ?_⟩
      cases e2
      exact ⟨o, e, ex.2.1⟩
    · obtain ⟨o, _, _, _, e, ex, _⟩ := I.hok p _ hk
      refine ⟨⟨o, e, ex.1⟩, fun a e2 => ?_⟩
      cases e2
      exact ⟨o, e, ex.2.1⟩
  | _ => exact False.elim ty
def tBM (K : PySem.W.Frag) (T : String) (r : V → List V → Hp → VK → Prop) (to : TE) (t : TA) : TE := fun σ H Q => to σ H fun x H1 => tyV K T x H1 ∧ t σ H1 fun xs H2 => r x xs H2 Q
variable {o e : Expr} {es : List Expr} {to : TE} {t : TA} {name : Str} {apos cpos : Pos} {T id : String} {r : V → List V → Hp → VK → Prop}
theorem pe_bm (pa : PlainAttrs T) (slot : Slot T name id) (hty : typeOf (.builtin id) = pure (.type "method_descriptor")) (hm : MtR X id r) (ho : PE X o to) (ha : PA X (e :: es) t)
    (hbase : attributeBase o name X.env (eval o X.env) = eval o X.env := by rfl)
    (hfew : ((backTo cpos (starEach (e :: es) X.env)).all (fun x => !x.1) && (backToKw cpos (keywordEach [] X.env)).all (fun x => x.1.isSome)
      && decide ((e :: es).length + ([] : List Keyword).length + (if ([] : List Keyword).isEmpty then 0 else 1) < 30)) = true := by rfl)
    (hline : (apos.endLine == cpos.line) = true := by rfl) (hs : starEach (e :: es) X.env = (false, eval e X.env) :: starEach es X.env := by rfl) (hplain : (backTo cpos (starEach es X.env)).any (·.1) = false := by rfl) :
    PE X (.Call (.Attribute o name apos) (e :: es) [] cpos) (tBM X.K T r to t) := by
  intro pins s σ H Q I h
  refine wpAny_Call_method_late hbase hfew hline rfl (thn (ho pins s σ H _ I h) fun v s1 ⟨x, H1, I1, r1, ty, q1⟩ => ?_)
  obtain ⟨h1, h2⟩ := tyV_is I1 r1 ty
  refine ⟨T, id, pa, slot, hty, h1, h2, ?_⟩
  have hA := ha cpos pins s1 σ H1 _ I1 q1
  rw [hs] at hA ⊢
  refine Calls.callWith_builtin (by show (false || (backTo cpos (starEach es X.env)).any (·.1)) = false; rw [hplain] <;> rfl) (Calls.evalArgs_plain ?_)
  exact thn hA fun us s2 ⟨vs, H2, I2, r2, q2⟩ => hm pins s2 σ H2 x vs v us Q I2 r1 r2 q2
/- xs.append(e), list.index on a module's tuple .. are MtR facts of 06m -/
end
end L2

namespace L2
open PySem PySem.Spec PyProof.Rows

def MtM (X : Cx) (id : String) (r : V → List V → Hp → VK → Prop) : Prop :=
  ∀ (pins : List (Addr × Obj)) (s : Shared) (σ : St) (H : Hp) (x : V) (xs : List V) (v : Value) (us : List Value) (Q : VK), Inv X pins σ H s → RelV x v → Vals xs us → r x xs H Q →
    wpAny (model X.prog X.w) X.A (call (.builtin id) (v :: us)) (EP X pins σ Q) X.xe s

theorem Vals.one : ∀ {x : V} {us : List Value}, Vals [x] us → ∃ u, us = [u] ∧ RelV x u
  | _, _, .cons r .nil => ⟨_, rfl, r⟩
theorem Vals.eraseIdx : ∀ {xs : List V} {us : List Value} (i : Nat), Vals xs us → Vals (xs.eraseIdx i) (us.eraseIdx i)
  | _, _, _, .nil => .nil
  | _, _, 0, .cons _ t => t
  | _, _, i + 1, .cons r t => .cons r (Vals.eraseIdx i t)
theorem len_erase {α : Type} : ∀ (l : List α) (i : Nat), (l.eraseIdx i).length ≤ l.length
  | [], _ => Nat.le_refl _
  | _ :: _, 0 => Nat.le_succ _
  | _ :: r, i + 1 => Nat.succ_le_succ (len_erase r i)
section
variable {X : Cx} {pins : List (Addr × Obj)} {σ : St} {H : Hp} {s : Shared} {l b : Addr} {xs ys zs : List V}

theorem Inv.lset {its its' : List Value} {n : Nat} {f : Array Value → Array Value} {t' : Nat} (I : Inv X pins σ H s) (hH : H l = some (.lst xs))
    (e : s.heap.get? l = some { cls := .type "list", data := .seq its.toArray n }) (hf : f its.toArray = its'.toArray) (hv : Vals ys its') (hz : ys.length ≤ sizeLine) :
    Inv X pins σ (upd H l (.lst ys)) { s with heap := s.heap.update l (Obj.mapSeq f), toks := t' } := by
  have q := PySem.IsL.update e f
  rw [hf] at q
  refine I.write (x := l) (e := l) (by rw [hH]; exact trivial) (.inl rfl) (fun b' u hb hu => (Heap.get?_update_other s.heap (Obj.mapSeq f) (Ne.symm hb)).trans hu) ⟨_, q⟩ ?_
  exact ⟨hz, its', _, hv, q⟩
theorem Inv.lstM (I : Inv X pins σ H s) (hH : H l = some (.lst xs)) : xs.length ≤ sizeLine ∧ ∃ (its : List Value) (n : Nat), Vals xs its ∧ xs.length = its.length ∧ s.heap.get? l = some { cls := .type "list", data := .seq its.toArray n } := by
  obtain ⟨z, its, n, r, e⟩ := I.hok l _ hH
  exact ⟨z, its, n, r, r.length, e⟩

end

section
variable {X : Cx}

def rAppend : V → List V → Hp → VK → Prop := fun x vs H Q => ∃ l xs y, x = .ref l ∧ vs = [y] ∧ H l = some (.lst xs) ∧ xs.length < sizeLine ∧ Q .non (upd H l (.lst (xs ++ [y])))
theorem mt_append : MtM X "list.append" rAppend := by
  intro pins s σ H x vs v us Q I rx rv h
  obtain ⟨l, xs, y, rfl, rfl, hH, hz, q⟩ := h
  cases rx
  obtain ⟨u, rfl, ru⟩ := rv.one
  obtain ⟨z, its, n, r, hl, e⟩ := I.lstM hH
  refine call_meets F.slot_list_append ⟨_, e, rfl⟩ F.entry_list_append (F.args_list_append_2 _ _) (PySem.list_append l its.toArray n u (by rw [List.size_toArray]; omega)) ⟨e, ?_⟩
  refine ⟨.non, _, I.lset (its' := its ++ [u]) hH e (by simp) (r.append (.cons ru .nil)) ?_, rfl, q⟩
  rw [List.length_append, List.length_singleton]
  omega

def rPopAt : V → List V → Hp → VK → Prop := fun x vs H Q => ∃ l xs i k y, x = .ref l ∧ vs = [.int i] ∧ H l = some (.lst xs) ∧ -(2 ^ 63) ≤ i ∧ i < 2 ^ 63 ∧ seqIndex? i xs.length = some k ∧ xs[k]? = some y ∧ Q y (upd H l (.lst (xs.eraseIdx k)))
theorem mt_popAt : MtM X "list.pop" rPopAt := by
  intro pins s σ H x vs v us Q I rx rv h
  obtain ⟨l, xs, i, k, y, rfl, rfl, hH, h1, h2, hk, hy, q⟩ := h
  cases rx
  obtain ⟨u, rfl, ru⟩ := rv.one
  obtain ⟨t, rfl⟩ := ru
  obtain ⟨z, its, n, r, hl, e⟩ := I.lstM hH
  obtain ⟨w, hw, rw'⟩ := r.get hy
  refine call_meets F.slot_list_pop ⟨_, e, rfl⟩ F.entry_list_pop (F.args_list_pop_2 _ _)
    (MeetsSeq.list_pop_at l its.toArray n i t k w (fitsIndex_both h1 h2) (by rw [List.size_toArray, ← hl]; exact hk) (by rw [← Array.getElem?_toList]; exact hw) (by rw [List.size_toArray]; omega)) ⟨e, ?_⟩
  refine ⟨y, _, I.lset (its' := its.eraseIdx k) hH e ?_ (r.eraseIdx k) ?_, rw', q⟩
  · show its.toArray.eraseIdxIfInBounds k = (its.eraseIdx k).toArray
    rw [List.eraseIdxIfInBounds_toArray]
  · have := len_erase xs k
    omega

end

section
variable {prog : Program} {w : World} {A : Around} {E : Value → Shared → Prop} {s : Shared}
end

section
variable {X : Cx}
end
end L2

namespace L2
open PySem PySem.Spec PyProof.Rows

section
variable {κ : Type} [DecidableEq κ]
def valV (kvs : List (κ × V)) (k : κ) : Option V := (kvs.find? fun kv => decide (kv.1 = k)).map (·.2)
/-- in its place, or at the end -/
def putK (kvs : List (κ × V)) (k : κ) (v : V) : List (κ × V) :=
  if (kvs.any fun kv => decide (kv.1 = k)) = true then kvs.map (fun kv => if kv.1 = k then (kv.1, v) else kv) else kvs ++ [(k, v)]
theorem valV_pos {p : κ × V} {r : List (κ × V)} {k : κ} (e : p.1 = k) : valV (p :: r) k = some p.2 := by simp [valV, List.find?_cons, e]
theorem valV_neg {p : κ × V} {r : List (κ × V)} {k : κ} (e : ¬ p.1 = k) : valV (p :: r) k = valV r k := by simp [valV, List.find?_cons, e]
theorem valV_any (k : κ) : ∀ kvs : List (κ × V), (kvs.any fun kv => decide (kv.1 = k)) = (valV kvs k).isSome
  | [] => rfl
  | p :: r => by
    rw [List.any_cons]
    by_cases e : p.1 = k
    · simp only [valV_pos e, decide_eq_true e, Bool.true_or, Option.isSome_some]
    · rw [valV_neg e, decide_eq_false e, Bool.false_or]; exact valV_any k r
theorem valV_map (k j : κ) (y : V) : ∀ kvs : List (κ × V), valV (kvs.map fun kv => if kv.1 = k then (kv.1, y) else kv) j = (valV kvs j).map fun x => if j = k then y else x
  | [] => rfl
  | p :: r => by
    have ih := valV_map k j y r
    rw [List.map_cons]
    by_cases h : p.1 = k
    · rw [if_pos h]
      by_cases e : p.1 = j
      · rw [valV_pos (p := (p.1, y)) e, valV_pos e, Option.map_some, if_pos (e.symm.trans h)]
      · rw [valV_neg (p := (p.1, y)) e, valV_neg e, ih]
    · rw [if_neg h]
      by_cases e : p.1 = j
      · rw [valV_pos (p := p) e, valV_pos e, Option.map_some, if_neg (fun z => h (e.trans z))]
      · rw [valV_neg (p := p) e, valV_neg e, ih]
theorem valV_snoc (k j : κ) (y : V) : ∀ kvs : List (κ × V), valV kvs k = none → valV (kvs ++ [(k, y)]) j = if j = k then some y else valV kvs j
  | [], _ => by
    by_cases e : k = j
    · rw [if_pos e.symm]; exact valV_pos (p := (k, y)) e
    · rw [if_neg (fun z => e z.symm)]; exact valV_neg (p := (k, y)) e
  | p :: r, hn => by
    rw [List.cons_append]
    have hk : ¬ p.1 = k := fun z => by rw [valV_pos z] at hn; cases hn
    rw [valV_neg hk] at hn
    have ih := valV_snoc k j y r hn
    by_cases e : p.1 = j
    · rw [valV_pos e, valV_pos e, if_neg (fun z => hk (e.trans z))]
    · rw [valV_neg e, valV_neg e, ih]
theorem valV_put (kvs : List (κ × V)) (k j : κ) (y : V) : valV (putK kvs k y) j = if j = k then some y else valV kvs j := by
  unfold putK
  by_cases a : (kvs.any fun kv => decide (kv.1 = k)) = true
  · rw [if_pos a, valV_map]
    rw [valV_any] at a
    by_cases e : j = k
    · obtain ⟨x, hx⟩ := Option.isSome_iff_exists.mp a
      rw [if_pos e, e, hx, Option.map_some, if_pos rfl]
    · rw [if_neg e]
      cases valV kvs j with
      | none => rfl
      | some x => rw [Option.map_some, if_neg e]
  · rw [if_neg a]
    refine valV_snoc k j y kvs ?_
    rw [valV_any] at a
    cases q : valV kvs k with
    | none => rfl
    | some x => rw [q] at a; exact (a rfl).elim
theorem length_putK (kvs : List (κ × V)) (k : κ) (v : V) : (putK kvs k v).length ≤ kvs.length + 1 := by
  unfold putK
  split
  · rw [List.length_map]; omega
  · rw [List.length_append, List.length_cons, List.length_nil]; omega
theorem putK_new {kvs : List (κ × V)} {k : κ} (v : V) (h : valV kvs k = none) : putK kvs k v = kvs ++ [(k, v)] := by
  unfold putK
  rw [valV_any, h]
  exact if_neg (by decide)

theorem RelO.isSome_eq {o : Option V} {u : Option Value} (r : RelO o u) : o.isSome = u.isSome := by
  cases o with
  | none => cases u with
    | none => rfl
    | some _ => exact (show False from r).elim
  | some _ => cases u with
    | none => exact (show False from r).elim
    | some _ => rfl
/-- raw tables of the same keys -/
theorem KV.val {kvs : List (κ × V)} {vs : List (κ × Value)} (r : KV kvs vs) (k : κ) : RelO (valV kvs k) (valueAt vs k) := by
  unfold KV at r
  induction r with
  | nil => exact True.intro
  | @cons p q ps qs h t ih =>
    obtain ⟨h1, h2⟩ := h
    by_cases e : p.1 = k
    · have e' : q.1 = k := h1.symm.trans e
      have b : valueAt (q :: qs) k = some q.2 := by simp [valueAt, List.find?_cons, e']
      rw [valV_pos e, b]; exact h2
    · have e' : ¬ q.1 = k := fun z => e (h1.trans z)
      have b : valueAt (q :: qs) k = valueAt qs k := by simp [valueAt, List.find?_cons, e']
      rw [valV_neg e, b]; exact ih
theorem KV.any {kvs : List (κ × V)} {vs : List (κ × Value)} (r : KV kvs vs) (k : κ) : (kvs.any fun kv => decide (kv.1 = k)) = vs.any fun kv => decide (kv.1 = k) := by
  unfold KV at r
  induction r with
  | nil => rfl
  | cons h t ih => rw [List.any_cons, List.any_cons, ih, h.1]
theorem KV.repl {kvs : List (κ × V)} {vs : List (κ × Value)} (r : KV kvs vs) (k : κ) {y : V} {u : Value} (ry : RelV y u) :
    KV (kvs.map fun kv => if kv.1 = k then (kv.1, y) else kv) (vs.map fun kv => if kv.1 = k then (kv.1, u) else kv) := by
  unfold KV at r ⊢
  induction r with
  | nil => exact .nil
  | @cons p q ps qs h t ih =>
    rw [List.map_cons, List.map_cons]
    refine .cons ?_ ih
    obtain ⟨h1, h2⟩ := h
    by_cases e : p.1 = k
    · rw [if_pos e, if_pos (h1.symm.trans e)]; exact ⟨h1, ry⟩
    · rw [if_neg e, if_neg (fun z => e (h1.trans z))]; exact ⟨h1, h2⟩
theorem KV.put {kvs : List (κ × V)} {vs : List (κ × Value)} (r : KV kvs vs) (k : κ) {y : V} {u : Value} (ry : RelV y u) : KV (putK kvs k y) (stored vs k u) := by
  unfold putK stored
  rw [r.any k]
  by_cases e : (vs.any fun kv => decide (kv.1 = k)) = true
  · rw [if_pos e, if_pos e]; exact r.repl k ry
  · rw [if_neg e, if_neg e]; exact Paired.snoc r ⟨rfl, ry⟩
theorem KV.keys {kvs : List (κ × V)} {vs : List (κ × Value)} (r : KV kvs vs) : kvs.map (·.1) = vs.map (·.1) := by
  unfold KV at r
  induction r with
  | nil => rfl
  | cons h t ih => rw [List.map_cons, List.map_cons, ih, h.1]
theorem KV.length {kvs : List (κ × V)} {vs : List (κ × Value)} (r : KV kvs vs) : kvs.length = vs.length := Paired.length r
end


theorem kV_is {P : Program} {w : World} {k : Key} {u : Value} (r : RelV (kV k) u) : (mixKind P w).is k u = true := by
  cases k with
  | inl i => obtain ⟨t, e⟩ := (show ∃ t, u = Value.int i t from r); subst e; exact mixKind_int P w i t
  | inr x => obtain ⟨t, e⟩ := (show ∃ t, u = Value.str x t from r); subst e; exact mixKind_str P w x t
theorem items_are {P : Program} {w : World} : ∀ {ks : List Key} {us : List Value}, Vals (ks.map kV) us → ItemsAre (mixKind P w) ks us
  | [], _, r => by rw [List.map_nil] at r; cases r; exact .nil
  | k :: ks, _, r => by
    rw [List.map_cons] at r
    cases r with
    | cons h t => exact .cons (kV_is h) (items_are t)

/-- raw entries of a dict with tuple keys -/
abbrev KT (H : Hp) : List (List Key × V) → List (List Key × Addr × Value) → Prop := Paired fun p q => p.1 = q.1 ∧ H q.2.1 = some (.tup (p.1.map kV)) ∧ RelV p.2 q.2.2
theorem KT.val {H : Hp} {kvs : List (List Key × V)} {xs : List (List Key × Addr × Value)} (r : KT H kvs xs) (k : List Key) : RelO (valV kvs k) ((atKey xs k).map (·.2)) := by
  induction r with
  | nil => exact True.intro
  | @cons p q ps qs h t ih =>
    obtain ⟨h1, _, h2⟩ := h
    by_cases e : p.1 = k
    · have e' : q.1 = k := h1.symm.trans e
      have b : atKey (q :: qs) k = some q.2 := by simp [atKey, List.find?_cons, e']
      rw [valV_pos e, b]; exact h2
    · have e' : ¬ q.1 = k := fun z => e (h1.trans z)
      have b : atKey (q :: qs) k = atKey qs k := by simp [atKey, List.find?_cons, e']
      rw [valV_neg e, b]; exact ih
theorem KT.repl {H : Hp} {kvs : List (List Key × V)} {xs : List (List Key × Addr × Value)} (r : KT H kvs xs) (k : List Key) {y : V} {u : Value} (ry : RelV y u) :
    KT H (kvs.map fun kv => if kv.1 = k then (kv.1, y) else kv) (xs.map (putAt k u)) := by
  induction r with
  | nil => exact .nil
  | @cons p q ps qs h t ih =>
    rw [List.map_cons, List.map_cons]
    refine .cons ?_ ih
    obtain ⟨h1, h2, h3⟩ := h
    unfold putAt
    by_cases e : p.1 = k
    · rw [if_pos e, if_pos (h1.symm.trans e)]; exact ⟨h1, h2, ry⟩
    · rw [if_neg e, if_neg (fun z => e (h1.trans z))]; exact ⟨h1, h2, h3⟩
theorem KT.put {H : Hp} {kvs : List (List Key × V)} {xs : List (List Key × Addr × Value)} (r : KT H kvs xs) (k : List Key) {b : Addr} {y : V} {u : Value} (hb : H b = some (.tup (k.map kV))) (ry : RelV y u) :
    KT H (putK kvs k y) (storedH xs k b u) := by
  have e : (kvs.any fun kv => decide (kv.1 = k)) = (atKey xs k).isSome := by
    rw [valV_any, (r.val k).isSome_eq, Option.isSome_map]
  unfold putK storedH
  rw [e]
  by_cases q : (atKey xs k).isSome = true
  · rw [if_pos q, if_pos q]; exact r.repl k ry
  · rw [if_neg q, if_neg q]; exact Paired.snoc r ⟨rfl, hb, ry⟩
theorem KT.keeps {H H' : Hp} {kvs : List (List Key × V)} {xs : List (List Key × Addr × Value)} (r : KT H kvs xs) (ht : ∀ b ys, H b = some (.tup ys) → H' b = some (.tup ys)) : KT H' kvs xs :=
  Paired.mapP r fun _ _ z => ⟨z.1, ht _ _ z.2.1, z.2.2⟩

section
variable {P : Program} {w : World} {H : Hp} {h : Heap} {a : Addr}
theorem rd_of {u : HO} (ok : HOk P w H h) (e : Rd H a u) : ObjOk P w H h a u := e.ok ok
theorem dk_rd {kvs : List (Key × V)} (ok : HOk P w H h) (e : Rd H a (.dK kvs)) : kvs.length ≤ sizeLine ∧ (a == sysModules) = false ∧ ∃ vs, KV kvs vs ∧ h.DictOf (mixKind P w) a vs :=
  show ObjOk P w H h a (.dK kvs) from rd_of ok e
theorem dk_of {kvs : List (Key × V)} (ok : HOk P w H h) (e : H a = some (.dK kvs)) : kvs.length ≤ sizeLine ∧ (a == sysModules) = false ∧ ∃ vs, KV kvs vs ∧ h.DictOf (mixKind P w) a vs := dk_rd ok (.inl e)
/-- a tracked tuple of ints and texts is a key -/
theorem key_of {ks : List Key} (ok : HOk P w H h) (e : H a = some (.tup (ks.map kV))) : (tupleKind (mixKind P w)).is h ks a := by
  obtain ⟨_, its, r, o, h1, h2, n, h3⟩ := (show ObjOk P w H h a (.tup (ks.map kV)) from ok a _ e)
  exact ⟨o, its.toArray, n, h1, h2, h3, by simpa using items_are r⟩
theorem dt_rd {kvs : List (List Key × V)} (ok : HOk P w H h) (e : Rd H a (.dT kvs)) : kvs.length ≤ sizeLine ∧ (a == sysModules) = false ∧
    ∃ xs, KT H kvs xs ∧ h.DictOfH (tupleKind (mixKind P w)) a xs := by
  obtain ⟨z, y, xs, r, o, es, ep, h1, h2, h3, h4, h5⟩ := (show ObjOk P w H h a (.dT kvs) from rd_of ok e)
  refine ⟨z, y, xs, r, o, es, ep, h1, h2, h3, h4, fun x hx => ?_, h5⟩
  have all : ∀ {l : List (List Key × V)} {m : List (List Key × Addr × Value)}, KT H l m → ∀ x ∈ m, (tupleKind (mixKind P w)).is h x.1 x.2.1 := by
    intro l m q
    induction q with
    | nil => intro x hx; exact nomatch hx
    | @cons p q ps qs hq t ih =>
      intro x hx
      rcases List.mem_cons.mp hx with e | hx
      · subst e
        exact key_of ok (by rw [← hq.1]; exact hq.2.1)
      · exact ih x hx
  exact all r x hx
theorem dt_of {kvs : List (List Key × V)} (ok : HOk P w H h) (e : H a = some (.dT kvs)) : kvs.length ≤ sizeLine ∧ (a == sysModules) = false ∧
    ∃ xs, KT H kvs xs ∧ h.DictOfH (tupleKind (mixKind P w)) a xs := dt_rd ok (.inl e)
end

/-- what the dict at a holds at the key y -/
def DGet (H : Hp) (a : Addr) (y : V) (r : Option V) : Prop :=
  (∃ kvs k, Rd H a (.dK kvs) ∧ y = kV k ∧ r = valV kvs k) ∨ ∃ kvs k b, Rd H a (.dT kvs) ∧ y = .ref b ∧ H b = some (.tup (k.map kV)) ∧ r = valV kvs k
/-- the heap behind a[y] = v -/
def DPut (H : Hp) (a : Addr) (y v : V) (H' : Hp) : Prop :=
  (∃ kvs k, H a = some (.dK kvs) ∧ y = kV k ∧ kvs.length < sizeLine ∧ H' = upd H a (.dK (putK kvs k v))) ∨
  ∃ kvs k b, H a = some (.dT kvs) ∧ y = .ref b ∧ H b = some (.tup (k.map kV)) ∧ kvs.length < sizeLine ∧ H' = upd H a (.dT (putK kvs k v))
theorem DGet.k {H : Hp} {a : Addr} {kvs : List (Key × V)} {k : Key} (e : H a = some (.dK kvs)) : DGet H a (kV k) (valV kvs k) := .inl ⟨kvs, k, .inl e, rfl, rfl⟩
theorem DPut.k {H : Hp} {a : Addr} {kvs : List (Key × V)} {k : Key} {v : V} (e : H a = some (.dK kvs)) (hl : kvs.length < sizeLine) : DPut H a (kV k) v (upd H a (.dK (putK kvs k v))) := .inl ⟨kvs, k, e, rfl, hl, rfl⟩
section
variable {X : Cx} {pins : List (Addr × Obj)} {σ : St} {H : Hp} {s : Shared} {a : Addr} {y v : V} {u r : Value} {o : Option V} {A : Around} {E : Value → Shared → Prop}

theorem Inv.big (I : Inv X pins σ H s) : sysModules < s.heap.objs.size := by
  have h : mainGlobals < s.heap.objs.size := (I.mod.glob.keeps I.bk).lt
  exact Nat.lt_trans (by decide) h

/-- d[y], there -/
theorem d_getItem {Q : Value → Shared → Prop} (hu : A.units + 1 < cLine) (I : Inv X pins σ H s) (g : DGet H a y (some v)) (ry : RelV y u) (h : ∀ w' s', Inv X pins σ H s' → RelV v w' → Q w' s') :
    wpAny (model X.prog X.w) A (getItem (.ref a) u) Q E s := by
  rcases g with ⟨kvs, k, e, ey, l⟩ | ⟨kvs, k, b, e, ey, eb, l⟩
  · subst ey
    obtain ⟨z, hd, vs, rel, dd⟩ := dk_rd I.hok e
    obtain ⟨w', hw, rw'⟩ := RelO.some_of (v := v) (o := valueAt vs k) (by rw [l]; exact rel.val k)
    exact wpAny_getItem_of (kV_is ry) dd.mapOf hw (h w' _ (I.tok _) rw')
  · subst ey
    cases (show u = Value.ref b from ry)
    obtain ⟨z, hd, xs, rel, dd⟩ := dt_rd I.hok e
    obtain ⟨w', hw, rw'⟩ := RelO.some_of (v := v) (o := (atKey xs k).map (·.2)) (by rw [l]; exact rel.val k)
    obtain ⟨p, hp, hp2⟩ := Option.map_eq_some_iff.mp hw
    refine wpAny_getItem_heap (tupleKind_room_in1 hu) (key_of I.hok eb) dd hp ?_
    rw [hp2]
    exact h w' _ (I.tok _) rw'
/-- y in d -/
theorem d_in {Q : Value → Shared → Prop} (hu : A.units + 1 < cLine) (I : Inv X pins σ H s) (g : DGet H a y o) (ry : RelV y u) (h : ∀ s', Inv X pins σ H s' → Q (.bool o.isSome) s') :
    wpAny (model X.prog X.w) A (compareOp .In u (.ref a)) Q E s := by
  rcases g with ⟨kvs, k, e, ey, l⟩ | ⟨kvs, k, b, e, ey, eb, l⟩
  · subst ey
    obtain ⟨z, hd, vs, rel, dd⟩ := dk_rd I.hok e
    refine wpAny_in_of (kV_is ry) hd dd.mapOf ?_
    rw [← (rel.val k).isSome_eq, ← l]
    exact h _ (I.tok _)
  · subst ey
    cases (show u = Value.ref b from ry)
    obtain ⟨z, hd, xs, rel, dd⟩ := dt_rd I.hok e
    refine wpAny_in_heap (tupleKind_room_in1 hu) (key_of I.hok eb) hd dd ?_
    have q := (rel.val k).isSome_eq
    rw [Option.isSome_map] at q
    rw [← q, ← l]
    exact h _ (I.tok _)
theorem d_notIn {Q : Value → Shared → Prop} (hu : A.units + 1 < cLine) (I : Inv X pins σ H s) (g : DGet H a y o) (ry : RelV y u) (h : ∀ s', Inv X pins σ H s' → Q (.bool (!o.isSome)) s') :
    wpAny (model X.prog X.w) A (compareOp .NotIn u (.ref a)) Q E s := by
  rcases g with ⟨kvs, k, e, ey, l⟩ | ⟨kvs, k, b, e, ey, eb, l⟩
  · subst ey
    obtain ⟨z, hd, vs, rel, dd⟩ := dk_rd I.hok e
    refine wpAny_notIn_of (kV_is ry) hd dd.mapOf ?_
    rw [← (rel.val k).isSome_eq, ← l]
    exact h _ (I.tok _)
  · subst ey
    cases (show u = Value.ref b from ry)
    obtain ⟨z, hd, xs, rel, dd⟩ := dt_rd I.hok e
    refine wpAny_notIn_heap (tupleKind_room_in1 hu) (key_of I.hok eb) hd dd ?_
    have q := (rel.val k).isSome_eq
    rw [Option.isSome_map] at q
    rw [← q, ← l]
    exact h _ (I.tok _)
/-- a dict's object is replaced -/
theorem d_write {h' : Heap} {t' : Nat} {ob : HO} (I : Inv X pins σ H s) (mu : Mut (H a)) (hs : Heap.SameBut a s.heap h') (he : ∃ q, h'.get? a = some q) (new : ObjOk X.prog X.w (upd H a ob) h' a ob) :
    Inv X pins σ (upd H a ob) { s with heap := h', toks := t' } :=
  I.write (x := a) (e := a) mu (.inl rfl) (fun b q hb z => (hs.2 b hb).trans z) he new
theorem dk_new {P : Program} {w : World} {H' : Hp} {h' : Heap} {kvs : List (Key × V)} {vs : List (Key × Value)} (z : kvs.length ≤ sizeLine) (hd : (a == sysModules) = false) (rel : KV kvs vs) (dd : h'.DictOf (mixKind P w) a vs) :
    ObjOk P w H' h' a (.dK kvs) := ⟨z, hd, vs, rel, dd⟩
/-- d[y] = v -/
theorem d_setItem {H' : Hp} {Q : Unit → Shared → Prop} (hu : A.units + 1 < cLine) (I : Inv X pins σ H s) (g : DPut H a y v H') (ry : RelV y u) (rv : RelV v r) (h : ∀ s', Inv X pins σ H' s' → Q () s') :
    wpAny (model X.prog X.w) A (setItem (.ref a) u r) Q E s := by
  rcases g with ⟨kvs, k, e, ey, l, eH⟩ | ⟨kvs, k, b, e, ey, eb, l, eH⟩
  · subst ey eH
    obtain ⟨z, hd, vs, rel, dd⟩ := dk_of I.hok e
    have hz : vs.length ≤ sizeLine := by rw [← rel.length]; exact z
    have hl : (putK kvs k v).length ≤ sizeLine := by have := length_putK kvs k v; omega
    refine wpAny_setItem_pairs (hsz := hz) (kV_is ry) dd fun h' dd' hs => h _ ?_
    have he : ∃ q, h'.get? a = some q := let ⟨q, _, _, hq, _⟩ := dd'; ⟨q, hq⟩
    exact d_write I (by rw [e]; exact True.intro) hs he (dk_new hl hd (rel.put k rv) dd')
  · subst ey eH
    cases (show u = Value.ref b from ry)
    obtain ⟨z, hd, xs, rel, dd⟩ := dt_of I.hok e
    have hz : xs.length ≤ sizeLine := by rw [← Paired.length rel]; exact z
    have hl : (putK kvs k v).length ≤ sizeLine := by have := length_putK kvs k v; omega
    refine wpAny_setItem_heap (hsz := hz) (tupleKind_room_in1 hu) (key_of I.hok eb) dd fun h' dd' hs => h _ ?_
    obtain ⟨q, es, ep, hq, h2, h3, h4, _, h5⟩ := dd'
    refine d_write I (by rw [e]; exact True.intro) hs ⟨q, hq⟩ ⟨hl, hd, _, (rel.put k eb rv).keeps fun c ys ec => ?_, q, es, ep, hq, h2, h3, h4, h5⟩
    rw [upd_ne (ne_of ec e (fun z => nomatch z))]
    exact ec
end

section
variable {X : Cx} {pins : List (Addr × Obj)} {σ : St} {H : Hp} {s : Shared} {a : Addr} {kvs : List (Key × V)} {k : Key} {u : Value} {A : Around} {E : Value → Shared → Prop}
/-- len(d) -/
theorem d_len {Q : Value → Shared → Prop} (I : Inv X pins σ H s) (e : Rd H a (.dK kvs)) (h : ∀ t s', Inv X pins σ H s' → Q (.int kvs.length t) s') : wpAny (model X.prog X.w) A (call (.builtin "len") [.ref a]) Q E s := by
  obtain ⟨z, hd, vs, rel, dd⟩ := dk_rd I.hok e
  refine call_len_dict hd dd (by rw [← rel.length]; rw [sizeLine_eq] at z; omega) ?_
  rw [← rel.length]
  exact h _ _ (I.tok _)
end


/-- the element of a subscription, not a slice -/
def NoSl (i : Expr) : Prop := ∀ ov iv, subscripted i false ov iv = operate [ov, iv] (getItem ov iv)
theorem subD_of {prog : Program} {w : World} {A : Around} {E : Value → Shared → Prop} {s : Shared} {env : Env} {value slice : Expr} {pos : Pos} {T id : String} {Q : Value → Shared → Prop}
    (hl : typeLookup (.type T) "__getitem__" = pure (some (.builtin id))) (hs : NoSl slice)
    (h : wpAny (model prog w) A (eval value env) (fun o s₁ => wpAny (model prog w) A (eval slice env) (fun i s₂ => s₂.TypeIs o T ∧ wpAny (model prog w) A (getItem o i) Q E s₂) E s₁) E s) :
    wpAny (model prog w) A (eval (.Subscript value slice pos) env) Q E s := by
  refine Subscript_ (wpAny_mono h (fun o s₁ h₁ => wpAny_mono h₁ (fun i s₂ h₂ => ?_) fun _ _ x => x) fun _ _ x => x)
  obtain ⟨hT, h₂⟩ := h₂
  unfold subscriptTail
  refine wpAny_bind ?_
  rw [getitemInPython_of_ne hT.not_modules]
  refine wpAny_bind (wpAny_specialOf hT hl ?_)
  have fin : wpAny (model prog w) A (subscripted slice false o i) (fun r s₃ => wpAny (model prog w) A (letTemporaryGo value o r >>= fun _ => pure r) Q E s₃) E s₂ := by
    rw [hs o i]
    exact wpAny_operating (wpAny_mono h₂ (fun r s₃ h₃ => wpAny_bind (wpAny_letTemporaryGo (wpAny_pure h₃))) fun _ _ x => x)
  first
    | exact wpAny_pure (wpAny_bind fin)
    | exact wpAny_bind (wpAny_pure (wpAny_bind fin))
    | exact wpAny_bind fin

theorem dict_typeIs {X : Cx} {pins : List (Addr × Obj)} {σ : St} {H : Hp} {s : Shared} {a : Addr} {y : V} {o : Option V} (I : Inv X pins σ H s) (g : DGet H a y o) : s.TypeIs (.ref a) "dict" := by
  rcases g with ⟨kvs, k, e, _, _⟩ | ⟨kvs, k, b, e, _, _, _⟩
  · obtain ⟨_, _, vs, _, dd⟩ := dk_rd I.hok e
    exact dd.typeIs
  · obtain ⟨_, _, xs, _, dd⟩ := dt_rd I.hok e
    exact dd.typeIs
/-- d[y] -/
def tDGet (td ty : TE) : TE := fun σ H Q => td σ H fun x H1 => ty σ H1 fun y H2 => ∃ a v, x = .ref a ∧ DGet H2 a y (some v) ∧ Q v H2
/-- y in d, y not in d -/
def tDIn (ty td : TE) : TE := fun σ H Q => ty σ H fun y H1 => td σ H1 fun x H2 => ∃ a o, x = .ref a ∧ DGet H2 a y o ∧ Q (.bl o.isSome) H2
def tDNotIn (ty td : TE) : TE := fun σ H Q => ty σ H fun y H1 => td σ H1 fun x H2 => ∃ a o, x = .ref a ∧ DGet H2 a y o ∧ Q (.bl (!o.isSome)) H2
/-- d[y] = v -/
def sDPut (td ty tv : TE) : TS := fun D σ H => tv σ H fun v H1 => td σ H1 fun x H2 => ty σ H2 fun y H3 => ∃ a H4, x = .ref a ∧ DPut H3 a y v H4 ∧ D.nx σ H4
section
variable {X : Cx} {o i e value : Expr} {pos pos' tpos : Pos} {td ty tv : TE}
theorem pe_dget (hu : X.A.units + 1 < cLine) (ho : PE X o td) (hi : PE X i ty) (hs : NoSl i) : PE X (.Subscript o i pos) (tDGet td ty) := by
  intro pins s σ H Q I h
  refine subD_of PySem.F.slot_dict_getitem.lookup hs (thn (ho pins s σ H _ I h) fun u s1 ⟨x, H1, I1, rx, q1⟩ => thn (hi pins s1 σ H1 _ I1 q1) fun iv s2 ⟨y, H2, I2, ry, a, v, ex, g, q2⟩ => ?_)
  subst ex
  obtain rfl : u = Value.ref a := rx
  exact ⟨dict_typeIs I2 g, d_getItem hu I2 g ry fun w' s3 I3 rw' => ⟨v, H2, I3, rw', q2⟩⟩
theorem pc_din (hu : X.A.units + 1 < cLine) (hi : PE X i ty) (ho : PE X o td) : PC X .In i o (tDIn ty td) := by
  intro pins s σ H Q I h
  refine thn (hi pins s σ H _ I h) fun iv s1 ⟨y, H1, I1, ry, q1⟩ => thn (ho pins s1 σ H1 _ I1 q1) fun u s2 ⟨x, H2, I2, rx, a, ov, ex, g, q2⟩ => ?_
  subst ex
  obtain rfl : u = Value.ref a := rx
  exact d_in hu I2 g ry fun s3 I3 => ⟨.bl ov.isSome, H2, I3, rfl, q2⟩
theorem pc_dnotin (hu : X.A.units + 1 < cLine) (hi : PE X i ty) (ho : PE X o td) : PC X .NotIn i o (tDNotIn ty td) := by
  intro pins s σ H Q I h
  refine thn (hi pins s σ H _ I h) fun iv s1 ⟨y, H1, I1, ry, q1⟩ => thn (ho pins s1 σ H1 _ I1 q1) fun u s2 ⟨x, H2, I2, rx, a, ov, ex, g, q2⟩ => ?_
  subst ex
  obtain rfl : u = Value.ref a := rx
  exact d_notIn hu I2 g ry fun s3 I3 => ⟨.bl (!ov.isSome), H2, I3, rfl, q2⟩
theorem ps_dput (hu : X.A.units + 1 < cLine) (ho : PE X o td) (hi : PE X i ty) (hv : PE X value tv) (hs : swapsWith value (some (.Subscript o i pos')) pos.line X.env = pure false) :
    PS X (.Assign [.Subscript o i pos'] value pos) (sDPut td ty tv) := by
  intro pins s σ H D I h
  refine wpAny_Assign_Subscript (thn (hv pins s σ H _ I h) fun r s1 ⟨v, H1, I1, rv, q1⟩ => thn (ho pins s1 σ H1 _ I1 q1) fun u s2 ⟨x, H2, I2, rx, q2⟩ => thn (hi pins s2 σ H2 _ I2 q2) fun iv s3 ⟨y, H3, I3, ry, a, H4, ex, g, q3⟩ => ?_) hs
  subst ex
  obtain rfl : u = Value.ref a := rx
  exact d_setItem hu I3 g ry rv fun s4 I4 => ⟨σ, H4, I4, q3⟩
end


theorem dk_empty {P : Program} {w : World} {H : Hp} (h : Heap) (hb : sysModules < h.objs.size) : ObjOk P w H (h.push { cls := .type "dict", data := .dict #[] }) h.objs.size (.dK []) :=
  ⟨Nat.zero_le _, beq_eq_false_iff_ne.mpr (Ne.symm (Nat.ne_of_lt hb)), [], .nil, Heap.DictOf.new h⟩
/-- {}, to be a dict of the kind that is wanted -/
def tDNewK : TE := fun _ H Q => ∀ p, H p = none → Q (.ref p) (upd H p (.dK []))
section
variable {X : Cx} {pos : Pos}
theorem pe_dnewK : PE X (.Dict [] [] pos) tDNewK := fun pins s σ H Q I h =>
  wpAny_Dict_empty ⟨.ref s.heap.objs.size, _, I.laid (a := s.heap.objs.size) (o := .dK []) (t' := s.toks) (fun _ _ q => Heap.get?_push_of_some _ q) (Nat.le_refl _) (dk_empty s.heap I.big), rfl, h _ (I.hok.fresh (Nat.le_refl _))⟩
end

/-- the pairs of a display, from the left -/
def tPairs : List (TE × TE) → St → Hp → (List (V × V) → Hp → Prop) → Prop
  | [], _, H, Q => Q [] H
  | (tk, tv) :: r, σ, H, Q => tk σ H fun x H1 => tv σ H1 fun y H2 => tPairs r σ H2 fun ps H3 => Q ((x, y) :: ps) H3
abbrev VV : List (V × V) → List (Value × Value) → Prop := Paired fun p q => RelV p.1 q.1 ∧ RelV p.2 q.2
def PPs (X : Cx) (pos : Pos) (keys : List (Option Expr)) (values : List Expr) (trs : List (TE × TE)) : Prop :=
  ∀ (pins : List (Addr × Obj)) (s : Shared) (σ : St) (H : Hp) (Q : List (V × V) → Hp → Prop), Inv X pins σ H s → tPairs trs σ H Q →
    wpAny (model X.prog X.w) X.A (evalPairs (pairTrees keys values X.env pos)) (fun vs s' => ∃ ps H', Inv X pins σ H' s' ∧ VV ps vs ∧ Q ps H') X.xe s
theorem pps_nil {X : Cx} {pos : Pos} : PPs X pos [] [] [] := fun pins s σ H Q I h => pairTrees_nil_walk ⟨[], H, I, .nil, h⟩
theorem pps_cons {X : Cx} {pos : Pos} {k v : Expr} {ks : List (Option Expr)} {vs : List Expr} {tk tv : TE} {trs : List (TE × TE)} (hk : PE X k tk) (hv : PE X v tv) (hr : PPs X pos ks vs trs) :
    PPs X pos (some k :: ks) (v :: vs) ((tk, tv) :: trs) := fun pins s σ H Q I h =>
  pairTrees_cons_walk (thn (hk pins s σ H _ I h) fun u s1 ⟨x, H1, I1, rx, q1⟩ => thn (hv pins s1 σ H1 _ I1 q1) fun w2 s2 ⟨y, H2, I2, ry, q2⟩ =>
    thn (hr pins s2 σ H2 _ I2 q2) fun ws s3 ⟨ps, H3, I3, rel, q3⟩ => ⟨(x, y) :: ps, H3, I3, .cons ⟨rx, ry⟩ rel, q3⟩)

def mergeK (kvs more : List (Key × V)) : List (Key × V) := more.foldl (fun acc kv => putK acc kv.1 kv.2) kvs
theorem KV.merge : ∀ {more : List (Key × V)} {rs : List (Key × Value)} {kvs : List (Key × V)} {vs : List (Key × Value)}, KV more rs → KV kvs vs → KV (mergeK kvs more) (merged vs rs) := by
  intro more rs kvs vs r
  unfold KV at r
  induction r generalizing kvs vs with
  | nil => intro q; exact q
  | @cons p q ps qs h t ih =>
    intro r0
    have e : KV (putK kvs p.1 p.2) (stored vs q.1 q.2) := by
      have := r0.put p.1 h.2
      rw [← h.1]; exact this
    exact ih e
theorem length_mergeK : ∀ (more kvs : List (Key × V)), (mergeK kvs more).length ≤ kvs.length + more.length
  | [], kvs => by show kvs.length ≤ kvs.length + 0; omega
  | p :: r, kvs => by
    have h1 := length_mergeK r (putK kvs p.1 p.2)
    have h2 := length_putK kvs p.1 p.2
    show (mergeK (putK kvs p.1 p.2) r).length ≤ _
    rw [List.length_cons]; omega
theorem carries_of {P : Program} {w : World} : ∀ {kvs : List (Key × V)} {ws : List (Value × Value)}, VV (kvs.map fun kv => (kV kv.1, kv.2)) ws → ∃ rs, Carries (mixKind P w) ws rs ∧ KV kvs rs
  | [], _, r => by rw [List.map_nil] at r; cases r; exact ⟨[], True.intro, .nil⟩
  | p :: kvs, _, r => by
    rw [List.map_cons] at r
    cases r with
    | @cons a b as bs h t =>
      obtain ⟨rs, c, q⟩ := carries_of (P := P) (w := w) t
      obtain ⟨b1, b2⟩ := b
      exact ⟨(p.1, b2) :: rs, ⟨kV_is h.1, rfl, c⟩, .cons ⟨rfl, h.2⟩ q⟩
/-- {k: v, ..} with keys ints and texts; the new dict stands empty while the pairs are made -/
def tDisp (trs : List (TE × TE)) : TE := fun σ H Q => ∀ p, H p = none → tPairs trs σ (upd H p (.dK [])) fun ps H2 => H2 p = some (.dK []) ∧ ∃ kvs : List (Key × V), ps = kvs.map (fun kv => (kV kv.1, kv.2)) ∧ kvs.length ≤ 15 ∧ Q (.ref p) (upd H2 p (.dK (mergeK [] kvs)))
theorem pe_disp {X : Cx} {pos : Pos} {keys : List (Option Expr)} {values : List Expr} {trs : List (TE × TE)} (h : PPs X pos keys values trs) (hall : keys.all (·.isSome) = true) (hl : keys.length = values.length) (h0 : keys ≠ [])
    (h15 : keys.length ≤ 15) : PE X (.Dict keys values pos) (tDisp trs) := by
  intro pins s σ H Q I q
  have hn := I.hok.fresh (Nat.le_refl s.heap.objs.size)
  have I1 := I.laid (a := s.heap.objs.size) (o := .dK []) (h' := s.heap.push { cls := .type "dict", data := .dict #[] }) (t' := s.toks) (fun _ _ q => Heap.get?_push_of_some _ q) (Nat.le_refl _) (dk_empty s.heap I.big)
  refine wpAny_Dict_walk (knd := mixKind X.prog X.w) hall hl h0 h15 (thn (h pins _ σ _ _ I1 (q _ hn)) fun ws s2 ⟨ps, H2, I2, rel, e, kvs, ep, lk, q2⟩ => ?_)
  subst ep
  obtain ⟨rs, c, rk⟩ := carries_of (P := X.prog) (w := X.w) rel
  obtain ⟨z, hd, vs0, r0, dd⟩ := dk_of I2.hok e
  cases r0
  refine ⟨rs, c, dd, fun h' dd' hs => ⟨.ref s.heap.objs.size, _, ?_, rfl, q2⟩⟩
  have hz : (mergeK [] kvs).length ≤ sizeLine := by
    have h1 := length_mergeK kvs []
    rw [List.length_nil] at h1
    rw [sizeLine_eq]; omega
  have he : ∃ q, h'.get? s.heap.objs.size = some q := let ⟨q, _, _, hq, _⟩ := dd'; ⟨q, hq⟩
  exact d_write I2 (by rw [e]; exact True.intro) hs he (dk_new hz hd (rk.merge .nil) dd')


structure M2 (X : Cx) (o : Expr) (m : Str) (apos : Pos) (e f : Expr) (cpos : Pos) : Prop where
  base : attributeBase o m X.env (eval o X.env) = eval o X.env
  few : ((backTo cpos (starEach [e, f] X.env)).all (fun x => !x.1) && (backToKw cpos (keywordEach [] X.env)).all (fun x => x.1.isSome)
    && decide (([e, f] : List Expr).length + ([] : List Keyword).length + (if ([] : List Keyword).isEmpty then 0 else 1) < 30)) = true
  line : (apos.endLine == cpos.line) = true
  trees : backTo cpos (starEach [e, f] X.env) = [(false, eval e X.env), (false, eval f X.env)]

/-- a is a dict, whatever its keys -/
def IsD (H : Hp) (a : Addr) : Prop := (∃ kvs, Rd H a (.dK kvs)) ∨ ∃ kvs, Rd H a (.dT kvs)
theorem isD_at {X : Cx} {pins : List (Addr × Obj)} {σ : St} {H : Hp} {s : Shared} {a : Addr} (I : Inv X pins σ H s) (d : IsD H a) :
    s.TypeIs (.ref a) "dict" ∧ (∀ b, Value.ref a = .ref b → ∃ ob, s.heap.get? b = some ob ∧ ob.dict = none) ∧ (a == sysModules) = false := by
  rcases d with ⟨kvs, e⟩ | ⟨kvs, e⟩
  · obtain ⟨_, hd, vs, _, dd⟩ := dk_rd I.hok e
    refine ⟨dd.typeIs, fun b q => ?_, hd⟩
    cases q
    obtain ⟨ob, _, _, h1, h2, _⟩ := dd
    exact ⟨ob, h1, h2.2.1⟩
  · obtain ⟨_, hd, xs, _, dd⟩ := dt_rd I.hok e
    refine ⟨dd.typeIs, fun b q => ?_, hd⟩
    cases q
    obtain ⟨ob, _, _, h1, h2, _⟩ := dd
    exact ⟨ob, h1, h2.2.1⟩

section
variable {X : Cx} {pins : List (Addr × Obj)} {σ : St} {H : Hp} {s : Shared} {a : Addr} {y d : V} {u r : Value} {o : Option V} {A : Around} {E : Value → Shared → Prop}
end

section
variable {X : Cx} {o e f : Expr} {apos cpos : Pos} {td ty tx : TE}
end

section
variable {X : Cx} {pins : List (Addr × Obj)} {σ : St} {H : Hp} {s : Shared} {a : Addr} {kvs : List (Key × V)} {A : Around} {E : Value → Shared → Prop}
end


section
variable {X : Cx} {pins : List (Addr × Obj)} {σ : St} {H : Hp} {s : Shared} {a : Addr} {y : V} {u : Value} {A : Around} {E : Value → Shared → Prop}
end
end L2

namespace Att
open PySem PySem.W PySem.Calls PyProof.Rows

theorem ints_of_wellAll {P : Params} {h : Heap} : ∀ (ns : List Int) (vs : List Value), WellAll P h vs (ns.map WData.int) → IntsAre vs ns := by
  intro ns
  induction ns with
  | nil =>
    intro vs w
    rw [List.map_nil] at w
    cases w
    exact .nil
  | cons n ns ih =>
    intro vs w
    rw [List.map_cons] at w
    cases w with
    | cons a b =>
      cases a
      exact .cons _ _ (ih _ b)

theorem script_of {l : OpenLaw} {n : Nat} (hn : l.most = some n) {P : Params} {h : Heap} {args : List WData} {vals : List Value}
    (hpre : l.row.toRowW.claim.pre args = true) (hwl : WellAll P h vals args) :
    ∃ a vs ns, vals = [Value.ref a] ∧ args = [WData.list (ns.map WData.int)] ∧ h.get? a = some { cls := .type "list", data := .seq vs.toArray } ∧ IntsAre vs ns ∧ ns.length ≤ n := by
  have hsh : WShape.hasAll [] args [.list .int] = true := (pre_splitW hpre).1
  have hc : l.pre.holds [] { args := args } = true := (pre_splitW hpre).2
  obtain ⟨d, r, rfl, h1, h2⟩ := hasAllW_cons hsh
  obtain rfl := hasAllW_nil h2
  obtain ⟨xs, rfl, h3⟩ := hasW_list h1
  obtain ⟨ns, rfl⟩ := items_int h3
  have hlen : ns.length ≤ n := by
    unfold OpenLaw.pre at hc
    have h4 : (WTm.not (.lt (.lit (.int (n : Int))) (.len (.arg 0)))).holds [] { args := [.list (ns.map .int)] } = true := by
      have h4 := (holds_andW hc).1
      rw [hn] at h4
      exact h4
    have h5 := condW_of h4 (w_not (w_lt w_lit (w_len_list (w_arg rfl))))
    rw [List.length_map] at h5
    refine Nat.le_of_not_lt fun q => ?_
    have q' : (n : Int) < ((ns.length : Nat) : Int) := by omega
    first
      | (rw [decide_eq_true q'] at h5; exact absurd h5 (by decide))
      | (simp at h5; omega)
  cases hwl with
  | cons w1 w2 =>
    cases w2
    cases w1 with
    | list ho hall => exact ⟨_, _, ns, rfl, rfl, ho, ints_of_wellAll ns _ hall, hlen⟩

theorem post_true (l : OpenLaw) (args : List WData) : l.row.toRowW.claim.post args (.bool true) args = true :=
  postW_of (r := l.row.toRowW) (X := (true == true))
    (show WShape.has [] (.bool true) .bool = true by first | rfl | decide | simp [WShape.has, WShape.arms, WShape.armsAll])
    (show (WTm.eq .res (.lit (.bool true))).value [] { args := args, res := some (.bool true), after := args } = some (.bool (true == true)) from w_eq_bool (w_res rfl) w_lit) rfl

/-- the same from a codeAny of the CALL (for a layer whose function contracts speak of calls) -/
theorem attach_call {l : OpenLaw} {n : Nat} {q : Program} {loose : List Str} {XP : (Str → Option Value) → Heap → Prop} {YP : World → Heap → Prop} {d : DefRec}
    (hn : l.most = some n) (hdf : d.params.defaults = [])
    (call : ∀ (w : World) (s₀ s₁ : Shared) (mg mb : Str → Option Value) (fa : Addr) (o : Obj) (pm cd doc : Value) (a : Addr) (vs : List Value) (ns : List Int),
      Ground q loose [] XP w s₀ mg mb s₁.heap → YP w s₁.heap →
      s₁.heap.get? fa = some o → o.data = .func (docDef d.name d.params d.body d.scope pm cd doc) → s₁.heap.CodeRec cd d.name → mg d.name = some (.ref fa) →
      s₁.heap.get? a = some { cls := .type "list", data := .seq vs.toArray } → IntsAre vs ns → ns.length ≤ n → s₁.gens = #[] →
      codeAny (model l.prog w) callerA (.call (.ref fa) ⟨[.ref a], []⟩) (fun r s' => r = .ok (.ret (.bool true)) ∧ OldK s₁.heap s'.heap ∧ s'.os = s₁.os ∧ AllBare s'.gens) s₁) :
    WalkO q loose XP YP l.row.toRowW d [] (fun f vs => PySem.call f vs) := by
  intro w s₀ s₁ mg mb G Y fa o pm cd doc dV kV ho hd hcd hD hmg hg args vals as hpre hlay hrd hwl hlo
  obtain rfl : dV = .none := Dflts.none hD hdf
  obtain rfl : kV = .none := Dflts.noKw hD
  obtain ⟨a, vs, ns, rfl, rfl, hobj, hints, hlen⟩ := script_of hn hpre hwl
  refine enter_call (codeAny_mono (call w s₀ s₁ mg mb fa o pm cd doc a vs ns G Y ho (fd_plain hd) hcd hmg hobj hints hlen hg) fun r s' hq => ?_)
  obtain ⟨rfl, h2, h3, h4⟩ := hq
  exact ⟨.inl ⟨.bool true, .bool true, [], rfl, fun _ => rfl, .bool true, post_true l _, fun _ => ⟨List.Pairwise.nil, fun _ hm => (nomatch hm)⟩⟩, h2, h3, h4⟩

section
variable {prog : Program} {w : World} {A : Around} {E : Value → Shared → Prop} {s : Shared} {K : Frag}

end
end Att

namespace L2
open PySem PySem.Spec PyProof.Rows

theorem vals_ints : ∀ {vs : List Value} {ns : List Int}, IntsAre vs ns → Vals (ns.map V.int) vs
  | _, _, .nil => .nil
  | _, _, .cons n t h => .cons ⟨t, rfl⟩ (vals_ints h)

/-- nothing is tracked but the script, known to the object (or it is an object of the module) -/
def Only (H : Hp) : Prop := ∀ b, H b = none ∨ ∃ o xs, H b = some (.frz o (.lst xs))

/-- THE HEAD: the law's promise, at the heap behind the top. F, the promise of the law's def, may use that base is part of the heap (so K.In base, base.Ns mainGlobals mg stand in Mod) -/
theorem law_call {P : Program} {w : World} {K : PySem.W.Frag} {mg mb : Str → Option Value} {CX : CXT} {k : Nat} {fa a : Addr} {fd : FuncData} {x : Str} {sp : Sp} {s₁ : Shared} {vs : List Value} {ns : List Int}
    (KX : K.In s₁.heap) (hns : s₁.heap.Ns mainGlobals mg) (hb : s₁.heap.Ns builtinsNs mb) (hbb : ∀ x : Str, x ≠ "__name__" → mb x = bootBuiltins x) (hlim : s₁.heap.NoLimit) (hg : s₁.gens = #[])
    (ha : s₁.heap.get? a = some { cls := .type "list", data := .seq vs.toArray }) (hi : IntsAre vs ns) (hl : ns.length ≤ sizeLine) (hr : Room k callerA)
    (F : ∀ base : Heap, K.In base → base.Ns mainGlobals mg → FnOk P w K mg base CX k fa fd [x] sp) (hbind : ∀ (s : Shared) (u : Value), BindsTo s fd ⟨[u], []⟩ [(x, u)])
    (hsp : ∀ H : Hp, Only H → SqL K H a (ns.map V.int) → sp [.ref a] H (fun v _ => v = .bl true) fun _ _ _ => False)
    (hCX : ∀ H e s', CX [] H s₁ (fun _ _ _ => False) e s' → False) :
    codeAny (model P w) callerA (.call (.ref fa) ⟨[.ref a], []⟩) (fun r s' => r = .ok (.ret (.bool true)) ∧ OldK s₁.heap s'.heap ∧ s'.os = s₁.os ∧ AllBare s'.gens) s₁ := by
  have rv := vals_ints hi
  have lenV := hi.length
  -- from an abstract heap in which nothing but the script may be tracked
  have core : ∀ H : Hp, Only H → SqL K H a (ns.map V.int) → HOk P w H s₁.heap → (∀ b, H b ≠ none → b = a) → (H a ≠ none → K.lookup a = none) →
      codeAny (model P w) callerA (.call (.ref fa) ⟨[.ref a], []⟩) (fun r s' => r = .ok (.ret (.bool true)) ∧ OldK s₁.heap s'.heap ∧ s'.os = s₁.os ∧ AllBare s'.gens) s₁ := by
    intro H hO hS hok hA hK
    have base_of : ∀ {b : Addr} {o : Obj}, s₁.heap.get? b = some o → H b = none → (hidT s₁.heap H).get? b = some o := fun e n => hidT_get e n
    have noA : ∀ {b : Addr} {o : Obj} {es : Array DictEntry} {ep : Nat}, s₁.heap.get? b = some o → o.data = .dict es ep → H b = none := fun {b o es ep} e d => by
      cases q : H b with
      | none => rfl
      | some u =>
        have e' : b = a := hA b (by rw [q]; simp)
        subst e'
        rw [ha] at e; cases e
        have d' : Data.seq vs.toArray _ = Data.dict es ep := d
        cases d'
    have nsK : ∀ {b : Addr} {m : Str → Option Value}, s₁.heap.Ns b m → (hidT s₁.heap H).Ns b m := fun {b m} ⟨o, es, ep, e, d, r⟩ => ⟨o, es, ep, base_of e (noA e d), d, r⟩
    have hKb : K.In (hidT s₁.heap H) := fun b o e => base_of (KX b o e) (by
      cases q : H b with
      | none => rfl
      | some u =>
        have e' : b = a := hA b (by rw [q]; simp)
        subst e'
        rw [hK (by rw [q]; simp)] at e; cases e)
    have hM : Mod K mg (hidT s₁.heap H) := ⟨hKb, nsK hns, ⟨mb, nsK hb, hbb⟩, let ⟨mc, h1, h2⟩ := hlim; ⟨mc, nsK h1, h2⟩⟩
    have e0 : Env0 P w K mg (hidT s₁.heap H) callerA [] s₁ H := ⟨rfl, hM, fun b o e => of_hidT e, Nat.le_of_eq (hidT_size _ _), trivial, fun b hb => absurd (show b ∈ ([] : List Addr) from hb) (by simp), hok, .of_eq hg⟩
    refine codeAny_mono ((F _ hKb (nsK hns)).run callerA [] s₁ H ⟨[.ref a], []⟩ [.ref a] [.ref a] _ _ hr e0 (hbind s₁ (.ref a)) (.cons rfl .nil) (hsp H hO hS)) fun r s' h => ?_
    cases r with
    | error e => exact (hCX H e s' h).elim
    | ok fl =>
      cases fl with
      | next => exact False.elim h
      | brk => exact False.elim h
      | cont => exact False.elim h
      | ret u =>
        obtain ⟨v, H', os, bare, un, hok', r', q⟩ := h
        have q' : v = .bl true := q
        subst q'
        obtain rfl : u = Value.bool true := r'
        refine ⟨rfl, OldK.of_keep fun b o e => ?_, os, bare⟩
        cases q : H b with
        | none => exact un.keep b o e q (by intro z; exact absurd (show b ∈ ([] : List Addr) from z) (by simp)) (by simp)
        | some u =>
          rcases hO b with z | ⟨ob, xs, z⟩
          · rw [q] at z; cases z
          · have z2 := un.frzs b ob _ z
            obtain ⟨e1, _⟩ := hok b _ z
            obtain ⟨e2, _⟩ := hok' b _ z2
            rw [e] at e1; cases e1
            exact e2
  cases hk : K.lookup a with
  | some o =>
    -- the script is one of the module's own objects
    have e := KX a o hk
    rw [ha] at e
    cases e
    refine core (fun _ => none) (fun _ => .inl rfl) (.inr ⟨_, vs.toArray, _, hk, rfl, rfl, rfl, by rw [List.size_toArray, lenV]; exact hl, by simpa using rv⟩) (fun b u z => by have z' : (none : Option HO) = some u := z; cases z') (fun b z => absurd rfl z) fun z => absurd rfl z
  | none =>
    refine core (fun b => if b = a then some (.frz { cls := .type "list", data := .seq vs.toArray } (.lst (ns.map V.int))) else none) (fun b => ?_) (.inl (.inr ⟨{ cls := .type "list", data := .seq vs.toArray }, if_pos rfl⟩)) (fun b u z => ?_) (fun b z => ?_) fun _ => hk
    · by_cases hb : b = a
      · exact .inr ⟨_, _, if_pos hb⟩
      · exact .inl (if_neg hb)
    · by_cases hb : b = a
      · have z' := (if_pos hb).symm.trans z
        cases z'
        subst hb
        exact ⟨ha, by rw [List.length_map]; exact hl, vs, _, rv, ha⟩
      · have z' := (if_neg hb).symm.trans z
        cases z'
    · by_cases hb : b = a
      · exact hb
      · exact absurd (if_neg hb) z
end L2

namespace L2
open PySem PySem.Spec PyProof.Rows

abbrev KOf {K : PySem.W.Frag} {h : Heap} (_ : K.In h) : PySem.W.Frag := K

/-- the goal that k_head leaves (case hc), from the law's promise. F gives the function object fd (K's own) once, then the promise over every base -/
theorem walk_of {l : PySem.W.OpenLaw} {n k : Nat} {q : Program} {loose : List Str} {XP : (Str → Option Value) → Heap → Prop} {YP : World → Heap → Prop} {d : DefRec} {K : Params → PySem.W.Frag} {CX : World → CXT} {sp : World → Sp} {x : Str}
    (hn : l.most = some n) (hn2 : n ≤ sizeLine) (hdf : d.params.defaults = []) (hr : Room k callerA)
    (hY : ∀ (w : World) (h : Heap), YP w h → (K w.params).In h)
    (F : ∀ (w : World) (mg : Str → Option Value) (fa : Addr) (h : Heap), (K w.params).In h → h.Ns mainGlobals mg → mg d.name = some (.ref fa) →
      ∃ fd : FuncData, (∀ (s : Shared) (u : Value), BindsTo s fd ⟨[u], []⟩ [(x, u)]) ∧
        ∀ base : Heap, (K w.params).In base → base.Ns mainGlobals mg → FnOk l.prog w (K w.params) mg base (CX w) k fa fd [x] (sp w))
    (hsp : ∀ (w : World) (H : Hp) (a : Addr) (ns : List Int), ns.length ≤ n → Only H → SqL (K w.params) H a (ns.map V.int) → sp w [.ref a] H (fun v _ => v = .bl true) fun _ _ _ => False)
    (hCX : ∀ (w : World) (H : Hp) (s : Shared) (e : Value) (s' : Shared), CX w [] H s (fun _ _ _ => False) e s' → False) :
    PySem.W.WalkO q loose XP YP l.row.toRowW d [] (fun f vs => PySem.call f vs) := by
  refine Att.attach_call hn hdf fun w s₀ s₁ mg mb fa o pm cd doc a vs ns G Y ho hd hcd hmg hobj hints hlen hg => ?_
  have KX := hY w _ Y
  obtain ⟨fd, hb, hF⟩ := F w mg fa _ KX G.T.g hmg
  exact law_call KX G.T.g G.T.b G.T.builtins G.T.nolimit hg hobj hints (Nat.le_trans hlen hn2) hr hF hb (fun H hO hS => hsp w H a ns hlen hO hS) fun H e s' => hCX w H s₁ e s'
end L2


namespace L2
open PySem PySem.Spec PyProof.Rows

def defArgs (s : Stmt) : Arguments := match s with
  | .FunctionDef _ a _ _ _ _ _ _ _ _ => a
  | _ => { posonlyargs := [], args := [], vararg := none, kwonlyargs := [], kw_defaults := [], kwarg := none, defaults := [] }
def defBody (s : Stmt) : List Stmt := match s with
  | .FunctionDef _ _ b _ _ _ _ _ _ _ => b
  | _ => []
def defScope (s : Stmt) : Scope := match s with
  | .FunctionDef _ _ _ _ _ _ sc _ _ _ => sc
  | _ => { kind := .function, names := [], isGenerator := false, isCoroutine := false }

abbrev CX0 : CXT := fun _ _ _ _ _ _ => False
abbrev E0 : XK := fun _ _ _ => False
theorem pass0 {X : Cx} : Passes CX0 X E0 := fun _ _ _ _ _ _ _ h => h.elim

structure Fun (K : PySem.W.Frag) (x qual : Str) (st : Stmt) (f : Addr) (fd : FuncData) : Prop where
  ex : ∃ (oc : Value) (od : Option Addr) (kV doc pm : Value) (an : Option Addr) (cdv ct : Value) (osl : Array (Option Value)),
    fd = PySem.W.fnOf x qual (defArgs st) (defBody st) (defScope st) .none kV doc pm an cdv ct ∧ K.lookup f = some ⟨oc, od, .func fd, osl⟩ ∧ PySem.W.codeIn K cdv qual = true
  kp : PySem.W.keepIn K (.ref f) = true
section
variable {P : Program} {w : World} {K : PySem.W.Frag} {mg : Str → Option Value} {base : Heap}
/-- THE RULE for a def: its body as a term of rules, and the reading of that term -/
theorem Fun.ok {x qual : Str} {st : Stmt} {f : Addr} {fd : FuncData} {N ps : List Str} {k : Nat} {sp : Sp} (F : Fun K x qual st f fd) (S : FnScope N ps (defScope st)) (len : ∀ vs H Q E, sp vs H Q E → vs.length = ps.length)
    (hbody : ∀ (cdv : Value) (A : Around) (outer : List Env) (s : Shared) (H : Hp) (vs : List V) (Q : VK) (E : XK), Room k (A.deeper (envOfC qual (defScope st) s.heap.objs.size f cdv)) → sp vs H Q E →
      ∃ t, PSs (cxOf CX0 P w K mg base N qual (defScope st) f cdv A outer s H E).nox (defBody st) t ∧ t { nx := fun _ H' => Q .non H', rt := Q } (start N vs) H) : FnOk P w K mg base CX0 (k + 1) f fd ps sp := by
  obtain ⟨oc, od, kV, doc, pm, an, cdv, ct, osl, rfl, lk, hcd⟩ := F.ex
  refine fn_of lk hcd S len fun A outer s H vs Q E hr hsp => ?_
  obtain ⟨t, h, q⟩ := hbody cdv A outer s H vs Q E hr hsp
  exact ⟨t, h.nox, q⟩
/-- how its arguments bind (no defaults): h is «fun _ _ _ _ _ _ us hl => match us, hl with | [_, _], _ => rfl», one _ a parameter -/
theorem Fun.binds {x qual : Str} {st : Stmt} {f : Addr} {fd : FuncData} {ps : List Str} (F : Fun K x qual st f fd)
    (h : ∀ (kV doc pm : Value) (an : Option Addr) (cdv ct : Value) (us : List Value), us.length = ps.length → bindArgs (PySem.W.fnOf x qual (defArgs st) (defBody st) (defScope st) .none kV doc pm an cdv ct) ⟨us, []⟩ = pure (ps.zip us)) : Binds K fd ps [] := by
  obtain ⟨oc, od, kV, doc, pm, an, cdv, ct, osl, rfl, lk, hcd⟩ := F.ex
  exact .all (h kV doc pm an cdv ct)
theorem fun_mk {x qual : Str} {st : Stmt} {f : Addr} {oc : Value} {od an : Option Addr} {osl : Array (Option Value)} {kV doc pm cdv ct : Value} (l : K.lookup f = some ⟨oc, od, .func (PySem.W.fnOf x qual (defArgs st) (defBody st) (defScope st) .none kV doc pm an cdv ct), osl⟩)
    (c : PySem.W.codeIn K cdv qual = true) (k : PySem.W.keepIn K (.ref f) = true) : Fun K x qual st f (PySem.W.fnOf x qual (defArgs st) (defBody st) (defScope st) .none kV doc pm an cdv ct) := ⟨⟨oc, od, kV, doc, pm, an, cdv, ct, osl, rfl, l, c⟩, k⟩
end
theorem hu_of {A : Around} {k : Nat} (hr : Room k A) : A.units + 1 < cLine := Nat.lt_of_le_of_lt (Nat.add_le_add_left (by decide : 1 ≤ 64) _) hr.units
theorem small1000 {n : Nat} (h : n ≤ 1000) : n < sizeLine := Nat.lt_of_le_of_lt h (by decide)

section
variable {X : Cx}
theorem pv (i : Nat) {x : Str} {pos : Pos} (hN : X.N[i]? = some x := by rfl) (hv : Vis X.env.scope x := by first | exact Or.inl rfl | exact Or.inr (Or.inl rfl) | exact Or.inr (Or.inr rfl)) (hd : (x == ("__debug__" : Str)) = false := by decide)
    (hcd : (x == ("__classdict__" : Str)) = false := by decide) : PE X (.Name x pos) (tVar i) := pe_var hN hv hd hcd
end

theorem iteF {A B : Prop} (h : B) : if false = true then A else B := by
  rw [if_neg Bool.false_ne_true]
  exact h
theorem iteT {A B : Prop} (h : A) : if true = true then A else B := by
  rw [if_pos rfl]
  exact h
theorem ite2 {c A B : Prop} [Decidable c] (h1 : c → A) (h2 : ¬ c → B) : if c then A else B := by
  by_cases h : c
  · rw [if_pos h]
    exact h1 h
  · rw [if_neg h]
    exact h2 h
theorem iteNS {c A B : Prop} [Decidable c] (hc : c) (h : B) : if (!decide c) = true then A else B := by
  rw [decide_eq_true hc]
  exact iteF h

/-- all that was tracked is as it was -/
def Same (H H' : Hp) : Prop := ∀ b o, H b = some o → H' b = some o
theorem Same.refl (H : Hp) : Same H H := fun _ _ h => h
theorem Same.trans {H H1 H2 : Hp} (a : Same H H1) (b : Same H1 H2) : Same H H2 := fun c o h => b c o (a c o h)
theorem Same.free {H H' : Hp} (e : Same H H') {l : Addr} (h : H' l = Option.none) : H l = Option.none := by
  cases q : H l with
  | none => rfl
  | some o =>
    rw [e l o q] at h
    cases h
theorem Same.seq {K : PySem.W.Frag} {H H' : Hp} {a : Addr} {xs : List V} (e : Same H H') (h : SqL K H a xs) : SqL K H' a xs := by
  rcases h with (h | ⟨o, h⟩) | h
  · exact .inl (.inl (e _ _ h))
  · exact .inl (.inr ⟨o, e _ _ h⟩)
  · exact .inr h

end L2

namespace L2
open PySem PySem.Spec PyProof.Rows
section
variable {X : Cx}
/-- len of a dict -/
theorem call_lenD : CallR X (.builtin "len") (fun xs H Q => ∃ a kvs, xs = [V.ref a] ∧ H a = some (.dK kvs) ∧ Q (.int kvs.length) H) := by
  intro pins s σ H xs us Q I r h
  obtain ⟨a, kvs, rfl, ha, q⟩ := h
  obtain ⟨u, rfl, ru⟩ := vals1 r
  cases ru
  exact d_len I (.inl ha) fun t s' I' => ⟨.int kvs.length, H, I', ⟨t, rfl⟩, q⟩
end
section
variable {κ : Type} [DecidableEq κ]
theorem valV_in {kvs : List (κ × V)} {k : κ} {v : V} (h : valV kvs k = some v) : k ∈ kvs.map (·.1) := by
  have q : (kvs.any fun kv => decide (kv.1 = k)) = true := by
    rw [valV_any, h]
    all_goals rfl
  obtain ⟨p, hp, e⟩ := List.any_eq_true.mp q
  exact List.mem_map.mpr ⟨p, hp, of_decide_eq_true e⟩
end
end L2
namespace L2
open PySem PySem.Spec PyProof.Rows

theorem comp_turn {prog : Program} {w : World} {A : Around} {R : Result → Shared → Prop} {s : Shared} {elt target iter : Expr} {scope : Scope} {pos : Pos} {it acc : Value} {env : Env} (I : Nat → Shared → Prop)
    (turn : ∀ n s, I n s → wpAny (model prog w) A (pyNext it) (fun r s₁ => match r with
      | none => R (.ok .next) s₁
      | some v => wpAny (model prog w) A (letOwnedTupleGo target it v) (fun _ s₀ => wpAny (model prog w) A (assign target env v) (fun _ s₂ =>
          wpAny (model prog w) A (eval elt env) (fun x s₄ =>
              wpAny (model prog w) A (call (.builtin "list.append") [acc, x]) (fun _ s₅ => ∃ m, m < n ∧ I m s₅) (notedBy (model prog w) A env fun e s' => R (.error e) s') s₄) (notedBy (model prog w) A env fun e s' => R (.error e) s') s₂)
          (notedBy (model prog w) A env fun e s' => R (.error e) s') s₀) (notedBy (model prog w) A env fun e s' => R (.error e) s') s₁) (notedBy (model prog w) A env fun e s' => R (.error e) s') s)
    (n : Nat) (h : I n s) :
    codeAny (model prog w) A (.compLoop (.ListComp elt [⟨target, iter, [], 0⟩] scope pos) 0 it acc env) R s := by
  refine codeAny_loop rfl I (fun n s hI => ?_) n h
  show wpAny _ A ((compTurn (.ListComp elt [⟨target, iter, [], 0⟩] scope pos) 0 it acc env).onRaise (fun x => do noteFrame x env; theTreesLotGoes x)) _ _ s
  refine wpAny_noted ?_
  rw [compTurn_list]
  refine wpAny_bind (wpAny_standAt (wpAny_bind (wpAny_mono (turn n s hI) (fun r s₁ h₁ => ?_) fun _ _ h' => h')))
  cases r with
  | none => exact wpAny_pure h₁
  | some v =>
    refine wpAny_bind (wpAny_mono h₁ (fun _ s₀ h₀ => ?_) fun _ _ h' => h')
    refine wpAny_bind (wpAny_mono h₀ (fun _ s₂ h₂ => wpAny_bind (wpAny_tests_nil ?_)) fun _ _ h' => h')
    exact wpAny_bind (wpAny_bind (wpAny_mono h₂ (fun x s₄ h₄ => wpAny_bind (wpAny_mono h₄ (fun _ s₅ h₅ => wpAny_pure (wpAny_pure ⟨rfl, h₅⟩)) fun _ _ h' => h')) fun _ _ h' => h'))

theorem closureFor_is {env : Env} : ∀ (names : List (Str × NameKind)) (cs : List (Str × Addr)), (∀ y ∈ names, y.2 = .free → ∃ c, env.cells.lookup y.1 = some c) → (∀ x c, cs.lookup x = some c → env.cells.lookup x = some c) →
    ∃ cl, (forIn names cs (fun (x : Str × NameKind) (r : List (Str × Addr)) => if (x.2 == NameKind.free) = true then do let c ← cellOf env x.1; pure (ForInStep.yield ((x.1, c) :: r)) else pure (ForInStep.yield r)) : Sem (List (Str × Addr))) = pure cl ∧
      (∀ x c, cl.lookup x = some c → env.cells.lookup x = some c) ∧ (∀ x c, cs.lookup x = some c → cl.lookup x = some c) ∧ ∀ y ∈ names, y.2 = .free → ∃ c, cl.lookup y.1 = some c
  | [], cs, _, hcs => ⟨cs, by simp, hcs, fun _ _ h => h, fun y hy => nomatch hy⟩
  | (n, k) :: r, cs, h, hcs => by
    by_cases hk : k = .free
    · subst hk
      obtain ⟨c, hc⟩ := h (n, .free) List.mem_cons_self rfl
      have hcs' : ∀ x d, ((n, c) :: cs).lookup x = some d → env.cells.lookup x = some d := fun x d e => by
        rw [List.lookup_cons] at e
        split at e
        · rename_i q
          have q' : x = n := by simpa using q
          cases e; rw [q']; exact hc
        · exact hcs x d e
      obtain ⟨cl, e, h1, h2, h3⟩ := closureFor_is r ((n, c) :: cs) (fun y hy => h y (List.mem_cons_of_mem _ hy)) hcs'
      refine ⟨cl, ?_, h1, fun x d hd => ?_, fun y hy hy2 => ?_⟩
      · rw [List.forIn_cons]
        simp only [cellOf, hc, beq_self_eq_true, if_true, pure_bind]
        exact e
      · refine h2 x d ?_
        rw [List.lookup_cons]
        split
        · rename_i q
          have q' : x = n := by simpa using q
          have := hcs x d hd
          rw [q', hc] at this
          exact this
        · exact hd
      · rcases List.mem_cons.mp hy with rfl | hy
        · exact ⟨c, h2 n c (by simp [List.lookup_cons])⟩
        · exact h3 y hy hy2
    · obtain ⟨cl, e, h1, h2, h3⟩ := closureFor_is r cs (fun y hy => h y (List.mem_cons_of_mem _ hy)) hcs
      refine ⟨cl, ?_, h1, h2, fun y hy hy2 => ?_⟩
      · have hk' : (k == NameKind.free) = false := by simpa using hk
        rw [List.forIn_cons]
        simp only [hk', Bool.false_eq_true, if_false, pure_bind]
        exact e
      · rcases List.mem_cons.mp hy with rfl | hy
        · exact absurd hy2 hk
        · exact h3 y hy hy2
theorem closureFor_eq (scope : Scope) (env : Env) : closureFor scope env = (forIn scope.names [] (fun (x : Str × NameKind) (r : List (Str × Addr)) => if (x.2 == NameKind.free) = true then do let c ← cellOf env x.1; pure (ForInStep.yield ((x.1, c) :: r)) else pure (ForInStep.yield r)) : Sem (List (Str × Addr))) := by
  unfold closureFor
  simp
theorem lookup_relabel_free {env : Env} (hk : env.scope.kind = .function) : ∀ {names : List (Str × NameKind)} {x : Str}, names.lookup x = some .free → env.kindOf x = some .cell →
    (names.map fun (n, k) => if (k == NameKind.free && env.scope.kind == .function && env.kindOf n == some .cell) then (n, NameKind.cell) else (n, k)).lookup x = some .cell
  | [], _, h, _ => by simp at h
  | (n, k) :: r, x, h, hc => by
    have ih := @lookup_relabel_free env hk r x
    show List.lookup x ((if (k == NameKind.free && env.scope.kind == .function && env.kindOf n == some .cell) = true then (n, NameKind.cell) else (n, k)) :: _) = _
    cases hx : x == n with
    | true =>
      simp only [List.lookup_cons, hx] at h
      cases h
      have e : x = n := by simpa using hx
      subst e
      simp [List.lookup_cons, hk, hc]
    | false =>
      simp only [List.lookup_cons, hx] at h
      by_cases hc' : (k == NameKind.free && env.scope.kind == .function && env.kindOf n == some .cell) = true
      · rw [if_pos hc']; simp only [List.lookup_cons, hx]; exact ih h hc
      · rw [if_neg hc']; simp only [List.lookup_cons, hx]; exact ih h hc
/-- a name that is a cell or free in the block was free -/
theorem relabel_was {env : Env} : ∀ {names : List (Str × NameKind)} {x : Str}, (∀ y ∈ names, y.2 ≠ .cell) →
    ((names.map fun (n, k) => if (k == NameKind.free && env.scope.kind == .function && env.kindOf n == some .cell) then (n, NameKind.cell) else (n, k)).lookup x = some .cell ∨
     (names.map fun (n, k) => if (k == NameKind.free && env.scope.kind == .function && env.kindOf n == some .cell) then (n, NameKind.cell) else (n, k)).lookup x = some .free) → (x, NameKind.free) ∈ names
  | [], _, _, h => by simp at h
  | (n, k) :: r, x, hn, h => by
    have ih := @relabel_was env r x fun y hy => hn y (List.mem_cons_of_mem _ hy)
    have hk : k ≠ .cell := hn (n, k) List.mem_cons_self
    cases hx : x == n with
    | true =>
      have e : x = n := by simpa using hx
      subst e
      by_cases hf : k = .free
      · subst hf; exact List.mem_cons_self
      · have hf' : ¬ (k == NameKind.free && env.scope.kind == .function && env.kindOf x == some .cell) = true := by simp [hf]
        simp only [List.map_cons, if_neg hf', List.lookup_cons, beq_self_eq_true] at h
        rcases h with h | h
        · exact absurd (Option.some.inj h) hk
        · exact absurd (Option.some.inj h) hf
    | false =>
      refine List.mem_cons_of_mem _ (ih ?_)
      by_cases hc' : (k == NameKind.free && env.scope.kind == .function && env.kindOf n == some .cell) = true
      · simpa only [List.map_cons, if_pos hc', List.lookup_cons, hx] using h
      · simpa only [List.map_cons, if_neg hc', List.lookup_cons, hx] using h

def blk (X : Cx) (sc : Scope) (cl : List (Str × Addr)) (C : Addr) (N' : List Str) (s₂ : Shared) (H₁ : Hp) (fp : List Addr) (pins : List (Addr × Obj)) : Cx where
  prog := X.prog
  w := X.w
  K := X.K
  mg := X.mg
  base := X.base
  A := X.A
  N := N'
  s₀ := s₂
  H₀ := H₁
  env := compEnvC sc cl C X.env
  outer := X.stack
  stack := X.stack
  ex := fp
  fn := fun _ => false
  calm := X.calm
  pn := X.pn ++ pins
  xe := fun _ _ => False

/-- N, names: the slots and names around; N': the block's slots, k of its own, then those at pull of N (caught) -/
structure BScope (N : List Str) (names : List (Str × NameKind)) (N' : List Str) (k : Nat) (pull : List Nat) (sc : Scope) : Prop where
  kind : sc.kind = .function
  nocell : ∀ y ∈ sc.names, y.2 ≠ .cell
  loc : ∀ y ∈ sc.names, y.2 = .local → sc.names.lookup y.1 = some .local
  len : N'.length = k + pull.length
  cap : ∀ i ∈ List.range pull.length, N'[k + i]? = N[pull.getD i 0]? ∧ ∀ x ∈ (N'[k + i]?).toList, sc.names.lookup x = some .free
  fre : ∀ y ∈ sc.names, y.2 = .free → names.lookup y.1 = some .cell

def bst (k : Nat) (pull : List Nat) (σ : St) : St := List.replicate k none ++ pull.map fun j => σ.getD j none

theorem HOk.but {P : Program} {w : World} {H : Hp} {h h' : Heap} {C : Addr} (x : HOk P w H h) (hn : H C = none) (k : ∀ b o, b ≠ C → h.get? b = some o → h'.get? b = some o) : HOk P w H h' := fun b u e => by
  have nit : ∀ b u, H b = some u → b ≠ C := fun b u e z => by rw [z, hn] at e; cases e
  refine (x b u e).stay (fun c v hc q => k c v ?_ q) (fun _ q => q) fun _ _ q => q
  rcases hc with z | z
  · rw [z]; exact nit b u e
  · exact nit c _ z

def tComp (wi : TI) (k : Nat) (pull : List Nat) (g : TG) (te : TE) : TE := fun σ H Q => wi σ H fun J H1 => ∀ d, H1 d = none →
  ∃ W : Nat → Nat → St → Hp → Prop, (∃ m, W 0 m (bst k pull σ) (upd H1 d (.lst []))) ∧ ∀ i m σ' H', W i m σ' H' →
    (J.stop i H' ∧ Q (.ref d) H') ∨
    (J.go i H' ∧ ∀ x H2, J.yld i H' x H2 → g x σ' H2 fun σ3 H3 => te σ3 H3 fun y H4 => ∃ xs, H4 d = some (.lst xs) ∧ xs.length < sizeLine ∧ ∃ m', m' < m ∧ W (i + 1) m' σ3 (upd H4 d (.lst (xs ++ [y]))))

section
variable {X : Cx} {elt tg iter : Expr} {sc : Scope} {pos : Pos} {wi : TI} {g : TG} {te : TE} {N : List Str} {names : List (Str × NameKind)} {N' : List Str} {k : Nat} {pull : List Nat}

theorem blk_start {pins : List (Addr × Obj)} {σ : St} {H1 : Hp} {s2 : Shared} {fp : List Addr} {cl : List (Str × Addr)} {h₁ : Heap} {tk : Nat} (B : BScope N names N' k pull sc) (hN : X.N = N) (hnm : X.env.scope.names = names)
    (I2 : Inv X pins σ H1 s2) (f2 : ∀ b ∈ fp, FpOk X pins H1 b) (ho : ∀ b ∈ fp, ∃ o, s2.heap.get? b = some o)
    (c1 : ∀ x c, cl.lookup x = some c → X.env.cells.lookup x = some c) (c3 : ∀ y ∈ sc.names, y.2 = .free → ∃ c, cl.lookup y.1 = some c)
    (hns : h₁.Ns (s2.heap.objs.size + 1) (fun x => ([] : List (Str × Value)).reverse.lookup x))
    (hk : ∀ b o, s2.heap.get? b = some o → h₁.get? b = some o) (hd : h₁.get? s2.heap.objs.size = some { cls := .type "list", data := .seq ([] : List Value).toArray }) :
    Inv (blk X sc cl (s2.heap.objs.size + 1) N' s2 H1 fp pins) [] (bst k pull σ) (upd H1 s2.heap.objs.size (.lst [])) { s2 with heap := h₁, toks := tk } := by
  have hfd : H1 s2.heap.objs.size = none := I2.hok.fresh (Nat.le_refl _)
  have hfC : (upd H1 s2.heap.objs.size (.lst [])) (s2.heap.objs.size + 1) = none := by
    rw [upd_ne (Nat.succ_ne_self _)]; exact I2.hok.fresh (Nat.le_succ _)
  have hlook : ∀ x, (compEnvC sc cl (s2.heap.objs.size + 1) X.env).kindOf x = some .cell ∨ (compEnvC sc cl (s2.heap.objs.size + 1) X.env).kindOf x = some .free → (x, NameKind.free) ∈ sc.names := fun x hx =>
    relabel_was (env := X.env) B.nocell hx
  have cellKind : ∀ y ∈ sc.names, y.2 = .free → X.env.kindOf y.1 = some .cell := fun y hy hf => by
    show X.env.scope.names.lookup y.1 = _
    rw [hnm]; exact B.fre y hy hf
  refine ⟨⟨I2.ok.mod, B.kind, I2.ok.glob, I2.ok.blt, Nat.le_succ _, fun x y c e1 e2 => I2.ok.inj x y c (c1 x c e1) (c1 y c e2), fun x hx => c3 _ (hlook x hx) rfl, (fun x c h _ => nomatch h), I2.ok.hd, I2.ok.frames, .inl rfl, fun b hb => ⟨?_, fun x c e => ?_⟩, I2.bs, Nat.le_trans I2.ok.bsz I2.sz, fun b o e hb => ?_, fun b hb hs => ?_, I2.stack, I2.stkFree⟩,
    rfl, I2.bare, Un.laid hk (Nat.le_refl _) hfd, ⟨_, hns, fun i x v e1 e2 e3 => ?_⟩, fun x c e => ?_, hfC, fun x c e => ?_, fun p hp => ?_, I2.hok.laid hk (Nat.le_refl _) ⟨Nat.zero_le _, [], 0, .nil, hd⟩, ?_⟩
  · obtain ⟨o, e⟩ := ho b hb
    exact Nat.ne_of_lt (Nat.lt_succ_of_lt (Heap.lt_size e))
  · exact (f2 b hb).2.2.2.2.1 x c (c1 x c e)
  · rcases (f2 b hb).2.2.2.1 with z | z
    · exact I2.ok.noex b o e z
    · exact absurd (Nat.lt_of_lt_of_le (Heap.lt_size e) (Nat.le_trans I2.ok.bsz z)) (Nat.lt_irrefl _)
  · rcases List.mem_cons.mp (I2.stkSub b hs) with z | z
    · exact (f2 b hb).2.1 z
    · exact (f2 b hb).2.2.1 z
  · -- a slot that is set is a caught name
    have e2 : (bst k pull σ)[i]? = some (some v) := e2
    unfold bst at e2
    by_cases hi : i < k
    · rw [List.getElem?_append_left (by simpa using hi), List.getElem?_replicate, if_pos hi] at e2
      cases e2
    · rw [List.getElem?_append_right (by simpa using hi), List.length_replicate, List.getElem?_map] at e2
      cases ej : pull[i - k]? with
      | none => rw [ej] at e2; cases e2
      | some j =>
        rw [ej] at e2
        have e2 : σ.getD j none = some v := Option.some.inj e2
        have hj : σ[j]? = some (some v) := by
          rw [List.getD_eq_getElem?_getD] at e2
          cases q : σ[j]? with
          | none => rw [q] at e2; cases e2
          | some z => rw [q] at e2; simpa using e2
        have hil : i - k < pull.length := (List.getElem?_eq_some_iff.mp ej).1
        obtain ⟨q1, q2⟩ := B.cap (i - k) (List.mem_range.mpr hil)
        have ei : k + (i - k) = i := by omega
        have ep : pull.getD (i - k) 0 = j := by rw [List.getD_eq_getElem?_getD, ej]; rfl
        have e1 : N'[i]? = some x := e1
        rw [ei, ep, e1] at q1
        rw [ei, e1] at q2
        have hf := q2 x (by simp)
        have hmem := PySem.mem_of_lookup hf
        have hc := cellKind (x, .free) hmem rfl
        obtain ⟨m, hn, hl⟩ := I2.loc
        obtain ⟨u, r, l⟩ := hl j x v (by rw [hN]; exact q1.symm) hj (.inr (.inl hc))
        refine ⟨u, r, .inr ⟨.inl (lookup_relabel_free I2.ok.kind hf hc), ?_⟩⟩
        rcases l with ⟨hloc, _⟩ | ⟨_, c, ec, hcell⟩
        · rw [hc] at hloc; cases hloc
        · obtain ⟨c', ec'⟩ := c3 (x, .free) hmem rfl
          have := c1 x c' ec'
          rw [ec] at this
          cases this
          obtain ⟨o, h1, h2⟩ := hcell
          exact ⟨c, ec', o, hk c o h1, h2⟩
  · obtain ⟨v, o, h1, h2⟩ := I2.cell x c (c1 x c e)
    exact ⟨v, o, hk c o h1, h2⟩
  · obtain ⟨v, o, h1, h2⟩ := I2.cell x c (c1 x c e)
    rw [upd_ne (Nat.ne_of_lt (Heap.lt_size h1))]
    exact I2.freeC x c (c1 x c e)
  · have hp : p ∈ X.pn ++ pins := by simpa [blk] using hp
    obtain ⟨a1, a2, a3, a4, a5⟩ := I2.pin p hp
    have hlt := Heap.lt_size a1
    refine ⟨hk _ _ a1, by rw [upd_ne (Nat.ne_of_lt hlt)]; exact a2, ?_, fun hs => ?_, a5⟩
    · exact Nat.ne_of_lt (Nat.lt_succ_of_lt hlt)
    · rcases List.mem_cons.mp (I2.stkSub p.1 hs) with z | z
      · exact a3 z
      · exact a4 z
  · show (bst k pull σ).length = N'.length
    unfold bst
    rw [List.length_append, List.length_replicate, List.length_map, B.len]

theorem pe_comp (hc : X.calm = true) (B : BScope N names N' k pull sc) (hN : X.N = N) (hnm : X.env.scope.names = names) (hi : PI X tg iter wi)
    (hg : ∀ cl C s₂ H₁ fp pins, PG (blk X sc cl C N' s₂ H₁ fp pins) tg g) (he : ∀ cl C s₂ H₁ fp pins, PE (blk X sc cl C N' s₂ H₁ fp pins) elt te)
    (hs : ∀ x, foldedSetIterable iter X.env x = pure x := by intro _; rfl) : PE X (.ListComp elt [⟨tg, iter, [], 0⟩] sc pos) (tComp wi k pull g te) := by
  intro pins s σ H Q I h
  rw [eval_ListComp]
  have hcells : ∀ y ∈ sc.names, y.2 = .free → ∃ c, X.env.cells.lookup y.1 = some c := fun y hy hf => I.ok.has y.1 (.inl (by
    show X.env.scope.names.lookup y.1 = _
    rw [hnm]; exact B.fre y hy hf))
  obtain ⟨cl, ecl, c1, _, c3⟩ := closureFor_is (env := X.env) sc.names [] hcells (fun x c e => nomatch e)
  rw [← closureFor_eq] at ecl
  refine wpAny_comprehension_free (use := none) rfl hs ecl B.kind B.loc (thn (hi pins s σ H _ I h) fun xv s1 h1 => thn h1 fun itv s2 h2 => ?_)
  obtain ⟨it, fp, tn, J, H1, e, I2, T, st2, f2, hW⟩ := h2
  subst e
  have ho : ∀ b ∈ fp, ∃ o, s2.heap.get? b = some o := fun b hb => let ⟨o, e, _⟩ := T.obj _ _ st2 b hb; ⟨o, e⟩
  refine wpAny_newObj_type (wpAny_newFunctionEnv B.nocell (by intro y hy; simp at hy) (fun h₁ hns₁ hsb₁ => ?_) B.kind)
  dsimp only at hns₁ hsb₁ ⊢
  rw [Heap.size_push] at hns₁ hsb₁ ⊢
  have old : ∀ b o, s2.heap.get? b = some o → h₁.get? b = some o := fun b o e => by
    have hlt := Heap.lt_size e
    exact (hsb₁.2 b (Nat.ne_of_lt (Nat.lt_succ_of_lt hlt))).trans (Heap.get?_push_of_some _ (Heap.get?_push_of_some _ e))
  have hd : h₁.get? s2.heap.objs.size = some { cls := .type "list", data := .seq ([] : List Value).toArray } :=
    (hsb₁.2 _ (Nat.ne_of_lt (Nat.lt_succ_self _))).trans (Heap.get?_push_of_some _ (Heap.get?_push_size _ rfl))
  have I4 := blk_start (tk := s2.toks + ([] : List (Str × Value)).length) B hN hnm I2 f2 ho c1 c3 hns₁ old hd
  have st4 : tn 0 h₁ := T.keep _ _ _ st2 fun b _ o e => old b o e
  obtain ⟨W, ⟨m0, w0⟩, turn⟩ := hW s2.heap.objs.size (I2.hok.fresh (Nat.le_refl _))
  have fr4 : ∀ b ∈ fp, (upd H1 s2.heap.objs.size (.lst [])) b = none := fun b hb => by
    obtain ⟨o, e⟩ := ho b hb
    rw [upd_ne (Nat.ne_of_lt (Heap.lt_size e))]
    exact (f2 b hb).1
  -- what stays true of the iterator's objects
  have stat : ∀ {H' : Hp}, (∀ b ∈ fp, H' b = none) → ∀ b ∈ fp, FpOk (blk X sc cl (s2.heap.objs.size + 1) N' s2 H1 fp pins) [] H' b := fun hn b hb => by
    refine ⟨hn b hb, (I4.ok.exf b hb).1, I4.ok.exfs b hb, .inl hb, (I4.ok.exf b hb).2, fun p hp => ?_⟩
    have hp : p ∈ X.pn ++ pins := by simpa [blk] using hp
    exact (f2 b hb).2.2.2.2.2 p hp
  have loop : ∀ s₃ : Shared, s₃ = { s2 with heap := h₁, toks := s2.toks + ([] : List (Str × Value)).length } →
      codeAny (model X.prog X.w) X.A (.compLoop (.ListComp elt [⟨tg, iter, [], 0⟩] sc pos) 0 (.ref it) (.ref s2.heap.objs.size) (compEnvC sc cl (s2.heap.objs.size + 1) X.env))
        (compPost (model X.prog X.w) X.A X.xe none (EP X pins σ Q) (.ref s2.heap.objs.size) (s2.heap.objs.size + 1)) s₃ := by
    rintro s₃ rfl
    refine comp_turn (fun n s' => ∃ i σ' H', Inv (blk X sc cl (s2.heap.objs.size + 1) N' s2 H1 fp pins) [] σ' H' s' ∧ tn i s'.heap ∧ (∀ b ∈ fp, H' b = none) ∧ W i n σ' H') ?_ m0 ⟨0, _, _, I4, st4, fr4, w0⟩
    rintro n s3 ⟨i, σ3, H3, I3, st3, fr3, w3⟩
    rcases turn i n σ3 H3 w3 with ⟨stop, q⟩ | ⟨go, step⟩
    · refine thn (T.done (blk X sc cl (s2.heap.objs.size + 1) N' s2 H1 fp pins) rfl rfl rfl hc i [] s3 σ3 H3 _ I3 (stat fr3) st3 stop) fun r s4 ⟨hr, I5⟩ => ?_
      subst hr
      obtain ⟨m, hn, _⟩ := id I5.loc
      refine ⟨m, hn, fun h' hs' => ?_⟩
      have ne : ∀ b o, s2.heap.get? b = some o → b ≠ s2.heap.objs.size + 1 := fun b o e => Nat.ne_of_lt (Nat.lt_succ_of_lt (Heap.lt_size e))
      have U : Un (frs X.stack) fp H1 H3 s2.heap s4.heap := I5.base
      have U' : Un (frs X.stack) fp H1 H3 s2.heap h' := ⟨fun b o e n hb hx => (hs'.2 b (ne b o e)).trans (U.keep b o e n hb hx), fun b o e n hb hx => by
          obtain ⟨sl, z⟩ := U.slot b o e n hb hx
          exact ⟨sl, (hs'.2 b (ne b o e)).trans z⟩, U.free, fun b o e hx => by
          obtain ⟨o', z⟩ := U.there b o e hx
          exact ⟨o', (hs'.2 b (ne b o e)).trans z⟩, U.tups, U.frzs, U.tbls⟩
      have hok : HOk X.prog X.w H3 h' := HOk.but (C := s2.heap.objs.size + 1) I5.hok I5.free fun b o hb e => (hs'.2 b hb).trans e
      refine ⟨.ref s2.heap.objs.size, H3, I2.call' (s' := { s4 with heap := h' }) I5.os U' hok I5.bare fun b hb => ?_, rfl, q⟩
      exact ⟨(f2 b hb).2.2.2.1, (f2 b hb).2.1, (f2 b hb).2.2.2.2.1, (f2 b hb).2.2.2.2.2⟩
    · refine thn (T.item (blk X sc cl (s2.heap.objs.size + 1) N' s2 H1 fp pins) rfl rfl rfl hc i [] s3 σ3 H3 _ I3 (stat fr3) st3 go) fun r s4 ⟨u, hr, h4⟩ => ?_
      subst hr
      refine thn h4 fun _ s5 ⟨x, H5, I5, r5, y5, st5, fr5⟩ => ?_
      have I5' := I5.pinned (stat fr5) (T.obj _ _ st5)
      refine wpAny_mono (hg _ _ _ _ _ _ _ s5 σ3 H5 x u _ I5' r5 (step x H5 y5)) (fun _ s6 ⟨σ6, H6, I6, q6⟩ => ?_) fun _ _ z => z.elim
      refine wpAny_mono (he _ _ _ _ _ _ _ s6 σ6 H6 _ I6 q6) (fun y s7 ⟨z, H7, I7, r7, xs, hx7, hz7, m', hm, w7⟩ => ?_) fun _ _ z => z.elim
      refine wpAny_mono (mt_append (X := blk X sc cl (s2.heap.objs.size + 1) N' s2 H1 fp pins) _ s7 σ6 H7 (.ref s2.heap.objs.size) [z] (.ref s2.heap.objs.size) [y] (fun _ H8 => H8 = upd H7 s2.heap.objs.size (.lst (xs ++ [z]))) I7 rfl (.cons r7 .nil) ⟨_, xs, z, rfl, rfl, hx7, hz7, rfl⟩) (fun _ s8 ⟨_, H8, I8, _, e8⟩ => ?_) fun _ _ z => z.elim
      subst e8
      refine ⟨m', hm, i + 1, σ6, _, I8.unpinned, T.keep _ _ _ st5 fun b hb o e => (I8.pin (b, o) (List.mem_append_right _ (List.mem_append_right _ (mem_pinsAt hb e)))).1, fun b hb => ?_, w7⟩
      obtain ⟨o, e, _⟩ := T.obj _ _ st5 b hb
      exact (I8.pin (b, o) (List.mem_append_right _ (List.mem_append_right _ (mem_pinsAt hb e)))).2.1
  exact codeAny_compStart_list (loop _ rfl) (T.self _ 0 _ _ _ st4 (loop _ rfl))
end
end L2
namespace L2
open PySem
open AutoSeq1 (wpAny_loadPart')
section
variable {prog : Program} {w : World} {A : Around} {E : Value → Shared → Prop} {s : Shared}
theorem nextOf_tuple_item {it l : Addr} {i : Nat} {items} {x : Value} {Q : Value → Shared → Prop} (hit : s.heap.IsTupleIter it l i)
    (hl : s.heap.IsTuple l items) (hx : items[i]? = some x)
    (hQ : ∀ h', h'.IsTupleIter it l (i + 1) → Heap.SameBut it s.heap h' → Q x { s with heap := h' }) :
    wpAny (model prog w) A (Builtin.SmallTypes.nextOf (.ref it)) Q E s := by
  obtain ⟨o, ho, hc, hd⟩ := id hit
  obtain ⟨ol, hol, _, nl, hdl⟩ := hl
  unfold Builtin.SmallTypes.nextOf
  refine wpAny_bind (wpAny_callSpecial?_slot (name := Str.ofString "__next__") hit.typeIs F.slot_tuple_iterator_next
    (wpAny_call_entry F.slot_tuple_iterator_next hit.typeIs F.entry_tuple_iterator_next ?_ (F.args_tuple_iterator_next_1 _)))
  show wpAny _ _ (field (.ref it) 0 >>= _) _ _ s
  refine wpAny_bind (wpAny_field ho hd (x := .ref l) rfl ?_)
  show wpAny _ _ (if (Value.ref l == Value.none) = true then _ else _) _ _ s
  rw [if_neg (show ¬ ((Value.ref l == Value.none) = true) from Bool.false_ne_true)]
  show wpAny _ _ (field (.ref it) 1 >>= _) _ _ s
  refine wpAny_bind (wpAny_field ho hd (x := .int i 0) rfl ?_)
  show wpAny _ _ (seqItems? (.ref l) >>= _) _ _ s
  refine wpAny_bind (wpAny_seqItems hol hdl ?_)
  simp only [Int.toNat_natCast, hx]
  refine wpAny_bind (wpAny_setField ho hd (by simp) (wpAny_pure ⟨x, rfl, wpAny_pure (hQ _ ?_ (Heap.SameBut.update ..))⟩))
  exact ⟨_, Heap.get?_update_self _ ho (Obj.isFreed_of_fields (Obj.data_mapFields hd _)), (Obj.cls_mapFields ..).trans hc, by
    rw [Obj.data_mapFields hd]; simp [rawInt]⟩
theorem nextOf_tuple_end {it l : Addr} {i : Nat} {items} {Q : Value → Shared → Prop} (hh : A.handled = none)
    (hit : s.heap.IsTupleIter it l i) (hl : s.heap.IsTuple l items) (hx : items[i]? = none)
    (hE : ∀ h' e, Heap.ExtBut it s.heap h' → (∃ o, h'.get? e = some o ∧ o.cls = .type "StopIteration") → E (.ref e) { s with heap := h' }) :
    wpAny (model prog w) A (Builtin.SmallTypes.nextOf (.ref it)) Q E s := by
  obtain ⟨o, ho, hc, hd⟩ := id hit
  obtain ⟨ol, hol, _, nl, hdl⟩ := hl
  unfold Builtin.SmallTypes.nextOf
  refine wpAny_bind (wpAny_callSpecial?_slot (name := Str.ofString "__next__") hit.typeIs F.slot_tuple_iterator_next
    (wpAny_call_entry F.slot_tuple_iterator_next hit.typeIs F.entry_tuple_iterator_next ?_ (F.args_tuple_iterator_next_1 _)))
  show wpAny _ _ (field (.ref it) 0 >>= _) _ _ s
  refine wpAny_bind (wpAny_field ho hd (x := .ref l) rfl ?_)
  show wpAny _ _ (if (Value.ref l == Value.none) = true then _ else _) _ _ s
  rw [if_neg (show ¬ ((Value.ref l == Value.none) = true) from Bool.false_ne_true)]
  show wpAny _ _ (field (.ref it) 1 >>= _) _ _ s
  refine wpAny_bind (wpAny_field ho hd (x := .int i 0) rfl ?_)
  show wpAny _ _ (seqItems? (.ref l) >>= _) _ _ s
  refine wpAny_bind (wpAny_seqItems hol hdl ?_)
  simp only [Int.toNat_natCast, hx]
  refine wpAny_bind (wpAny_rule (wpAny_bind (wpAny_setField ho hd (by simp) ?_)))
  show wpAny _ _ (newExc (.type "StopIteration") [] >>= _) _ _ _
  refine wpAny_bind ?_
  simp only [newExc, newTuple]
  refine wpAny_bind (wpAny_newObj_type ?_ (by size_fits))
  refine wpAny_bind (m := firstArgMember _ _) (wpAny_of_eq (a := Value.none) (by first | rfl | (simp only [firstArgMember]; rfl)) ?_)
  refine wpAny_newObj_type ?_ (by size_fits)
  simp only [raiseNew]
  refine wpAny_bind (wpAny_handled ?_)
  first | rw [show A.in1.handled = none from hh] | rw [hh]
  refine wpAny_bind (wpAny_pure (wpAny_throw ?_))
  exact hE _ _ (((Heap.SameBut.update ..).extBut.push _).push _) ⟨_, Heap.get?_push_size _ rfl, rfl⟩
end
theorem Draws_tuple {prog : Program} {w : World} {A : Around} (hh : A.handled = none) (it l : Addr) (hne : l ≠ it) (items : Array Value) :
    Draws prog w A it [it, l] items.size (fun i v => items[i]? = some v) (fun i h => h.IsTupleIter it l i ∧ h.IsTuple l items) where
  live := fun _ _ st => let ⟨⟨o, ho, _⟩, _⟩ := st; ⟨o, ho⟩
  frame := fun _ _ _ st hk => ⟨let ⟨o, ho, r⟩ := st.1; ⟨o, hk it (by simp) o ho, r⟩, let ⟨o, ho, r⟩ := st.2; ⟨o, hk l (by simp) o ho, r⟩⟩
  item := fun i s Q E hi st hQ => by
    refine nextOf_tuple_item st.1 st.2 (x := items[i]) (by simp [hi]) fun h' hit' hs' => ?_
    exact hQ _ h' s.toks (by simp [hi]) ⟨hit', let ⟨o, ho, r⟩ := st.2; ⟨o, (hs'.2 l hne).trans ho, r⟩⟩ hs'
  done := fun s Q E st hE => nextOf_tuple_end hh st.1 st.2 (by simp) hE

theorem meets_enumerate_newT (l : Addr) (items : Array Value) (o : Obj) (hc : o.cls = .type "tuple") (n : Nat) (hd : o.data = .seq items n) :
    Meets (Builtin.«enumerate.__new__» ⟨[.type "enumerate", .ref l], []⟩) (fun _ R s => s.heap.get? l = some o ∧
      R (.ok (.ret (.ref (s.heap.push { cls := .type "tuple_iterator", data := .fields #[.ref l, .int 0 0] }).objs.size)))
        { s with heap := (s.heap.push { cls := .type "tuple_iterator", data := .fields #[.ref l, .int 0 0] }).push { cls := .type "enumerate", data := .fields #[.none, .bool false, .ref s.heap.objs.size, rawInt 0, .none, .none] } }) :=
  .of_wp fun prog w A R s h => by
    obtain ⟨hp, g, d, tk, os⟩ := s; obtain ⟨hl, h⟩ := h
    have hsub := sub_enumerate
    have hL : Heap.IsTuple (Shared.heap ⟨hp, g, d, tk, os⟩) l items := ⟨_, hl, hc, n, hd⟩
    wp_walk using wpAny_loadPart' hl
    refine wpAny_stack_any fun st => wpAny_pure ?_
    split
    · rename_i c _ _ _ _ _
      cases (c == Value.type "enumerate")
      · wp_walk using wpAny_loadPart' hl, wpAny_pyIter_tuple hL
        exact ⟨_, rfl, h⟩
      · wp_walk using wpAny_loadPart' hl, wpAny_pyIter_tuple hL
        exact ⟨_, rfl, h⟩
    · wp_walk using wpAny_loadPart' hl, wpAny_pyIter_tuple hL
      exact ⟨_, rfl, h⟩
theorem call_enumerate_tuple {prog : Program} {w : World} {A : Around} {E : Value → Shared → Prop} {s : Shared} {l : Addr} {items : Array Value} {Q : Value → Shared → Prop} (hL : s.heap.IsTuple l items)
    (h : ∀ h', IsEnum h' (s.heap.objs.size + 1) s.heap.objs.size 0 .none → h'.IsTupleIter s.heap.objs.size l 0 → h'.objs.size = s.heap.objs.size + 2 →
      (∀ b o, s.heap.get? b = some o → h'.get? b = some o) → Q (.ref (s.heap.objs.size + 1)) { s with heap := h' }) :
    wpAny (model prog w) A (call (.type "enumerate") [.ref l]) Q E s := by
  obtain ⟨o, hl, hc, n, hd⟩ := hL
  refine callType_new F.called_enumerate (by decide) (F.typeCall_enumerate_1 _) (F.newCall_enumerate_1 _) (fun obj => F.args_object_init_2 obj _) F.entry_enumerate_new
    (meets_enumerate_newT l items o hc n hd) ⟨hl, ?_⟩
  have hz : (s.heap.push { cls := .type "tuple_iterator", data := .fields #[.ref l, .int 0 0] }).objs.size = s.heap.objs.size + 1 := Heap.size_push ..
  show _ ∧ _
  rw [hz]
  have he : IsEnum ((s.heap.push { cls := .type "tuple_iterator", data := .fields #[.ref l, .int 0 0] }).push
      { cls := .type "enumerate", data := .fields #[.none, .bool false, .ref s.heap.objs.size, rawInt 0, .none, .none] }) (s.heap.objs.size + 1) s.heap.objs.size 0 .none := by
    have := Heap.get?_push_size (s.heap.push { cls := .type "tuple_iterator", data := .fields #[.ref l, .int 0 0] })
      (o := { cls := .type "enumerate", data := .fields #[.none, .bool false, .ref s.heap.objs.size, rawInt 0, .none, .none] }) rfl
    rw [hz] at this; exact this
  refine ⟨⟨_, he, rfl⟩, h _ he ⟨_, Heap.get?_push_of_some _ (Heap.get?_push_size _ rfl), rfl, rfl⟩ (by rw [Heap.size_push, hz]) fun b o x => Heap.get?_push_of_some _ (Heap.get?_push_of_some _ x)⟩
end L2
namespace L2
open PySem PySem.Spec PyProof.Rows

section
variable {X : Cx}
theorem call_isinst : CallR X (.builtin "isinstance") (fun xs H Q => ∃ x c t b, xs = [x, .ty c] ∧ TyOf X.K H x t ∧ PySem.W.kitOne X.K t (.type c) = some b ∧ Q (.bl b) H) := by
  intro pins s σ H xs us Q I r h
  obtain ⟨x, c, t, b, rfl, ty, e, q⟩ := h
  obtain ⟨u, w', rfl, ru, rc⟩ := vals2 r
  obtain rfl : w' = Value.type c := rc
  exact isinst_ok I ru ty e fun tk => ⟨.bl b, H, I.tok _, rfl, q⟩
end
theorem kit_int_int (K : PySem.W.Frag) : PySem.W.kitOne K (.type "int") (.type "int") = some true := by kernel_rfl
theorem kit_int_bool (K : PySem.W.Frag) : PySem.W.kitOne K (.type "int") (.type "bool") = some false := by kernel_rfl
theorem kit_tup_tup (K : PySem.W.Frag) : PySem.W.kitOne K (.type "tuple") (.type "tuple") = some true := by kernel_rfl
theorem kit_list_list (K : PySem.W.Frag) : PySem.W.kitOne K (.type "list") (.type "list") = some true := by kernel_rfl

mutual
inductive Dt (K : PySem.W.Frag) (H : Hp) : V → PyData → Prop
  | non : Dt K H .non .none
  | bl (b : Bool) : Dt K H (.bl b) (.bool b)
  | int (i : Int) : Dt K H (.int i) (.int i)
  | str (x : Str) : Dt K H (.str x) (.str x)
  | lst {a : Addr} {xs : List V} {ds : List PyData} : SqL K H a xs → DtAll K H xs ds → Dt K H (.ref a) (.list ds)
  | tup {a : Addr} {xs : List V} {ds : List PyData} : SqT K H a xs → DtAll K H xs ds → Dt K H (.ref a) (.tuple ds)
inductive DtAll (K : PySem.W.Frag) (H : Hp) : List V → List PyData → Prop
  | nil : DtAll K H [] []
  | cons {x : V} {d : PyData} {xs : List V} {ds : List PyData} : Dt K H x d → DtAll K H xs ds → DtAll K H (x :: xs) (d :: ds)
end
section
variable {X : Cx} {pins : List (Addr × Obj)} {σ : St} {H : Hp} {s : Shared}
mutual
theorem Dt.reads (I : Inv X pins σ H s) : ∀ {x : V} {d : PyData} {u : Value}, Dt X.K H x d → RelV x u → ∃ as, Reads s.heap u d as
  | _, _, _, .non, r => by obtain rfl := (show _ = Value.none from r); exact ⟨_, .none⟩
  | _, _, _, .bl b, r => by obtain rfl := (show _ = Value.bool b from r); exact ⟨_, .bool b⟩
  | _, _, _, .int i, r => by obtain ⟨t, rfl⟩ := r; exact ⟨_, .int i t⟩
  | _, _, _, .str x, r => by obtain ⟨t, rfl⟩ := r; exact ⟨_, .str x t⟩
  | _, _, _, @Dt.lst _ _ a xs ds hq ha, r => by
    obtain rfl := (show _ = Value.ref a from r)
    obtain ⟨its, rv, ⟨o, n, h1, h2, h3, h4⟩, hz⟩ := I.list hq
    obtain ⟨as, ra⟩ := DtAll.reads I ha rv
    exact ⟨_, .list h1 h2 h4 (by simpa using ra)⟩
  | _, _, _, @Dt.tup _ _ a xs ds hq ha, r => by
    obtain rfl := (show _ = Value.ref a from r)
    obtain ⟨its, rv, ⟨o, h1, h2, n, h3⟩, hz⟩ := I.tuple hq
    obtain ⟨as, ra⟩ := DtAll.reads I ha rv
    exact ⟨_, .tuple h1 h2 h3 (by simpa using ra)⟩
theorem DtAll.reads (I : Inv X pins σ H s) : ∀ {xs : List V} {ds : List PyData} {us : List Value}, DtAll X.K H xs ds → Vals xs us → ∃ as, ReadsAll s.heap us ds as
  | _, _, _, .nil, r => by cases r; exact ⟨_, .nil⟩
  | _, _, _, .cons h t, r => by
    cases r with
    | cons r rr =>
      obtain ⟨a1, h1⟩ := Dt.reads I h r
      obtain ⟨a2, h2⟩ := DtAll.reads I t rr
      exact ⟨_, .cons h1 h2⟩
end
def rEqD (K : PySem.W.Frag) (A : Around) (neg : Bool) : R2 := fun x y H Q => ∃ d e, Dt K H x d ∧ Dt K H y e ∧ d.canLay0 = true ∧ e.canLay0 = true ∧ A.units + min d.depth e.depth < cLine ∧ Q (.bl (if neg then !PyData.eqv d e else PyData.eqv d e)) H
theorem op_neD : OpR X (compareOp .NotEq) (rEqD X.K X.A true) := by
  intro pins s σ H x y v u Q I rx ry h
  obtain ⟨d, e, hd, he, c1, c2, hu, q⟩ := h
  obtain ⟨as, ra⟩ := Dt.reads I hd rx
  obtain ⟨bs, rb⟩ := Dt.reads I he ry
  exact SeqAt.compareNe_reads ra rb c1 c2 hu ⟨.bl _, H, I, rfl, q⟩
end
/-- rows of squares as values, as data -/
def nv (xs : List Nat) : List V := xs.map fun (n : Nat) => V.int (n : Int)
def nd (xs : List Nat) : List PyData := xs.map fun (n : Nat) => PyData.int (n : Int)
theorem nv_len (xs : List Nat) : (nv xs).length = xs.length := by simp [nv]
theorem nv_get {xs : List Nat} {i : Nat} {x : Nat} (h : xs[i]? = some x) : (nv xs)[i]? = some (.int (x : Int)) := by simp [nv, h]
theorem nv_get' {xs : List Nat} {i : Nat} {v : V} (h : (nv xs)[i]? = some v) : ∃ x, xs[i]? = some x ∧ v = .int (x : Int) := by
  rw [nv, List.getElem?_map] at h
  cases e : xs[i]? with
  | none => rw [e] at h; cases h
  | some x => rw [e] at h; exact ⟨x, rfl, (Option.some.inj h).symm⟩
theorem nv_snoc (xs : List Nat) (x : Nat) : nv xs ++ [.int (x : Int)] = nv (xs ++ [x]) := by simp [nv]
theorem nd_all {K : PySem.W.Frag} {H : Hp} : ∀ xs : List Nat, DtAll K H (nv xs) (nd xs)
  | [] => .nil
  | x :: xs => .cons (.int _) (nd_all xs)
theorem nd_lay : ∀ xs : List Nat, PyData.canLayAll0 (nd xs) = true
  | [] => rfl
  | x :: xs => by show (PyData.canLay0 (PyData.int _) && PyData.canLayAll0 (nd xs)) = true; rw [nd_lay xs]; rfl
theorem nd_eqv : ∀ xs ys : List Nat, PyData.eqvAll (nd xs) (nd ys) = decide (xs = ys)
  | [], [] => rfl
  | [], y :: ys => rfl
  | x :: xs, [] => rfl
  | x :: xs, y :: ys => by
    show (((x : Int) == (y : Int)) && PyData.eqvAll (nd xs) (nd ys)) = _
    rw [nd_eqv xs ys]
    by_cases e : x = y
    · subst e
      by_cases e' : xs = ys <;> simp [e']
    · have : ((x : Int) == (y : Int)) = false := by simpa using fun h : (x : Int) = y => e (by omega)
      simp [this, e]
/-- a sheet's two rows as data -/
def sd (r u : List Nat) : PyData := .tuple [.tuple (nd r), .tuple (nd u)]
theorem sd_eqv (r u r' u' : List Nat) : PyData.eqv (sd r u) (sd r' u') = (decide (r = r') && decide (u = u')) := by
  show (PyData.eqvAll (nd r) (nd r') && (PyData.eqvAll (nd u) (nd u') && true)) = _
  rw [nd_eqv, nd_eqv, Bool.and_true]
theorem sd_lay (r u : List Nat) : (sd r u).canLay0 = true := by
  show (PyData.canLayAll0 (nd r) && (PyData.canLayAll0 (nd u) && true)) = true
  rw [nd_lay, nd_lay]; rfl
/-- the sheet at a: a tuple of two tuples -/
def ShAt (H : Hp) (a : Addr) (r u : List Nat) : Prop := ∃ p q, H a = some (.tup [.ref p, .ref q]) ∧ H p = some (.tup (nv r)) ∧ H q = some (.tup (nv u))
theorem ShAt.dt {K : PySem.W.Frag} {H : Hp} {a : Addr} {r u : List Nat} (h : ShAt H a r u) : Dt K H (.ref a) (sd r u) := by
  obtain ⟨p, q, h1, h2, h3⟩ := h
  exact .tup (SqT.of h1) (.cons (.tup (SqT.of h2) (nd_all r)) (.cons (.tup (SqT.of h3) (nd_all u)) .nil))
theorem ShAt.same {H H' : Hp} {a : Addr} {r u : List Nat} (e : Same H H') (h : ShAt H a r u) : ShAt H' a r u := by
  obtain ⟨p, q, h1, h2, h3⟩ := h
  exact ⟨p, q, e _ _ h1, e _ _ h2, e _ _ h3⟩
end L2
namespace L2
open PySem PySem.Spec PyProof.Rows
section
variable {prog : Program} {w : World} {A : Around} {E : Value → Shared → Prop} {s : Shared}
end
end L2
namespace L2
open PySem PySem.Spec PyProof.Rows
section
variable {prog : Program} {w : World} {A : Around} {E : Value → Shared → Prop} {s : Shared}
theorem collect_tup {l : Addr} {vs : List Value} {Q : List Value → Shared → Prop} (hl : s.heap.IsTuple l vs.toArray) (hz : vs.length ≤ sizeLine)
    (h : ∀ h', (∀ b o, s.heap.get? b = some o → h'.get? b = some o) → Q vs { s with heap := h' }) : wpAny (model prog w) A (collect (.ref l)) Q E s := by
  obtain ⟨o, ho, hc, n, hd⟩ := hl
  unfold collect
  refine wpAny_bind (wpAny_runValue (codeAny_builtin entry_proto_collect' ?_))
  show wpAny _ _ (do again (.builtin "list.__iadd__" ⟨[← newList [], .ref l], []⟩)) _ _ s
  refine wpAny_bind (wpAny_newList (wpAny_pure ⟨Code.quiet_builtin _ (by decide +kernel), codeAny_builtin entry_list_iadd' ?_⟩))
  have ho' : (s.heap.push (seqObj "list" #[] 0)).get? l = some o := Heap.get?_push_of_some _ ho
  show wpAny _ _ (Builtin.List.listExtendWith (.ref s.heap.objs.size) (.ref l) (.ref s.heap.objs.size)) _ _ { s with heap := s.heap.push (seqObj "list" #[] 0) }
  unfold Builtin.List.listExtendWith
  refine wpAny_bind (wpAny_typeOf (T := "tuple") ⟨o, ho', hc⟩ ?_)
  rw [if_pos (show (Builtin.List.listSameRef (.ref s.heap.objs.size) (.ref l) || Value.type "tuple" == Value.type "list" || Value.type "tuple" == Value.type "tuple") = true by
    rw [show (Value.type "tuple" == Value.type "tuple") = true from rfl, Bool.or_true])]
  refine wpAny_bind (listItems_at ho' hd (wpAny_bind (listItems_at (xs := #[]) (n := 0) (Heap.get?_push_size _ rfl) rfl ?_)))
  rw [if_neg (by simp)]
  refine wpAny_bind (listUpdate_at (xs := #[]) (n := 0) (Heap.get?_push_size _ rfl) rfl ?_ (Nat.zero_le _) (by show (#[] ++ vs.toArray).size ≤ sizeLine + 1; simp; omega))
  refine wpAny_pure ?_
  refine wpAny_bind (wpAny_load (get?_update_seq (Heap.get?_push_size _ rfl) _) ?_)
  show wpAny _ _ (pure ((#[] : Array Value) ++ vs.toArray).toList) Q E _
  rw [show ((#[] : Array Value) ++ vs.toArray).toList = vs by simp]
  exact wpAny_pure (h _ fun b o e => (Heap.get?_update_other _ _ (Nat.ne_of_gt (Heap.lt_size e))).trans (Heap.get?_push_of_some _ e))
/-- sorted(x), by what collect tells of x -/
theorem sorted_by {x : Value} {vs : List Value} {ns : List Int} {Q : Value → Shared → Prop} (hI : IntsAre vs ns) (h64 : vs.length < 64)
    (hcol : ∀ (A : Around) (R : List Value → Shared → Prop), A.handled = none → (∀ vs ns' h' tk, IntsAre vs ns' → ns' = ns → (∀ b o, s.heap.get? b = some o → h'.get? b = some o) → R vs { s with heap := h', toks := tk }) → wpAny (model prog w) A (collect x) R E s)
    (hh : A.handled = none)
    (h : ∀ (h1 h2 : Heap) (tk e : Nat) (out : Array Value) (ns' : List Int), IntsAre out.toList ns' → ns'.Perm ns → ns'.Pairwise (· ≤ ·) → (∀ b o, s.heap.get? b = some o → h1.get? b = some o) → h2.get? h1.objs.size = some (seqObj "list" out e) →
      (∀ b o, h1.get? b = some o → h2.get? b = some o) → Q (.ref h1.objs.size) { s with heap := h2, toks := tk }) :
    wpAny (model prog w) A (call (.builtin "sorted") [x]) Q E s := by
  refine Calls.call_function_entry kind_sorted plain_sorted entry_sorted (args_sorted1 _) ?_
  unfold Builtin.«sorted»
  refine wpAny_bind (m := checkCount "sorted" 1 1 _) (wpAny_pure ?_)
  refine wpAny_bind (hcol _ _ (by simp [hh]) fun vs ms h' tk hI' e hk => ?_)
  subst e
  have hl : vs.length < 64 := by rw [hI'.length, ← hI.length]; exact h64
  refine wpAny_bind (wpAny_newList ?_)
  refine wpAny_bind (wpAny_holding (wpAny_call_entry slot_list_sort ⟨_, Heap.get?_push_size _ rfl, rfl⟩ entry_list_sort (list_sort_tree (Heap.get?_push_size _ rfl) hI' hl fun out ns' a1 a2 a3 => ⟨_, rfl, ?_⟩) (args_list_sort _)))
  obtain ⟨e, he⟩ := sortedHeap_at (out := out) (n := 0) (show (h'.push (seqObj "list" vs.toArray 0)).get? h'.objs.size = some (seqObj "list" vs.toArray 0) from Heap.get?_push_size _ rfl)
  have old : ∀ b o, h'.get? b = some o → (sortedHeap (h'.push (seqObj "list" vs.toArray 0)) h'.objs.size vs out).get? b = some o := fun b o q1 => by
    have q2 := Heap.lt_size q1
    rw [sortedHeap_old (Nat.ne_of_lt q2) (by rw [Heap.size_push]; exact Nat.lt_succ_of_lt q2)]
    exact Heap.get?_push_of_some _ q1
  exact wpAny_pure ⟨_, rfl, h _ _ _ _ out ns' a1 a2 a3 hk he old⟩
end
end L2
namespace L2
open PySem PySem.Spec PyProof.Rows
section
variable {prog : Program} {w : World} {A : Around} {E : Value → Shared → Prop} {s : Shared}
/-- a list of two is unpacked -/
theorem unpack_two {t : Addr} {v u : Value} {targets : List (Bool × (Value → Sem Unit))} {Q : Unit → Shared → Prop} (hh : A.handled = none) (ht : s.heap.IsList t #[v, u])
    (hn : targets.length = 2) (hstar : targets.findIdx? (·.1) = none)
    (h : ∀ h', (∀ b o, s.heap.get? b = some o → h'.get? b = some o) → wpAny (model prog w) A (assignInOrder (targets.map (·.2)) [v, u]) Q E { s with heap := h' }) :
    wpAny (model prog w) A (unpack (.ref t) targets) Q E s := by
  unfold unpack
  rw [hn, hstar]
  refine wpAny_bind (wpAny_holding ?_)
  unfold unpackItems notIterableAtAll
  have hlt : t ≠ s.heap.objs.size := by obtain ⟨o, ho, _⟩ := ht; exact Nat.ne_of_lt (Heap.lt_size ho)
  refine wpAny_bind (wpAny_bind (wpAny_specialOf ht.typeIs F.slot_list_iter.lookup (wpAny_pure ?_)))
  simp only [Bool.false_eq_true, if_false]
  refine wpAny_bind (wpAny_holding (wpAny_pyIter_list ht ?_))
  refine wpAny_bind (wpAny_holding ?_)
  have l0 := ht.push { cls := .type "list_iterator", data := .fields #[.ref t, .int 0 0] }
  show wpAny _ _ (pyNext (.ref s.heap.objs.size) >>= _) _ _ _
  refine wpAny_bind (wpAny_pyNext_list_item (i := 0) (x := v) ⟨_, Heap.get?_push_size _ rfl, rfl, rfl⟩ l0 rfl fun h1 i1 s1 => ?_)
  have l1 := l0.extBut s1.extBut hlt
  refine wpAny_bind (wpAny_holding ?_)
  show wpAny _ _ (pyNext (.ref s.heap.objs.size) >>= _) _ _ _
  refine wpAny_bind (wpAny_pyNext_list_item (i := 1) (x := u) i1 l1 rfl fun h2 i2 s2 => ?_)
  have l2 := l1.extBut s2.extBut hlt
  refine wpAny_bind (wpAny_holding (wpAny_pure (wpAny_pure (wpAny_pure ?_))))
  rw [if_neg (by simp)]
  refine wpAny_bind (wpAny_holding (wpAny_pyNext_list_end hh i2 l2 rfl fun h3 e3 => ?_))
  simp only [Option.isSome_none, Bool.false_eq_true, if_false]
  refine wpAny_pure (h h3 fun b o e => ?_)
  have hb := Nat.ne_of_lt (Heap.lt_size e)
  exact e3 b o hb (s2.extBut b o hb (s1.extBut b o hb (Heap.get?_push_of_some _ e)))
end
end L2
namespace L2
open PySem PySem.Spec PyProof.Rows

section
variable {X : Cx} {pins : List (Addr × Obj)} {σ : St} {H : Hp} {s : Shared}
/-- records of ours at fp have turned, a new object T is laid and tracked -/
theorem Inv.turnLaid {fp : List Addr} {T : Addr} {o : HO} {h' : Heap} {t' : Nat} (I : Inv X pins σ H s) (hf : ∀ b ∈ fp, FpOk X pins H b) (hT : s.heap.objs.size ≤ T)
    (k : ∀ b ob, b ∉ fp → s.heap.get? b = some ob → h'.get? b = some ob) (new : ObjOk X.prog X.w (upd H T o) h' T o) : Inv X pins σ (upd H T o) { s with heap := h', toks := t' } := by
  have hn : H T = none := I.hok.fresh hT
  have neT : ∀ b ob, s.heap.get? b = some ob → b ≠ T := fun b ob e => Nat.ne_of_lt (Nat.lt_of_lt_of_le (Heap.lt_size e) hT)
  have nfp : ∀ b u, H b = some u → b ∉ fp := fun b u e hb => by rw [(hf b hb).1] at e; cases e
  refine I.step (g' := s.gens) (d' := s.drawn) (ch := fp) (fun b hb => ⟨(hf b hb).2.2.2.1, (hf b hb).2.1, (hf b hb).2.2.2.2.1, (hf b hb).2.2.2.2.2⟩) (fun b ob _ _ hc e _ => k b ob hc e) (fun b ob _ _ hc e _ => ⟨ob.slots, k b ob hc e⟩)
    (fun b ob _ e n => by rw [upd_ne (neT b ob e)]; exact n) (fun b ob hc e => ⟨ob, k b ob hc e⟩) (fun b xs e => by rw [upd_ne (ne_of_none e hn)]; exact e) (fun b ob u e => by rw [upd_ne (ne_of_none e hn)]; exact e)
    (fun b ps e => ⟨#[], by rw [upd_ne (ne_of_none e hn), e]; simp⟩) (fun m hm => ?_) (fun b u e => ?_) I.bare
  · obtain ⟨ob, es, ep, ho, r⟩ := hm
    exact ⟨ob, es, ep, k _ ob (fun hb => (hf _ hb).2.1 rfl) ho, r⟩
  · by_cases hb : b = T
    · subst hb; rw [upd_same] at e; cases e; exact new
    · rw [upd_ne hb] at e
      refine (I.hok b u e).stay (fun c v hc q => k c v ?_ q) (fun c q => by rw [upd_ne (ne_of_none q hn)]; exact q) fun c xs q => by rw [upd_ne (ne_of_none q hn)]; exact q
      rcases hc with z | z
      · rw [z]; exact nfp b u e
      · exact nfp c _ z
/-- records of ours at fp have turned -/
theorem Inv.turnedL {fp : List Addr} {h' : Heap} {t' : Nat} (I : Inv X pins σ H s) (hf : ∀ b ∈ fp, FpOk X pins H b) (k : ∀ b ob, b ∉ fp → s.heap.get? b = some ob → h'.get? b = some ob) : Inv X pins σ H { s with heap := h', toks := t' } := by
  have nfp : ∀ b u, H b = some u → b ∉ fp := fun b u e hb => by rw [(hf b hb).1] at e; cases e
  refine I.step (g' := s.gens) (d' := s.drawn) (ch := fp) (fun b hb => ⟨(hf b hb).2.2.2.1, (hf b hb).2.1, (hf b hb).2.2.2.2.1, (hf b hb).2.2.2.2.2⟩) (fun b ob _ _ hc e _ => k b ob hc e) (fun b ob _ _ hc e _ => ⟨ob.slots, k b ob hc e⟩)
    (fun _ _ _ _ n => n) (fun b ob hc e => ⟨ob, k b ob hc e⟩) (fun _ _ e => e) (fun _ _ _ e => e) (fun b ps e => ⟨#[], by rw [e]; simp⟩) (fun m hm => ?_) (fun b u e => ?_) I.bare
  · obtain ⟨ob, es, ep, ho, r⟩ := hm
    exact ⟨ob, es, ep, k _ ob (fun hb => (hf _ hb).2.1 rfl) ho, r⟩
  · refine (I.hok b u e).stay (fun c v hc q => k c v ?_ q) (fun _ q => q) fun _ _ q => q
    rcases hc with z | z
    · rw [z]; exact nfp b u e
    · exact nfp c _ z
end

/-- enumerate's own pair: a tuple, nothing said of a dict -/
def tupE (T : Addr) (xs : List V) : HO := .ext fun h => xs.length ≤ sizeLine ∧ ∃ its : List Value, Vals xs its ∧ IsTup h T its.toArray
theorem tupE_ok {P : Program} {w : World} {H : Hp} {h : Heap} {T : Addr} {xs : List V} (q : xs.length ≤ sizeLine ∧ ∃ its : List Value, Vals xs its ∧ IsTup h T its.toArray) : ObjOk P w H h T (tupE T xs) := by
  obtain ⟨z, its, r, o, e, c⟩ := id q
  exact ⟨q, ⟨o, e⟩, fun h1 h2 ⟨z', its', r', o', e', c'⟩ k => ⟨z', its', r', o', k _ e', c'⟩⟩
def gTupE (n : Nat) (t : TGs) : TG := fun v σ H Q => ∃ a xs, v = .ref a ∧ H a = some (tupE a xs) ∧ xs.length = n ∧ t xs σ H Q
theorem pg_tupE {es : List Expr} {k : Nat} {t : TGs} {n : Nat} {pos : Pos} (hc : X.calm = true) (h : PGs X es t)
    (hn : (assignEach es X.env).length = n := by rfl) (hst : (assignEach es X.env).findIdx? (·.1) = none := by rfl) : PG X (.Tuple es k pos) (gTupE n t) := by
  intro pins s σ H v u Q I r hw
  obtain ⟨a, xs, e1, hq, hl, hw⟩ := hw
  subst e1
  cases r
  obtain ⟨⟨hz, its, rv, ht⟩, _⟩ := I.hok a _ hq
  refine assign_Tuple_tuple (I.ok.hd hc) ht (by simp [hn, ← hl, rv.length]) hst fun h' hx => ?_
  have I1 : Inv X pins σ H { s with heap := h' } := I.kept (t' := s.toks) fun b o e => hx b o (Nat.ne_of_lt (Heap.lt_size e)) e
  exact h pins _ σ H xs _ Q I1 (by simpa using rv) hw
def Iten (sq : Hp → List V → Prop) : It :=
  ⟨fun i H => ∃ xs x, sq H xs ∧ xs[i]? = some x, fun i H x H' => ∃ T y, H T = none ∧ x = .ref T ∧ (∀ xs, sq H xs → xs[i]? = some y) ∧ H' = upd H T (tupE T [.int (i : Int), y]), fun i H => ∃ xs, sq H xs ∧ xs.length = i⟩

theorem ne_cls {h : Heap} {a b : Addr} {o u : Obj} (h1 : h.get? a = some o) (h2 : h.get? b = some u) (d : o.cls ≠ u.cls) : a ≠ b := by
  intro e; subst e; rw [h1] at h2; cases h2; exact d rfl

theorem turn_enum {P : Program} {w : World} {K : PySem.W.Frag} {elts : List Expr} {k : Nat} {pos : Pos} (sq : Hp → List V → Prop) (isq : Heap → Array Value → Prop) (isit : Nat → Heap → Prop) (e it : Addr)
    (obj : ∀ i h, isit i h → ∃ o, h.get? it = some o ∧ ∀ v, o.data ≠ .cell v) (keep : ∀ i h h', isit i h → (∀ o, h.get? it = some o → h'.get? it = some o) → isit i h')
    (rd : ∀ (X : Cx) (pins : List (Addr × Obj)) (σ : St) (H : Hp) (s : Shared) (xs : List V), X.K = K → Inv X pins σ H s → sq H xs → (∃ its : List Value, Vals xs its ∧ isq s.heap its.toArray) ∧ ∀ ys, sq H ys → ys = xs)
    (W : ∀ (A : Around) (items : Array Value) (h : Heap) (i : Nat), A.handled = none → isq h items → isit i h → (∃ old, IsEnum h e it i old) → ∃ fp Mid, WalksT P w A e fp [e, it] items.size (fun i vals => ∃ t x, items[i]? = some x ∧ vals = #[.int (i : Int) t, x])
      (fun i h => (∃ old, IsEnum h e it i old) ∧ isit i h ∧ isq h items) Mid) :
    Turn P w K (.Tuple elts k pos) (Iten sq) [e, it] e (fun i h => (∃ old, IsEnum h e it i old) ∧ isit i h) where
  mem := by simp
  obj := fun i h st b hb => by
    obtain ⟨⟨old, he⟩, q⟩ := st
    rcases List.mem_cons.mp hb with rfl | hb
    · exact ⟨_, he, fun v z => nomatch z⟩
    · rw [List.mem_singleton.mp hb]; exact obj i h q
  keep := fun i h h' st kp => ⟨let ⟨old, he⟩ := st.1; ⟨old, kp e (by simp) _ he⟩, keep i h h' st.2 fun o q => kp it (by simp) o q⟩
  item := by
    intro X hP hw hK hc i pins s σ H E I hf st hg
    subst hP hw
    obtain ⟨xs, x, hq, hx⟩ := hg
    obtain ⟨⟨its, rv, hL⟩, inj⟩ := rd X pins σ H s xs hK I hq
    obtain ⟨old, he⟩ := id st.1
    obtain ⟨oi, hoi, _⟩ := obj _ _ st.2
    have hlt : i < its.toArray.size := by
      have := (List.getElem?_eq_some_iff.mp hx).1
      rw [rv.length] at this; simpa using this
    obtain ⟨fp, Mid, W⟩ := W X.A its.toArray s.heap i (I.ok.hd hc) hL st.2 st.1
    refine W.item i s _ E hlt ⟨st.1, st.2, hL⟩ fun T vals h' tk hPt hT htup hMid hk => ⟨.ref T, rfl, ?_⟩
    refine W.go elts k pos i T _ _ E hMid fun h'' hSt hk2 => ?_
    obtain ⟨t, y', hy', rfl⟩ := hPt
    obtain ⟨u, hu, ry⟩ := rv.get hx
    have e1 : y' = u := by
      have : its[i]? = some y' := by simpa using hy'
      rw [hu] at this; exact (Option.some.inj this).symm
    subst e1
    have htup2 : IsTup h'' T #[.int (i : Int) t, y'] := by
      obtain ⟨o, q1, q2⟩ := htup
      exact ⟨o, hk2 T o (W.apart _ _ _ hMid) q1, q2⟩
    refine ⟨.ref T, upd H T (tupE T [.int (i : Int), x]), ?_, rfl, ⟨T, x, I.hok.fresh hT, rfl, fun zs hzs => by rw [inj zs hzs]; exact hx, rfl⟩, ⟨hSt.1, hSt.2.1⟩, fun b hb => ?_⟩
    · exact I.turnLaid (s := s) (h' := h'') (t' := tk) hf hT (fun b ob hb q => hk2 b ob hb (hk b ob hb q)) (tupE_ok ⟨by show 2 ≤ sizeLine; decide, [.int (i : Int) t, y'], .cons ⟨t, rfl⟩ (.cons ry .nil), htup2⟩)
    · have hbT : b ≠ T := fun z => by
        have : b < s.heap.objs.size := by
          rcases List.mem_cons.mp hb with rfl | hb
          · exact Heap.lt_size he
          · rw [List.mem_singleton.mp hb]; exact Heap.lt_size hoi
        exact absurd (Nat.lt_of_lt_of_le this hT) (by rw [z]; exact Nat.lt_irrefl _)
      rw [upd_ne hbT]; exact (hf b hb).1
  done := by
    intro X hP hw hK hc i pins s σ H E I hf st hs
    subst hP hw
    obtain ⟨xs, hq, hle⟩ := hs
    obtain ⟨⟨its, rv, hL⟩, inj⟩ := rd X pins σ H s xs hK I hq
    obtain ⟨fp, Mid, W⟩ := W X.A its.toArray s.heap i (I.ok.hd hc) hL st.2 st.1
    have hi : i = its.toArray.size := by rw [← hle, rv.length]; simp
    refine W.done s _ E (by rw [← hi]; exact ⟨st.1, st.2, hL⟩) fun h' tk hk => ⟨rfl, ?_⟩
    exact I.turnedL hf hk
  self := fun A i s Q E st h => by obtain ⟨⟨old, he⟩, _⟩ := st; exact wpAny_pyIter_enum he h

section
variable {X : Cx} {elts : List Expr} {k : Nat} {tpos : Pos}
def iEnumL (K : PySem.W.Frag) (ta : TA) : TI := fun σ H R => ta σ H fun vs H1 => ∃ a, vs = [.ref a] ∧ (∃ xs, SqL K H1 a xs) ∧ R (Iten fun H xs => SqL K H a xs) H1
def iEnumT (K : PySem.W.Frag) (ta : TA) : TI := fun σ H R => ta σ H fun vs H1 => ∃ a, vs = [.ref a] ∧ (∃ xs, SqT K H1 a xs) ∧ R (Iten fun H xs => SqT K H a xs) H1
theorem boot_enum : bootBuiltins "enumerate" = some (.type "enumerate") := by decide +kernel
theorem pi_enumL {l : Expr} {ta : TA} {p pos : Pos} (hg : Gl X "enumerate") (hm : X.mg "enumerate" = none) (ha : PA X [l] ta) (hs : starEach [l] X.env = [(false, eval l X.env)] := by rfl) :
    PI X (.Tuple elts k tpos) (.Call (.Name "enumerate" p) [l] [] pos) (iEnumL X.K ta) := by
  intro pins s σ H R I h
  refine Call_ (ld_blt I hg hm boot_enum (PyProof.Rows.callWith_type1 (thn (ha pos pins s σ H _ I h) fun us s1 ⟨vs, H1, I1, r1, q1⟩ => ?_) hs rfl))
  obtain ⟨a, rfl, ⟨xs, hq⟩, q⟩ := q1
  obtain ⟨u, rfl, ru⟩ := vals1 r1
  obtain rfl : u = Value.ref a := ru
  obtain ⟨its, rv, p, hz⟩ := I1.list hq
  have ha : a < s1.heap.objs.size := by obtain ⟨o, ho, _⟩ := p.isList; exact Heap.lt_size ho
  refine call_enumerate_list p.isList fun h' he hit hsz hk => ?_
  refine wpAny_pyIter_enum he ?_
  have I2 : Inv X pins σ H1 { s1 with heap := h' } := I1.kept (t' := s1.toks) hk
  refine ⟨s1.heap.objs.size + 1, [s1.heap.objs.size + 1, s1.heap.objs.size], _, _, H1, rfl, I2, turn_enum (fun H xs => SqL X.K H a xs) (fun h its => h.IsList a its) (fun i h => h.IsListIter s1.heap.objs.size a i) (s1.heap.objs.size + 1) s1.heap.objs.size ?_ ?_ ?_ ?_, ⟨⟨_, he⟩, hit⟩, fun b hb => ?_, q⟩
  · rintro i h ⟨o, q1, q2, q3⟩
    exact ⟨o, q1, fun v z => by rw [q3] at z; cases z⟩
  · intro i h h' st kp
    exact st.at kp
  · intro X' pins' σ' H' s' ys hK I' hq'
    rw [← hK] at hq'
    obtain ⟨its', rv', p', _⟩ := I'.list hq'
    exact ⟨⟨its', rv', p'.isList⟩, fun zs hz => I'.list_inj (by rw [hK]; exact hz) hq'⟩
  · intro A items h i hh hL hI hE
    obtain ⟨old, hE⟩ := hE
    obtain ⟨ol, hol, hcl, _⟩ := id hL
    obtain ⟨oi, hoi, hci, _⟩ := id hI
    exact ⟨_, _, WalksT.enumerate hh _ _ a (Nat.succ_ne_self _) (ne_cls hol hE (by rw [hcl]; show Value.type "list" ≠ Value.type "enumerate"; decide)) (ne_cls hol hoi (by rw [hcl, hci]; decide)) items⟩
  · rcases List.mem_cons.mp hb with rfl | hb
    · exact I1.fpOk (Nat.le_succ _) (I1.hok.fresh (Nat.le_succ _))
    · rw [List.mem_singleton.mp hb]; exact I1.fpOk (Nat.le_refl _) (I1.hok.fresh (Nat.le_refl _))
theorem pi_enumT {l : Expr} {ta : TA} {p pos : Pos} (hg : Gl X "enumerate") (hm : X.mg "enumerate" = none) (ha : PA X [l] ta) (hs : starEach [l] X.env = [(false, eval l X.env)] := by rfl) :
    PI X (.Tuple elts k tpos) (.Call (.Name "enumerate" p) [l] [] pos) (iEnumT X.K ta) := by
  intro pins s σ H R I h
  refine Call_ (ld_blt I hg hm boot_enum (PyProof.Rows.callWith_type1 (thn (ha pos pins s σ H _ I h) fun us s1 ⟨vs, H1, I1, r1, q1⟩ => ?_) hs rfl))
  obtain ⟨a, rfl, ⟨xs, hq⟩, q⟩ := q1
  obtain ⟨u, rfl, ru⟩ := vals1 r1
  obtain rfl : u = Value.ref a := ru
  obtain ⟨its, rv, p, hz⟩ := I1.tuple hq
  refine call_enumerate_tuple (show s1.heap.IsTuple a its.toArray from p) fun h' he hit hsz hk => ?_
  refine wpAny_pyIter_enum he ?_
  have I2 : Inv X pins σ H1 { s1 with heap := h' } := I1.kept (t' := s1.toks) hk
  refine ⟨s1.heap.objs.size + 1, [s1.heap.objs.size + 1, s1.heap.objs.size], _, _, H1, rfl, I2, turn_enum (fun H xs => SqT X.K H a xs) (fun h its => h.IsTuple a its) (fun i h => h.IsTupleIter s1.heap.objs.size a i) (s1.heap.objs.size + 1) s1.heap.objs.size ?_ ?_ ?_ ?_, ⟨⟨_, he⟩, hit⟩, fun b hb => ?_, q⟩
  · rintro i h ⟨o, q1, q2, q3⟩
    exact ⟨o, q1, fun v z => by rw [q3] at z; cases z⟩
  · rintro i h h' ⟨o, q1, q2⟩ kp
    exact ⟨o, kp o q1, q2⟩
  · intro X' pins' σ' H' s' ys hK I' hq'
    rw [← hK] at hq'
    obtain ⟨its', rv', p', _⟩ := I'.tuple hq'
    exact ⟨⟨its', rv', p'⟩, fun zs hz => I'.tuple_inj (by rw [hK]; exact hz) hq'⟩
  · intro A items h i hh hL hI hE
    obtain ⟨old, hE⟩ := hE
    obtain ⟨ol, hol, hcl, _⟩ := id hL
    obtain ⟨oi, hoi, hci, _⟩ := id hI
    have hne : a ≠ s1.heap.objs.size := ne_cls hol hoi (by rw [hcl, hci]; decide)
    have hne2 : a ≠ s1.heap.objs.size + 1 := ne_cls hol hE (by rw [hcl]; show Value.type "tuple" ≠ Value.type "enumerate"; decide)
    exact ⟨_, _, WalksT.enumerateD (Draws_tuple (A := A.in1) hh s1.heap.objs.size a hne items) (s1.heap.objs.size + 1) (Nat.succ_ne_self _) (fun hm => (List.mem_cons.mp hm).elim (Nat.succ_ne_self _) fun hm => hne2 (List.mem_singleton.mp hm).symm) (by simp)⟩
  · rcases List.mem_cons.mp hb with rfl | hb
    · exact I1.fpOk (Nat.le_succ _) (I1.hok.fresh (Nat.le_succ _))
    · rw [List.mem_singleton.mp hb]; exact I1.fpOk (Nat.le_refl _) (I1.hok.fresh (Nat.le_refl _))
end
end L2
namespace L2
open PySem PySem.Spec PyProof.Rows

def Itd (a : Addr) (kvs : List (Key × V)) (o : Obj) : It :=
  ⟨fun i H => H a = some (.frz o (.dK kvs)) ∧ ∃ kv, kvs[i]? = some kv, fun i H x H' => ∃ T k v, H T = none ∧ x = .ref T ∧ kvs[i]? = some (k, v) ∧ H' = upd H T (.tup [kV k, v]), fun i H => H a = some (.frz o (.dK kvs)) ∧ kvs.length ≤ i⟩

theorem KV.get {kvs : List (Key × V)} {vs : List (Key × Value)} (r : KV kvs vs) : ∀ {i : Nat} {k : Key} {v : V}, kvs[i]? = some (k, v) → ∃ u, vs[i]? = some (k, u) ∧ RelV v u := by
  unfold KV at r
  induction r with
  | nil => intro i k v e; simp at e
  | @cons p q ps qs h t ih =>
    intro i k v e
    cases i with
    | zero =>
      simp at e
      subst e
      obtain ⟨q1, q2⟩ := q
      obtain ⟨h1, h2⟩ := h
      have h1 : k = q1 := h1
      subst h1
      exact ⟨q2, rfl, h2⟩
    | succ i => simpa using ih (by simpa using e)
theorem rel_of_kind {P : Program} {w : World} {k : Key} {u : Value} (h : (mixKind P w).is k u = true) : RelV (kV k) u := by
  rcases keyIs_shape (show keyIs k u = true from h) with ⟨i, t, rfl, rfl⟩ | ⟨x, t, rfl, rfl⟩
  · exact ⟨t, rfl⟩
  · exact ⟨t, rfl⟩
/-- a frozen dict, with its epoch -/
theorem frz_at {X : Cx} {pins : List (Addr × Obj)} {σ : St} {H : Hp} {s : Shared} {a : Addr} {o : Obj} {es : Array DictEntry} {ep : Nat} {kvs : List (Key × V)} (I : Inv X pins σ H s) (h : H a = some (.frz o (.dK kvs))) (hd : o.data = .dict es ep) :
    ∃ vs, KV kvs vs ∧ s.heap.DictAt (mixKind X.prog X.w) a vs ep ∧ s.heap.get? a = some o := by
  obtain ⟨h1, z, hs, vs, rv, o', es', ep', e, r⟩ := (show ObjOk X.prog X.w H s.heap a (.frz o (.dK kvs)) from I.hok a _ h)
  rw [h1] at e; cases e
  obtain ⟨r1, r2, r3⟩ := r
  rw [hd] at r2; cases r2
  exact ⟨vs, rv, ⟨o, es, h1, r1, hd, r3⟩, h1⟩

theorem turn_items {P : Program} {w : World} {K : PySem.W.Frag} {elts : List Expr} {k : Nat} {pos : Pos} (a it : Addr) (o : Obj) (es : Array DictEntry) (ep : Nat) (kvs : List (Key × V)) (hd : o.data = .dict es ep) :
    Turn P w K (.Tuple elts k pos) (Itd a kvs o) [it] it (fun i h => ∃ ok ov, IsItemIter h it a i kvs.length ep ok ov) where
  mem := by simp
  obj := fun i h st b hb => by
    obtain ⟨ok, ov, he⟩ := st
    rw [List.mem_singleton.mp hb]
    exact ⟨_, he, fun v z => nomatch z⟩
  keep := fun i h h' ⟨ok, ov, he⟩ kp => ⟨ok, ov, kp it (by simp) _ he⟩
  item := by
    intro X hP hw hK hc i pins s σ H E I hf st hg
    subst hP hw
    obtain ⟨hz, ⟨kk, v⟩, hx⟩ := hg
    obtain ⟨vs, rv, dd, ha⟩ := frz_at I hz hd
    obtain ⟨ok, ov, hit⟩ := st
    obtain ⟨u, hu, ru⟩ := rv.get hx
    have hl : kvs.length = vs.length := rv.length
    rw [hl] at hit
    refine wpAny_pyNext_items_item hit dd hu fun key h' hkey hout htup hsz hk => ⟨.ref s.heap.objs.size, rfl, ?_⟩
    refine wpAny_letOwnedTupleGo_items hout fun h'' hit'' hs'' => ?_
    have hitlt : it < s.heap.objs.size := Heap.lt_size hit
    have hne : s.heap.objs.size ≠ it := Nat.ne_of_gt hitlt
    refine ⟨.ref s.heap.objs.size, upd H s.heap.objs.size (.tup [kV kk, v]), ?_, rfl, ⟨_, kk, v, I.hok.fresh (Nat.le_refl _), rfl, hx, rfl⟩, ⟨key, u, by rw [hl]; exact hit''⟩, fun b hb => ?_⟩
    · refine I.turnLaid (s := s) (h' := h'') (t' := s.toks) hf (Nat.le_refl _) (fun b ob hb q => ?_) ⟨⟨by show 2 ≤ sizeLine; decide, _, (hs''.2 _ hne).trans htup, rfl⟩, [key, u], .cons (rel_of_kind hkey) (.cons ru .nil), ⟨_, (hs''.2 _ hne).trans htup, rfl, _, rfl⟩⟩
      have hbi : b ≠ it := fun z => hb (by simp [z])
      exact (hs''.2 b hbi).trans (hk b ob hbi q)
    · rw [List.mem_singleton.mp hb, upd_ne (Ne.symm hne)]
      exact (hf it (by simp)).1
  done := by
    intro X hP hw hK hc i pins s σ H E I hf st hs
    subst hP hw
    obtain ⟨hz, hle⟩ := hs
    obtain ⟨vs, rv, dd, ha⟩ := frz_at I hz hd
    obtain ⟨ok, ov, hit⟩ := st
    have hl : kvs.length = vs.length := rv.length
    rw [hl] at hit
    refine wpAny_pyNext_items_end (I.ok.hd hc) hit dd (List.getElem?_eq_none (by omega)) fun h' hk => ⟨rfl, ?_⟩
    exact I.turnedL (t' := s.toks) hf fun b ob hb q => hk b ob (fun z => hb (by simp [z])) q
  self := fun A i s Q E ⟨ok, ov, he⟩ h => PySem.W.kcp_self he h

section
variable {X : Cx} {elts : List Expr} {k : Nat} {tpos : Pos}
/-- a tracked dict becomes a frozen one -/
theorem Inv.freeze {pins : List (Addr × Obj)} {σ : St} {H : Hp} {s : Shared} {a : Addr} {kvs : List (Key × V)} (I : Inv X pins σ H s) (h : H a = some (.dK kvs)) :
    ∃ o es ep, o.data = .dict es ep ∧ Inv X pins σ (upd H a (.frz o (.dK kvs))) s := by
  obtain ⟨z, hs, vs, rv, o, es, ep, e, r1, r2, r3⟩ := (show ObjOk X.prog X.w H s.heap a (.dK kvs) from I.hok a _ h)
  refine ⟨o, es, ep, r2, ?_⟩
  have := I.write (x := a) (e := a) (o := .frz o (.dK kvs)) (h' := s.heap) (t' := s.toks) (by rw [h]; exact True.intro) (.inl rfl) (fun _ _ _ q => q) ⟨o, e⟩ ⟨e, z, hs, vs, rv, o, es, ep, e, r1, r2, r3⟩
  exact this
def iItems (tl : TE) : TI := fun σ H R => tl σ H fun x H1 => ∃ a kvs, x = .ref a ∧ Rd H1 a (.dK kvs) ∧ ∀ o H2, H2 a = some (.frz o (.dK kvs)) → (∀ b, b ≠ a → H2 b = H1 b) → R (Itd a kvs o) H2
theorem pi_items {d : Expr} {tl : TE} {apos cpos : Pos} (hl : PE X d tl) (hb : attributeBase d "items" X.env (eval d X.env) = eval d X.env := by rfl) (hline : (apos.endLine == cpos.line) = true := by rfl) :
    PI X (.Tuple elts k tpos) (.Call (.Attribute d "items" apos) [] [] cpos) (iItems tl) := by
  intro pins s σ H R I h
  have fin : ∀ {s1 : Shared} {H1 : Hp} {a : Addr} {kvs : List (Key × V)} {o : Obj} {es : Array DictEntry} {ep : Nat}, Inv X pins σ H1 s1 → H1 a = some (.frz o (.dK kvs)) → o.data = .dict es ep → R (Itd a kvs o) H1 →
      s1.TypeIs (.ref a) "dict" ∧ (∀ b, Value.ref a = .ref b → ∃ ob, s1.heap.get? b = some ob ∧ ob.dict = none) ∧
      wpAny (model X.prog X.w) X.A (callWith cpos (.builtin "dict.items") [.ref a] [] []) (fun v s1 => wpAny (model X.prog X.w) X.A (pyIter v) (PIE X pins σ (.Tuple elts k tpos) R) X.xe s1) X.xe s1 := by
    intro s1 H1 a kvs o es ep I1 hz hd q
    obtain ⟨vs, rv, dd, ha⟩ := frz_at I1 hz hd
    have hS : (a == sysModules) = false := by
      obtain ⟨_, _, hs, _⟩ := (show ObjOk X.prog X.w H1 s1.heap a (.frz o (.dK kvs)) from I1.hok a _ hz)
      exact hs
    have dd' := dd.dictOf
    refine ⟨dd'.typeIs, dd'.mapOf.noDict, ?_⟩
    refine method_meetsIn F.slot_dict_items F.entry_dict_items rfl (PySem.evalArgs_none ⟨rfl, dd'.typeIs, F.args_dict_items_1 _, _, meets_dict_items (mixKind X.prog X.w) a hS, ⟨vs, dd'⟩, ?_⟩)
    refine wpAny_pyIter_items (knd := mixKind X.prog X.w) (kvs := vs) (ep := ep) ⟨_, Heap.get?_push_size _ rfl, rfl, rfl⟩ (dd.push _) ?_
    have I2 := (I1.kept (h' := s1.heap.push { cls := .type "dict_items", data := .fields #[.ref a] }) (t' := s1.toks) fun b o e => Heap.get?_push_of_some _ e)
    have I3 := (I2.kept (h' := (s1.heap.push { cls := .type "dict_items", data := .fields #[.ref a] }).push { cls := .type "dict_itemiterator", data := .fields #[.none, .bool false, .ref a, .int 0 0, .int vs.length 0, .int ep 0, .none, .none] }) (t' := s1.toks) fun b o e => Heap.get?_push_of_some _ e)
    refine ⟨_, [_], _, _, H1, rfl, I3, turn_items a _ o es ep kvs hd, ⟨.none, .none, ?_⟩, fun b hb => ?_, q⟩
    · have hlen : kvs.length = vs.length := rv.length
      rw [hlen]
      exact Heap.get?_push_size _ rfl
    · rw [List.mem_singleton.mp hb]
      exact I2.fpOk (Nat.le_refl _) (I2.hok.fresh (Nat.le_refl _))
  refine wpAny_Call_method (T := "dict") (id := "dict.items") hb rfl hline F.plainAttrs_dict F.slot_dict_items F.type_dict_items (thn (hl pins s σ H _ I h) fun v s1 ⟨x, H1, I1, r1, a, kvs, e, rd, q⟩ => ?_)
  subst e
  obtain rfl : v = Value.ref a := r1
  rcases rd with hz | ⟨o, hz⟩
  · obtain ⟨o, es, ep, hd, I2⟩ := I1.freeze hz
    exact fin I2 upd_same hd (q o _ upd_same fun b hb => upd_ne hb)
  · obtain ⟨h1, z, hs, vs, rv, o', es, ep, e, r1, r2, r3⟩ := (show ObjOk X.prog X.w H1 s1.heap a (.frz o (.dK kvs)) from I1.hok a _ hz)
    rw [h1] at e; cases e
    exact fin I1 hz r2 (q o _ hz fun _ _ => rfl)
end

section
variable {X : Cx}
theorem call_all_bools (hc : X.calm = true) : CallR X (.builtin "all") (fun xs H Q => ∃ (p : Addr) (bs : List Bool), xs = [.ref p] ∧ SqL X.K H p (bs.map V.bl) ∧ Q (.bl (bs.all id)) H) := by
  intro pins s σ H xs us Q I r h
  obtain ⟨p, bs, rfl, hq, q⟩ := h
  obtain ⟨u, rfl, ru⟩ := vals1 r
  obtain rfl : u = Value.ref p := ru
  obtain ⟨its, rv, pl, hz⟩ := I.list hq
  have hL := pl.isList
  have hlt : p < s.heap.objs.size := by obtain ⟨o, ho, _⟩ := id hL; exact Heap.lt_size ho
  have hlen : its.length = bs.length := by rw [← rv.length]; simp
  refine call_all_walkS (wpAny_pyIter_list hL ⟨s.heap.objs.size, _, _, _, its.toArray.size, _, _, fun i => bs.getD i true, rfl, (Walks.list (A := X.A.in1) (I.ok.hd hc) s.heap.objs.size p (Nat.ne_of_lt hlt) its.toArray).toS, ⟨⟨_, Heap.get?_push_size _ rfl, rfl, rfl⟩, hL.push _⟩, ?_, fun s' hm => ?_⟩)
  · intro i v s2 Q2 E2 hP hQ
    have hv : its[i]? = some v := by simpa using hP
    have hi : i < bs.length := by rw [← hlen]; exact (List.getElem?_eq_some_iff.mp hv).1
    have hb : (bs.map V.bl)[i]? = some (.bl bs[i]) := by simp [hi]
    obtain ⟨u, hu, ru⟩ := rv.get hb
    rw [hv] at hu; cases hu
    obtain rfl : v = Value.bool bs[i] := ru
    have e : bs.getD i true = bs[i] := by simp [List.getD_eq_getElem?_getD, hi]
    simp only [e] at hQ
    exact wpAny_truthy_bool hQ
  · rw [Moved.eq_with hm]
    refine ⟨.bl _, H, I.kept (h' := s'.heap) (t' := s'.toks) fun b o e => hm.heap b o (fun z => ?_) (Heap.get?_push_of_some _ e), rfl, ?_⟩
    · exact absurd (Heap.lt_size e) (by rw [List.mem_singleton.mp z]; exact Nat.lt_irrefl _)
    · have e : (List.range its.toArray.size).all (fun i => bs.getD i true) = bs.all id := by
        have : its.toArray.size = bs.length := by simpa using hlen
        rw [this]
        apply Bool.eq_iff_iff.mpr
        simp only [List.all_eq_true, List.mem_range, id]
        constructor
        · intro h b hb
          obtain ⟨i, hi, rfl⟩ := List.mem_iff_getElem.mp hb
          have := h i hi
          simpa [List.getD_eq_getElem?_getD, hi] using this
        · intro h i hi
          have := h bs[i] (List.getElem_mem hi)
          simpa [List.getD_eq_getElem?_getD, hi] using this
      rw [e]; exact q
theorem call_range1 : CallR X (.type "range") (fun xs H Q => ∃ j : Int, xs = [.int j] ∧ ∀ r, H r = none → Q (.ref r) (upd H r (.rng 0 j))) := by
  intro pins s σ H xs us Q I r h
  obtain ⟨j, rfl, q⟩ := h
  obtain ⟨u, rfl, t, rfl⟩ := vals1 r
  refine call_range_1 ⟨.ref s.heap.objs.size, _, I.laid (a := s.heap.objs.size) (o := .rng 0 j) (fun _ _ e => Heap.get?_push_of_some _ e) (Nat.le_refl _) ⟨_, _, _, Heap.get?_push_size _ rfl⟩, rfl, q _ (I.hok.fresh (Nat.le_refl _))⟩
theorem call_list_rng (hc : X.calm = true) : CallR X (.type "list") (fun xs H Q => ∃ (r : Addr) (n : Nat), xs = [.ref r] ∧ H r = some (.rng 0 (n : Int)) ∧ n ≤ 1000 ∧ ∀ l, H l = none → Q (.ref l) (upd H l (.lst (nv (List.range n))))) := by
  intro pins s σ H xs us Q I r h
  obtain ⟨a, n, rfl, ha, hn, q⟩ := h
  obtain ⟨u, rfl, ru⟩ := vals1 r
  obtain rfl : u = Value.ref a := ru
  obtain ⟨t, u', v', e⟩ := (show ObjOk X.prog X.w H s.heap a (.rng 0 (n : Int)) from I.hok a _ ha)
  refine call_list_range (n := n) (I.ok.hd hc) (show IsRange s.heap a 0 (n : Int) 1 t u' v' from e) (small_one (by decide) (by decide) (by omega) (by omega)) (by rw [rangeSize_one]; split <;> omega) (by omega) fun h' tk acc c hk hacc hI => ?_
  refine ⟨.ref s.heap.objs.size, _, I.laid (a := s.heap.objs.size) (o := .lst (nv (List.range n))) (h' := h') (t' := tk) hk (Nat.le_refl _) ⟨?_, acc.toList, c, ?_, by simpa using hacc⟩, rfl, q _ (I.hok.fresh (Nat.le_refl _))⟩
  · rw [nv_len, List.length_range]; exact Nat.le_of_lt (small1000 hn)
  · obtain ⟨hsz, hi⟩ := hI
    have key : ∀ (m : Nat) (l : List Value), l.length = m → (∀ (j : Nat) (v : Value), l[j]? = some v → ∃ t, v = Value.int ((0 : Int) + (j : Nat) * 1) t) → Vals (nv (List.range m)) l := by
      intro m
      induction m with
      | zero => intro l hl _; rw [List.length_eq_zero_iff.mp hl]; exact .nil
      | succ m ih =>
        intro l hl hv
        have hne : l ≠ [] := by intro e; rw [e] at hl; simp at hl
        rw [← List.dropLast_concat_getLast hne, List.range_succ]
        have e1 : nv (List.range m ++ [m]) = nv (List.range m) ++ nv [m] := by simp [nv]
        rw [e1]
        refine Vals.append (ih l.dropLast (by simp [hl]) fun j v hj => ?_) (.cons ?_ .nil)
        · have hjl : j < l.dropLast.length := (List.getElem?_eq_some_iff.mp hj).1
          refine hv j v ?_
          rw [List.getElem?_dropLast] at hj
          split at hj
          · exact hj
          · cases hj
        · obtain ⟨t, e⟩ := hv m (l.getLast hne) (by rw [List.getLast_eq_getElem, ← List.getElem?_eq_getElem]; congr 1; omega)
          exact ⟨t, by rw [e]; congr 1; omega⟩
    exact key n acc.toList (by simpa using hsz) fun j v hj => hi j v (by simpa using hj)

/-- what may be sorted: a list, a tuple, the keys of a dict -/
def SortSrc (K : PySem.W.Frag) (H : Hp) (p : Addr) (r : List Nat) : Prop := SqL K H p (nv r) ∨ SqT K H p (nv r) ∨ ∃ kvs, H p = some (.dK kvs) ∧ kvs.map (·.1) = r.map fun (n : Nat) => Sum.inl (n : Int)
theorem ints_nv : ∀ {r : List Nat} {us : List Value}, Vals (nv r) us → IntsAre us (r.map fun (n : Nat) => (n : Int)) := fun {r us} h => intsAre_of (by rw [List.map_map]; exact h)
theorem nats_of {ms : List Int} {r : List Nat} (p : ms.Perm (r.map fun (n : Nat) => (n : Int))) (so : ms.Pairwise (· ≤ ·)) : ∃ S : List Nat, ms = S.map (fun (n : Nat) => (n : Int)) ∧ S.Perm r ∧ S.Pairwise (· ≤ ·) := by
  have hn : ∀ m ∈ ms, 0 ≤ m := fun m hm => by
    obtain ⟨n, _, rfl⟩ := List.mem_map.mp (p.mem_iff.mp hm)
    exact Int.natCast_nonneg n
  have e : ms = (ms.map Int.toNat).map fun (n : Nat) => (n : Int) := by
    rw [List.map_map]
    conv => lhs; rw [← List.map_id ms]
    exact List.map_congr_left fun m hm => by simp [Int.toNat_of_nonneg (hn m hm)]
  refine ⟨ms.map Int.toNat, e, ?_, ?_⟩
  · have := p.map Int.toNat
    rw [List.map_map] at this
    have e2 : r.map (Int.toNat ∘ fun (n : Nat) => (n : Int)) = r := by
      conv => rhs; rw [← List.map_id r]
      exact List.map_congr_left fun m _ => by simp
    rw [e2] at this; exact this
  · exact List.pairwise_map.mpr (so.imp_of_mem fun ha hb h => by have := hn _ ha; have := hn _ hb; omega)
theorem vals_of_ints {us : List Value} {S : List Nat} (h : IntsAre us (S.map fun (n : Nat) => (n : Int))) : Vals (nv S) us := by
  have := vals_ints h
  rw [List.map_map] at this
  exact this
def rSorted (K : PySem.W.Frag) : List V → Hp → VK → Prop := fun xs H Q => ∃ (p : Addr) (r : List Nat), xs = [.ref p] ∧ SortSrc K H p r ∧ r.length < 64 ∧ ∀ l S, H l = none → S.Perm r → S.Pairwise (· ≤ ·) → Q (.ref l) (upd H l (.lst (nv S)))
theorem call_sorted (hc : X.calm = true) : CallR X (.builtin "sorted") (rSorted X.K) := by
  intro pins s σ H xs us Q I rr h
  obtain ⟨p, r, rfl, src, h64, q⟩ := h
  obtain ⟨u, rfl, ru⟩ := vals1 rr
  obtain rfl : u = Value.ref p := ru
  have hh := I.ok.hd hc
  have fin : ∀ (vs : List Value), IntsAre vs (r.map fun (n : Nat) => (n : Int)) →
      (∀ (A : Around) (R : List Value → Shared → Prop), A.handled = none → (∀ vs ns' h' tk, IntsAre vs ns' → ns' = (r.map fun (n : Nat) => (n : Int)) → (∀ b o, s.heap.get? b = some o → h'.get? b = some o) → R vs { s with heap := h', toks := tk }) → wpAny (model X.prog X.w) A (collect (.ref p)) R X.xe s) →
      wpAny (model X.prog X.w) X.A (call (.builtin "sorted") [.ref p]) (EP X pins σ Q) X.xe s := by
    intro vs hI hcol
    refine sorted_by hI (by rw [hI.length, List.length_map]; exact h64) hcol hh fun h1 h2 tk e out ns' a1 a2 a3 hk ho hk2 => ?_
    obtain ⟨S, rfl, pS, sS⟩ := nats_of a2 a3
    have I1 : Inv X pins σ H { s with heap := h1, toks := tk } := I.kept hk
    have hlen : S.length < 64 := by rw [pS.length_eq]; exact h64
    refine ⟨.ref h1.objs.size, _, I1.laid (a := h1.objs.size) (o := .lst (nv S)) (h' := h2) (t' := tk) hk2 (Nat.le_refl _) ⟨?_, out.toList, e, vals_of_ints a1, by simpa using ho⟩, rfl, q _ S (I1.hok.fresh (Nat.le_refl _)) pS sS⟩
    rw [nv_len]; exact Nat.le_of_lt (small1000 (by omega))
  rcases src with hq | hq | ⟨kvs, hd, hkeys⟩
  · obtain ⟨its, rv, pl, hz⟩ := I.list hq
    refine fin its (ints_nv rv) fun A R hA hR => ?_
    refine collect_list pl.isList (hR its _ _ s.toks (ints_nv rv) rfl fun b o e => ?_) (by rw [← rv.length]; exact hz)
    exact (Heap.get?_update_other _ _ (Nat.ne_of_gt (Heap.lt_size e))).trans (Heap.get?_push_of_some _ e)
  · obtain ⟨its, rv, pl, hz⟩ := I.tuple hq
    refine fin its (ints_nv rv) fun A R hA hR => ?_
    exact collect_tup (show s.heap.IsTuple p its.toArray from pl) (by rw [← rv.length]; exact hz) fun h' hk => hR its _ _ s.toks (ints_nv rv) rfl hk
  · obtain ⟨z, hs, vs, rv, dd⟩ := dk_of I.hok hd
    obtain ⟨ep, da⟩ := dd.dictAt
    have hks : vs.map (·.1) = r.map fun (n : Nat) => Sum.inl (n : Int) := by rw [← rv.keys]; exact hkeys
    have key : ∀ (l : List Value), l.length = vs.length → (∀ (j : Nat) (v : Value), l[j]? = some v → ∃ k x, vs[j]? = some (k, x) ∧ (mixKind X.prog X.w).is k v = true) → IntsAre l (r.map fun (n : Nat) => (n : Int)) := by
      intro l hl hj
      refine ints_nv ?_
      have hlr : l.length = r.length := by rw [hl]; simpa using congrArg List.length hks
      have : ∀ (r' : List Nat) (l' : List Value), l'.length = r'.length → (∀ (j : Nat) (v : Value), l'[j]? = some v → ∃ n, r'[j]? = some n ∧ ∃ t, v = Value.int (n : Int) t) → Vals (nv r') l' := by
        intro r'
        induction r' with
        | nil => intro l' hl _; rw [List.length_eq_zero_iff.mp hl]; exact .nil
        | cons n r' ih =>
          intro l' hl hj
          cases l' with
          | nil => simp at hl
          | cons v l' =>
            obtain ⟨m, em, t, ev⟩ := hj 0 v rfl
            simp at em
            subst em
            exact .cons ⟨t, ev⟩ (ih l' (by simpa using hl) fun j v hv => by simpa using hj (j + 1) v (by simpa using hv))
      refine this r l hlr fun j v hv => ?_
      obtain ⟨k, x, e1, e2⟩ := hj j v hv
      have e3 : (r.map fun (n : Nat) => (Sum.inl (n : Int) : Key))[j]? = some k := by rw [← hks, List.getElem?_map, e1]; rfl
      rw [List.getElem?_map] at e3
      cases en : r[j]? with
      | none => rw [en] at e3; cases e3
      | some n =>
        rw [en] at e3
        have e4 : (Sum.inl (n : Int) : Key) = k := Option.some.inj e3
        subst e4
        obtain ⟨t, et⟩ := (show ∃ t, v = Value.int (n : Int) t from rel_of_kind e2)
        exact ⟨n, rfl, t, et⟩
    obtain ⟨l0, hl0, hj0⟩ : ∃ l : List Value, l.length = vs.length ∧ ∀ (j : Nat) (v : Value), l[j]? = some v → ∃ k x, vs[j]? = some (k, x) ∧ (mixKind X.prog X.w).is k v = true := by
      refine ⟨vs.map fun kv => match kv.1 with | Sum.inl i => Value.int i 0 | Sum.inr x => Value.str x 0, by simp, fun j v hv => ?_⟩
      rw [List.getElem?_map] at hv
      cases e : vs[j]? with
      | none => rw [e] at hv; cases hv
      | some kv =>
        rw [e] at hv
        obtain ⟨k, x⟩ := kv
        refine ⟨k, x, rfl, ?_⟩
        cases k with
        | inl i => cases hv; exact mixKind_int _ _ i 0
        | inr x => cases hv; exact mixKind_str _ _ x 0
    refine fin l0 (key l0 hl0 hj0) fun A R hA hR => ?_
    refine PySem.W.kdu_collect (PySem.W.kdl_dict (knd := mixKind X.prog X.w) (kvs := vs) (ep := ep) hs) hA da (by rw [← rv.length]; exact z) fun h' tk acc hk hacc => ?_
    exact hR acc.toList _ h' tk (key acc.toList (by simpa using hacc.1) fun j v hv => hacc.2 j v (by simpa using hv)) rfl hk

/-- a, b = a list of two -/
def gLst2 (K : PySem.W.Frag) (t : TGs) : TG := fun v σ H Q => ∃ a x y, v = .ref a ∧ SqL K H a [x, y] ∧ t [x, y] σ H Q
theorem pg_lst2 {es : List Expr} {k : Nat} {pos : Pos} {t : TGs} (hc : X.calm = true) (h : PGs X es t)
    (hn : (assignEach es X.env).length = 2 := by rfl) (hst : (assignEach es X.env).findIdx? (·.1) = none := by rfl) : PG X (.Tuple es k pos) (gLst2 X.K t) := by
  intro pins s σ H v u Q I r hw
  obtain ⟨a, x, y, rfl, hq, hw⟩ := hw
  obtain rfl : u = Value.ref a := r
  obtain ⟨its, rv, pl, hz⟩ := I.list hq
  obtain ⟨v1, v2, rfl, r1, r2⟩ := vals2 rv
  rw [assign_Tuple]
  refine wpAny_bind (wpAny_standAt (unpack_two (I.ok.hd hc) pl.isList hn hst fun h' hk => ?_))
  exact h pins _ σ H [x, y] _ Q (I.kept (t' := s.toks) hk) (.cons r1 (.cons r2 .nil)) hw
end
end L2
namespace L2
open PySem PySem.Spec PyProof.Rows
/-- for i, x in enumerate(xs), xs left as it is -/
theorem for_en {sq : Hp → List V → Prop} {xs : List V} {g : TG} {tb : TS} {D : Ends} {σ : St} {H : Hp} (Pv : Nat → St → Hp → Prop) (h0 : Pv 0 σ H) (hl : ∀ i σ H, i ≤ xs.length → Pv i σ H → sq H xs)
    (hs : ∀ i x σ H T, xs[i]? = some x → H T = none → Pv i σ H → g (.ref T) σ (upd H T (tupE T [.int (i : Int), x])) fun σ2 H2 => tb { D with nx := Pv (i + 1), ct := Pv (i + 1), bk := D.nx } σ2 H2) (hd : ∀ σ H, Pv xs.length σ H → D.nx σ H) :
    ∃ W : Nat → Nat → St → Hp → Prop, (∃ m, W 0 m σ H) ∧ ∀ i m σ H, W i m σ H →
      ((Iten sq).stop i H ∧ D.nx σ H) ∨ ((Iten sq).go i H ∧ ∃ N : St → Hp → Prop, (∀ σ' H', N σ' H' → ∃ m', m' < m ∧ W (i + 1) m' σ' H') ∧ ∀ x H', (Iten sq).yld i H x H' → g x σ H' fun σ2 H2 => tb { D with nx := N, ct := N, bk := D.nx } σ2 H2) := by
  refine ⟨fun i m σ H => m = xs.length - i ∧ i ≤ xs.length ∧ Pv i σ H, ⟨xs.length, by simp, Nat.zero_le _, h0⟩, ?_⟩
  rintro i m σ H ⟨rfl, hi, p⟩
  have q := hl i σ H hi p
  by_cases hlt : i < xs.length
  · refine .inr ⟨⟨xs, xs[i], q, by simp [hlt]⟩, Pv (i + 1), fun σ' H' p' => ⟨xs.length - (i + 1), by omega, rfl, hlt, p'⟩, fun x H' y => ?_⟩
    obtain ⟨T, z, hT, rfl, hz, rfl⟩ := y
    exact hs i z σ H T (hz xs q) hT p
  · have e : i = xs.length := by omega
    subst e
    exact .inl ⟨⟨xs, q, rfl⟩, hd σ H p⟩
/-- for k, v in d.items() -/
theorem for_items {a : Addr} {kvs : List (Key × V)} {o : Obj} {g : TG} {tb : TS} {D : Ends} {σ : St} {H : Hp} (Pv : Nat → St → Hp → Prop) (h0 : Pv 0 σ H) (hl : ∀ i σ H, i ≤ kvs.length → Pv i σ H → H a = some (.frz o (.dK kvs)))
    (hs : ∀ i k v σ H T, kvs[i]? = some (k, v) → H T = none → Pv i σ H → g (.ref T) σ (upd H T (.tup [kV k, v])) fun σ2 H2 => tb { D with nx := Pv (i + 1), ct := Pv (i + 1), bk := D.nx } σ2 H2) (hd : ∀ σ H, Pv kvs.length σ H → D.nx σ H) :
    ∃ W : Nat → Nat → St → Hp → Prop, (∃ m, W 0 m σ H) ∧ ∀ i m σ H, W i m σ H →
      ((Itd a kvs o).stop i H ∧ D.nx σ H) ∨ ((Itd a kvs o).go i H ∧ ∃ N : St → Hp → Prop, (∀ σ' H', N σ' H' → ∃ m', m' < m ∧ W (i + 1) m' σ' H') ∧ ∀ x H', (Itd a kvs o).yld i H x H' → g x σ H' fun σ2 H2 => tb { D with nx := N, ct := N, bk := D.nx } σ2 H2) := by
  refine ⟨fun i m σ H => m = kvs.length - i ∧ i ≤ kvs.length ∧ Pv i σ H, ⟨kvs.length, by simp, Nat.zero_le _, h0⟩, ?_⟩
  rintro i m σ H ⟨rfl, hi, p⟩
  have q := hl i σ H hi p
  by_cases hlt : i < kvs.length
  · refine .inr ⟨⟨q, kvs[i], by simp [hlt]⟩, Pv (i + 1), fun σ' H' p' => ⟨kvs.length - (i + 1), by omega, rfl, hlt, p'⟩, fun x H' y => ?_⟩
    obtain ⟨T, k, v, hT, rfl, hz, rfl⟩ := y
    exact hs i k v σ H T hz hT p
  · have e : i = kvs.length := by omega
    subst e
    exact .inl ⟨⟨q, Nat.le_refl _⟩, hd σ H p⟩
/-- behind an element of a comprehension: n in all, ys the list that comes -/
def CPost (n : Nat) (ys : List V) (Pv : Nat → St → Hp → Prop) (d : Addr) (i : Nat) (σ3 : St) (y : V) (H4 : Hp) : Prop :=
  ∃ xs, H4 d = some (.lst xs) ∧ xs.length < sizeLine ∧ ∃ m', m' < n - i ∧ m' = n - (i + 1) ∧ i + 1 ≤ n ∧ Pv (i + 1) σ3 (upd H4 d (.lst (xs ++ [y]))) ∧ (upd H4 d (.lst (xs ++ [y]))) d = some (.lst (ys.take (i + 1)))
theorem cpost {n : Nat} {ys : List V} {Pv : Nat → St → Hp → Prop} {d : Addr} {i : Nat} {σ3 : St} {y : V} {H4 : Hp} (hi : i < n) (hn : n ≤ 1000) (hd : H4 d = some (.lst (ys.take i))) (hy : ys[i]? = some y) (hp : Pv (i + 1) σ3 (upd H4 d (.lst (ys.take (i + 1))))) :
    CPost n ys Pv d i σ3 y H4 := by
  have e : ys.take (i + 1) = ys.take i ++ [y] := by rw [List.take_add_one, hy]; rfl
  refine ⟨_, hd, ?_, n - (i + 1), by omega, rfl, hi, by rw [← e]; exact hp, by rw [upd_same, e]⟩
  have : (ys.take i).length ≤ i := by rw [List.length_take]; exact Nat.min_le_left _ _
  exact small1000 (by omega)
theorem comp_by {J : It} {g : TG} {te : TE} {d : Addr} {σ0 : St} {H1 : Hp} {Q : Addr → Hp → Prop} (n : Nat) (ys : List V) (hy : ys.length = n) (Pv : Nat → St → Hp → Prop) (h0 : Pv 0 σ0 (upd H1 d (.lst [])))
    (go : ∀ i σ H, i < n → Pv i σ H → H d = some (.lst (ys.take i)) → J.go i H ∧ ∀ x H2, J.yld i H x H2 → g x σ H2 fun σ3 H3 => te σ3 H3 fun y H4 => CPost n ys Pv d i σ3 y H4)
    (stop : ∀ σ H, Pv n σ H → H d = some (.lst ys) → J.stop n H ∧ Q d H) :
    ∃ W : Nat → Nat → St → Hp → Prop, (∃ m, W 0 m σ0 (upd H1 d (.lst []))) ∧ ∀ i m σ' H', W i m σ' H' →
      (J.stop i H' ∧ Q d H') ∨ (J.go i H' ∧ ∀ x H2, J.yld i H' x H2 → g x σ' H2 fun σ3 H3 => te σ3 H3 fun y H4 => ∃ xs, H4 d = some (.lst xs) ∧ xs.length < sizeLine ∧ ∃ m', m' < m ∧ W (i + 1) m' σ3 (upd H4 d (.lst (xs ++ [y])))) := by
  refine ⟨fun i m σ H => m = n - i ∧ i ≤ n ∧ Pv i σ H ∧ H d = some (.lst (ys.take i)), ⟨n, by simp, Nat.zero_le _, h0, upd_same⟩, ?_⟩
  rintro i m σ H ⟨rfl, hi, p, hd⟩
  by_cases hlt : i < n
  · exact .inr (go i σ H hlt p hd)
  · have e : i = n := by omega
    subst e
    rw [List.take_of_length_le (by omega)] at hd
    exact .inl (stop σ H p hd)
end L2
namespace Sq

theorem sub_len {α : Type} [DecidableEq α] : ∀ (l l' : List α), l.Nodup → (∀ x ∈ l, x ∈ l') → l.length ≤ l'.length
  | [], _, _, _ => Nat.zero_le _
  | a :: l, l', nd, h => by
    have nd' := List.nodup_cons.mp nd
    have ha : a ∈ l' := h a List.mem_cons_self
    have := sub_len l (l'.erase a) nd'.2 fun x hx => by
      have hne : x ≠ a := fun e => nd'.1 (e ▸ hx)
      exact (List.mem_erase_of_ne hne).mpr (h x (List.mem_cons_of_mem _ hx))
    rw [List.length_erase_of_mem ha] at this
    have := List.length_pos_of_mem ha
    simp only [List.length_cons]; omega

theorem full {α : Type} [DecidableEq α] {l l' : List α} (nd : l.Nodup) (h : ∀ x ∈ l, x ∈ l') (hl : l'.length ≤ l.length) : ∀ x ∈ l', x ∈ l := fun x hx => by
  refine Classical.byContradiction fun hn => ?_
  have h1 : (x :: l).Nodup := List.nodup_cons.mpr ⟨hn, nd⟩
  have h2 := sub_len (x :: l) l' h1 fun y hy => by
    rcases List.mem_cons.mp hy with rfl | hy
    · exact hx
    · exact h y hy
  simp only [List.length_cons] at h2; omega

theorem nd_inj {α : Type} {l : List α} (nd : l.Nodup) {i j : Nat} (hi : i < l.length) (hj : j < l.length) (e : l[i] = l[j]) : i = j := by
  have h := List.pairwise_iff_getElem.mp nd
  rcases Nat.lt_trichotomy i j with c | c | c
  · exact absurd e (h i j hi hj c)
  · exact c
  · exact absurd e.symm (h j i hj hi c)

/-- a row of n squares: each stands once -/
structure Row (n : Nat) (r : List Nat) : Prop where
  len : r.length = n
  nd : r.Nodup
  lt : ∀ x ∈ r, x < n

abbrev nx (r : List Nat) (x : Nat) : Nat := r.getD x 0

section
variable {n : Nat} {r : List Nat}
theorem Row.get (h : Row n r) {i : Nat} (hi : i < n) : r[i]? = some (nx r i) := by
  have : i < r.length := by rw [h.len]; exact hi
  simp [nx, List.getD, List.getElem?_eq_getElem this]
theorem Row.mem (h : Row n r) {i : Nat} (hi : i < n) : nx r i ∈ r := List.mem_of_getElem? (h.get hi)
theorem Row.nlt (h : Row n r) {i : Nat} (hi : i < n) : nx r i < n := h.lt _ (h.mem hi)
theorem Row.has (h : Row n r) {x : Nat} (hx : x < n) : x ∈ r := by
  refine full h.nd (l' := List.range n) (fun y hy => List.mem_range.mpr (h.lt y hy)) (by simp [h.len]) x (List.mem_range.mpr hx)
theorem Row.inj (h : Row n r) {i j : Nat} (hi : i < n) (hj : j < n) (e : nx r i = nx r j) : i = j := by
  have h1 : i < r.length := by rw [h.len]; exact hi
  have h2 : j < r.length := by rw [h.len]; exact hj
  have e' : r[i] = r[j] := by simpa [nx, List.getD, List.getElem?_eq_getElem h1, List.getElem?_eq_getElem h2] using e
  exact nd_inj h.nd h1 h2 e'
theorem Row.onto (h : Row n r) {x : Nat} (hx : x < n) : ∃ i, i < n ∧ nx r i = x := by
  obtain ⟨i, hi, e⟩ := List.mem_iff_getElem.mp (h.has hx)
  exact ⟨i, by rw [← h.len]; exact hi, by simp [nx, List.getD, List.getElem?_eq_getElem hi, e]⟩
theorem Row.idx_lt (h : Row n r) {x : Nat} (hx : x < n) : r.idxOf x < n := by
  have := List.idxOf_lt_length_of_mem (h.has hx)
  rwa [h.len] at this
theorem Row.nx_idx (h : Row n r) {x : Nat} (hx : x < n) : nx r (r.idxOf x) = x := by
  have h1 := List.idxOf_lt_length_of_mem (h.has hx)
  simp [nx, List.getD, List.getElem?_eq_getElem h1]
theorem Row.idx_nx (h : Row n r) {i : Nat} (hi : i < n) : r.idxOf (nx r i) = i :=
  h.inj (h.idx_lt (h.nlt hi)) hi (h.nx_idx (h.nlt hi))
theorem Row.of_perm {l : List Nat} (p : l.Perm (List.range n)) : Row n l where
  len := by simpa using p.length_eq
  nd := p.nodup_iff.mpr List.nodup_range
  lt := fun x hx => List.mem_range.mp (p.mem_iff.mp hx)
theorem Row.perm (h : Row n r) : r.Perm (List.range n) := by
  refine (List.perm_ext_iff_of_nodup h.nd List.nodup_range).mpr fun x => ⟨fun hx => List.mem_range.mpr (h.lt x hx), fun hx => h.has (List.mem_range.mp hx)⟩
end

/-- the row turned round -/
def back (r : List Nat) : List Nat := (List.range r.length).map fun x => r.idxOf x
theorem back_len (r : List Nat) : (back r).length = r.length := by simp [back]
theorem back_nx {n : Nat} {r : List Nat} (h : Row n r) {x : Nat} (hx : x < n) : nx (back r) x = r.idxOf x := by
  have : x < r.length := by rw [h.len]; exact hx
  simp [nx, back, List.getD, this]
theorem Row.back {n : Nat} {r : List Nat} (h : Row n r) : Row n (back r) where
  len := by rw [back_len, h.len]
  nd := by
    refine List.pairwise_map.mpr (List.Pairwise.imp_of_mem (fun {a b} ha hb hne e => hne ?_) (List.nodup_range (n := r.length)))
    rw [h.len] at ha hb
    have ha := List.mem_range.mp ha
    have hb := List.mem_range.mp hb
    rw [← h.nx_idx ha, e, h.nx_idx hb]
  lt := fun x hx => by
    obtain ⟨y, hy, rfl⟩ := List.mem_map.mp hx
    rw [h.len] at hy
    exact h.idx_lt (List.mem_range.mp hy)

/-- a set of squares that right and up do not leave -/
def Shut (n : Nat) (r u : List Nat) (T : Nat → Prop) : Prop := ∀ x, x < n → T x → T (nx r x) ∧ T (nx u x)

/-- a sheet -/
structure Sheet (n : Nat) (r u : List Nat) : Prop where
  pos : 1 ≤ n
  most : n ≤ 36
  row : Row n r
  col : Row n u
  conn : ∀ T : Nat → Prop, T 0 → Shut n r u T → ∀ x, x < n → T x

theorem pop_perm {n : Nat} {line left : List Nat} {k : Nat} {y : Nat} (p : (line ++ left).Perm (List.range n)) (e : left[k]? = some y) :
    ((line ++ [y]) ++ left.eraseIdx k).Perm (List.range n) := by
  refine List.Perm.trans ?_ p
  rw [List.append_assoc]
  refine List.Perm.append_left _ ?_
  have hk : k < left.length := (List.getElem?_eq_some_iff.mp e).1
  have hy : left[k] = y := (List.getElem?_eq_some_iff.mp e).2
  have h1 : left = left.take k ++ left[k] :: left.drop (k + 1) := by
    rw [← List.drop_eq_getElem_cons hk, List.take_append_drop]
  rw [List.eraseIdx_eq_take_drop_succ]
  conv => rhs; rw [h1, hy]
  exact (List.perm_middle (a := y) (l₁ := left.take k) (l₂ := left.drop (k + 1))).symm

structure Met (n : Nat) (r u : List Nat) (first : Nat) (M : List Nat) (k : Nat) : Prop where
  nd : M.Nodup
  hd : first ∈ M
  lt : ∀ x ∈ M, x < n
  kle : k ≤ M.length
  shut : ∀ i x, i < k → M[i]? = some x → nx r x ∈ M ∧ nx u x ∈ M
  least : ∀ T : Nat → Prop, T first → Shut n r u T → ∀ x ∈ M, T x
theorem Met.len {n : Nat} {r u : List Nat} {first : Nat} {M : List Nat} {k : Nat} (h : Met n r u first M k) : M.length ≤ n := by
  have := sub_len M (List.range n) h.nd fun x hx => List.mem_range.mpr (h.lt x hx)
  simpa using this
theorem Met.start {n : Nat} {r u : List Nat} {first : Nat} (h : first < n) : Met n r u first [first] 0 where
  nd := by simp
  hd := by simp
  lt := fun x hx => by rw [List.mem_singleton.mp hx]; exact h
  kle := Nat.zero_le _
  shut := fun i x hi => absurd hi (Nat.not_lt_zero _)
  least := fun T h0 _ x hx => by rw [List.mem_singleton.mp hx]; exact h0
/-- put at the end where it is not there yet -/
def put (M : List Nat) (y : Nat) : List Nat := if y ∈ M then M else M ++ [y]
theorem mem_put {M : List Nat} {y x : Nat} : x ∈ put M y ↔ x ∈ M ∨ x = y := by
  unfold put; split
  · rename_i h; exact ⟨.inl, fun q => q.elim id fun e => e ▸ h⟩
  · simp
theorem put_get {M : List Nat} {y x : Nat} {i : Nat} (h : M[i]? = some x) : (put M y)[i]? = some x := by
  unfold put; split
  · exact h
  · rw [List.getElem?_append_left (List.getElem?_eq_some_iff.mp h).1]; exact h
theorem put_len {M : List Nat} {y : Nat} : M.length ≤ (put M y).length := by
  unfold put; split <;> simp
theorem put_nd {M : List Nat} {y : Nat} (h : M.Nodup) : (put M y).Nodup := by
  unfold put; split
  · exact h
  · rename_i hy; exact List.nodup_append.mpr ⟨h, by simp, fun a ha b hb e => hy (by rw [List.mem_singleton.mp hb] at e; exact e ▸ ha)⟩
theorem Met.step {n : Nat} {r u : List Nat} {first : Nat} {M : List Nat} {k x : Nat} (h : Met n r u first M k) (hr : Row n r) (hu : Row n u) (hx : M[k]? = some x) :
    Met n r u first (put (put M (nx r x)) (nx u x)) (k + 1) where
  nd := put_nd (put_nd h.nd)
  hd := mem_put.mpr (.inl (mem_put.mpr (.inl h.hd)))
  lt := fun y hy => by
    have hxn := h.lt x (List.mem_of_getElem? hx)
    rcases mem_put.mp hy with hy | rfl
    · rcases mem_put.mp hy with hy | rfl
      · exact h.lt y hy
      · exact hr.nlt hxn
    · exact hu.nlt hxn
  kle := by
    have := (List.getElem?_eq_some_iff.mp hx).1
    have h1 := put_len (M := M) (y := nx r x)
    have h2 := put_len (M := put M (nx r x)) (y := nx u x)
    omega
  shut := fun i y hi hy => by
    have hk := (List.getElem?_eq_some_iff.mp hx).1
    have hi' : i < M.length := by omega
    have e : M[i]? = some M[i] := List.getElem?_eq_getElem hi'
    have e2 := put_get (y := nx u x) (put_get (y := nx r x) e)
    rw [hy] at e2
    have e3 : y = M[i] := Option.some.inj e2
    rw [← e3] at e
    rcases Nat.lt_or_ge i k with hlt | hge
    · obtain ⟨a, b⟩ := h.shut i y hlt e
      exact ⟨mem_put.mpr (.inl (mem_put.mpr (.inl a))), mem_put.mpr (.inl (mem_put.mpr (.inl b)))⟩
    · have : i = k := by omega
      subst this
      rw [hx] at e
      cases e
      exact ⟨mem_put.mpr (.inl (mem_put.mpr (.inr rfl))), mem_put.mpr (.inr rfl)⟩
  least := fun T h0 hs y hy => by
    have hxM := List.mem_of_getElem? hx
    have hxn := h.lt x hxM
    have hT := h.least T h0 hs x hxM
    rcases mem_put.mp hy with hy | rfl
    · rcases mem_put.mp hy with hy | rfl
      · exact h.least T h0 hs y hy
      · exact (hs x hxn hT).1
    · exact (hs x hxn hT).2
/-- all that is met -/
structure MetAll (n : Nat) (r u : List Nat) (first : Nat) (M : List Nat) : Prop where
  nd : M.Nodup
  hd : first ∈ M
  lt : ∀ x ∈ M, x < n
  shut : ∀ x ∈ M, nx r x ∈ M ∧ nx u x ∈ M
  least : ∀ T : Nat → Prop, T first → Shut n r u T → ∀ x ∈ M, T x
theorem Met.all {n : Nat} {r u : List Nat} {first : Nat} {M : List Nat} {k : Nat} (h : Met n r u first M k) (hk : M.length ≤ k) : MetAll n r u first M where
  nd := h.nd
  hd := h.hd
  lt := h.lt
  shut := fun x hx => by
    obtain ⟨i, hi, e⟩ := List.mem_iff_getElem.mp hx
    exact h.shut i x (by omega) (by rw [List.getElem?_eq_getElem hi, e])
  least := h.least
theorem MetAll.perm {n : Nat} {r u : List Nat} {first : Nat} {M S : List Nat} (h : MetAll n r u first M) (p : S.Perm M) : MetAll n r u first S where
  nd := p.nodup_iff.mpr h.nd
  hd := p.mem_iff.mpr h.hd
  lt := fun x hx => h.lt x (p.mem_iff.mp hx)
  shut := fun x hx => ⟨p.mem_iff.mpr (h.shut x (p.mem_iff.mp hx)).1, p.mem_iff.mpr (h.shut x (p.mem_iff.mp hx)).2⟩
  least := fun T h0 hs x hx => h.least T h0 hs x (p.mem_iff.mp hx)
theorem MetAll.full {n : Nat} {r u : List Nat} {M : List Nat} (s : Sheet n r u) (h : MetAll n r u 0 M) : Row n M := by
  have all : ∀ x, x < n → x ∈ M := s.conn (fun x => x ∈ M) h.hd fun x _ hx => h.shut x hx
  have l1 := sub_len M (List.range n) h.nd fun x hx => List.mem_range.mpr (h.lt x hx)
  have l2 := sub_len (List.range n) M List.nodup_range fun x hx => all x (List.mem_range.mp hx)
  simp only [List.length_range] at l1 l2
  exact ⟨by omega, h.nd, h.lt⟩

def among (r S : List Nat) : List Nat := S.map fun x => S.idxOf (nx r x)
theorem among_len (r S : List Nat) : (among r S).length = S.length := by simp [among]
theorem among_nx {r S : List Nat} {i : Nat} {x : Nat} (h : S[i]? = some x) : nx (among r S) i = S.idxOf (nx r x) := by
  simp [nx, among, List.getD, h]
theorem idx_get {S : List Nat} (nd : S.Nodup) {i x : Nat} (h : S[i]? = some x) : S.idxOf x = i := by
  obtain ⟨hi, e⟩ := List.getElem?_eq_some_iff.mp h
  have hm : x ∈ S := List.mem_of_getElem? h
  have h1 := List.idxOf_lt_length_of_mem hm
  have e1 : S[S.idxOf x] = x := List.getElem_idxOf h1
  exact nd_inj nd h1 hi (e1.trans e.symm)
theorem get_idx {S : List Nat} {x : Nat} (h : x ∈ S) : S[S.idxOf x]? = some x := by
  have h1 := List.idxOf_lt_length_of_mem h
  rw [List.getElem?_eq_getElem h1, List.getElem_idxOf h1]
theorem among_row {n : Nat} {r S : List Nat} (hr : Row n r) (nd : S.Nodup) (lt : ∀ x ∈ S, x < n) (cl : ∀ x ∈ S, nx r x ∈ S) : Row S.length (among r S) where
  len := among_len r S
  nd := by
    refine List.pairwise_map.mpr (List.Pairwise.imp_of_mem (fun {a b} ha hb hne e => hne ?_) nd)
    have h1 := get_idx (cl a ha)
    rw [e, get_idx (cl b hb)] at h1
    exact hr.inj (lt a ha) (lt b hb) (Option.some.inj h1).symm
  lt := fun x hx => by
    obtain ⟨y, hy, rfl⟩ := List.mem_map.mp hx
    exact List.idxOf_lt_length_of_mem (cl y hy)
theorem among_sheet {n : Nat} {r u S : List Nat} (hn : n ≤ 36) (hr : Row n r) (hu : Row n u) (h : MetAll n r u 0 S) (so : S.Pairwise (· ≤ ·)) : Sheet S.length (among r S) (among u S) where
  pos := List.length_pos_of_mem h.hd
  most := by
    have := sub_len S (List.range n) h.nd fun x hx => List.mem_range.mpr (h.lt x hx)
    simp only [List.length_range] at this; omega
  row := among_row hr h.nd h.lt fun x hx => (h.shut x hx).1
  col := among_row hu h.nd h.lt fun x hx => (h.shut x hx).2
  conn := fun T h0 hs i hi => by
    have z : S[0]? = some 0 := by
      cases S with
      | nil => exact absurd h.hd (by simp)
      | cons a S =>
        rcases List.mem_cons.mp h.hd with e | hm
        · simp [← e]
        · have := (List.pairwise_cons.mp so).1 0 hm
          have : a = 0 := by omega
          simp [this]
    have key := h.least (fun x => x ∈ S ∧ T (S.idxOf x)) ⟨h.hd, by rw [idx_get h.nd z]; exact h0⟩ fun x _ ⟨hx, t⟩ => by
      have hlt := List.idxOf_lt_length_of_mem hx
      have := hs (S.idxOf x) hlt t
      rw [among_nx (get_idx hx), among_nx (get_idx hx)] at this
      exact ⟨⟨(h.shut x hx).1, this.1⟩, (h.shut x hx).2, this.2⟩
    have e : S[i]? = some S[i] := List.getElem?_eq_getElem hi
    have := (key S[i] (List.getElem_mem hi)).2
    rwa [idx_get h.nd e] at this

theorem sorted_unique : ∀ {l l' : List Nat}, l.Perm l' → l.Pairwise (· ≤ ·) → l'.Pairwise (· ≤ ·) → l = l'
  | [], l', p, _, _ => (List.nil_perm.mp p).symm
  | a :: l, [], p, _, _ => absurd p.length_eq (by simp)
  | a :: l, b :: l', p, h, h' => by
    have ha := List.pairwise_cons.mp h
    have hb := List.pairwise_cons.mp h'
    have e : a = b := by
      have h1 : a ∈ b :: l' := p.mem_iff.mp List.mem_cons_self
      have h2 : b ∈ a :: l := p.mem_iff.mpr List.mem_cons_self
      rcases List.mem_cons.mp h1 with e | h1
      · exact e
      · rcases List.mem_cons.mp h2 with e | h2
        · exact e.symm
        · have := hb.1 a h1
          have := ha.1 b h2
          omega
    subst e
    rw [sorted_unique (List.Perm.cons_inv p) ha.2 hb.2]
theorem range_sorted (n : Nat) : (List.range n).Pairwise (· ≤ ·) := List.Pairwise.imp (fun h => Nat.le_of_lt h) List.pairwise_lt_range
theorem Row.sorted {n : Nat} {r S : List Nat} (h : Row n r) (p : S.Perm r) (so : S.Pairwise (· ≤ ·)) : S = List.range n :=
  sorted_unique (p.trans h.perm) so (range_sorted n)
end Sq
namespace Sq
/-- the four rows: right, left, up, down -/
def rw4 (r u : List Nat) (c : Nat) : List Nat := match c with
  | 0 => r
  | 1 => back r
  | 2 => u
  | _ => back u
theorem rw4_row {n : Nat} {r u : List Nat} (hr : Row n r) (hu : Row n u) (c : Nat) : Row n (rw4 r u c) := by
  unfold rw4; split
  · exact hr
  · exact hr.back
  · exact hu
  · exact hu.back
/-- where a path leads -/
def go (r u : List Nat) (x : Nat) (p : List Nat) : Nat := p.foldl (fun x c => nx (rw4 r u c) x) x
theorem go_snoc (r u : List Nat) (x : Nat) (p : List Nat) (c : Nat) : go r u x (p ++ [c]) = nx (rw4 r u c) (go r u x p) := by simp [go]

/-- F: the squares found; P: their paths; the first k of F are through, of the next one the first j letters -/
structure Pth (n : Nat) (r u : List Nat) (first : Nat) (F : List Nat) (P : List (List Nat)) (k j : Nat) : Prop where
  nd : F.Nodup
  hd : first ∈ F
  lt : ∀ x ∈ F, x < n
  len : P.length = F.length
  kle : k ≤ F.length
  shut : ∀ i x, i < k → F[i]? = some x → ∀ c, c < 4 → nx (rw4 r u c) x ∈ F
  part : ∀ x, F[k]? = some x → ∀ c, c < j → nx (rw4 r u c) x ∈ F
  jz : j = 0 ∨ k < F.length
  ok : ∀ i x p, F[i]? = some x → P[i]? = some p → go r u first p = x ∧ p.length ≤ i ∧ ∀ c ∈ p, c < 4
variable {n : Nat} {r u : List Nat} {first : Nat} {F : List Nat} {P : List (List Nat)} {k j : Nat}
theorem Pth.start (h : first < n) : Pth n r u first [first] [[]] 0 0 where
  nd := by simp
  hd := by simp
  lt := fun x hx => by rw [List.mem_singleton.mp hx]; exact h
  len := rfl
  kle := Nat.zero_le _
  shut := fun i x hi => absurd hi (Nat.not_lt_zero _)
  part := fun x _ c hc => absurd hc (Nat.not_lt_zero _)
  jz := .inl rfl
  ok := fun i x p hx hp => by
    cases i with
    | zero => simp at hx hp; subst hx hp; simp [go]
    | succ i => simp at hx
theorem Pth.flen (h : Pth n r u first F P k j) : F.length ≤ n := by
  have := sub_len F (List.range n) h.nd fun x hx => List.mem_range.mpr (h.lt x hx)
  simpa using this
/-- the letter leads to a square that is there -/
theorem Pth.old {x : Nat} (h : Pth n r u first F P k j) (hx : F[k]? = some x) (hm : nx (rw4 r u j) x ∈ F) : Pth n r u first F P k (j + 1) :=
  { h with
    part := fun y hy c hc => by
      rw [hx] at hy; cases hy
      rcases Nat.lt_or_ge c j with q | q
      · exact h.part x hx c q
      · have : c = j := by omega
        subst this; exact hm
    jz := .inr (List.getElem?_eq_some_iff.mp hx).1 }
/-- the letter leads to a new square -/
theorem Pth.new {x : Nat} {p : List Nat} (h : Pth n r u first F P k j) (hr : Row n r) (hu : Row n u) (hj : j < 4) (hx : F[k]? = some x) (hp : P[k]? = some p) (hm : nx (rw4 r u j) x ∉ F) :
    Pth n r u first (F ++ [nx (rw4 r u j) x]) (P ++ [p ++ [j]]) k (j + 1) := by
  have hk := (List.getElem?_eq_some_iff.mp hx).1
  have old : ∀ i y, i ≤ k → (F ++ [nx (rw4 r u j) x])[i]? = some y → F[i]? = some y := fun i y hi hy => by
    rwa [List.getElem?_append_left (by omega)] at hy
  refine ⟨?_, by simp [h.hd], ?_, by simp [h.len], by simp; omega, ?_, ?_, .inr (by simp; omega), ?_⟩
  · exact List.nodup_append.mpr ⟨h.nd, by simp, fun a ha b hb e => hm (by rw [List.mem_singleton.mp hb] at e; exact e ▸ ha)⟩
  · intro y hy
    rcases List.mem_append.mp hy with hy | hy
    · exact h.lt y hy
    · rw [List.mem_singleton.mp hy]
      exact (rw4_row hr hu j).nlt (h.lt x (List.mem_of_getElem? hx))
  · intro i y hi hy c hc
    exact List.mem_append_left _ (h.shut i y hi (old i y (by omega) hy) c hc)
  · intro y hy c hc
    have hy' := old k y (Nat.le_refl _) hy
    rw [hx] at hy'; cases hy'
    rcases Nat.lt_or_ge c j with q | q
    · exact List.mem_append_left _ (h.part x hx c q)
    · have : c = j := by omega
      subst this; simp
  · intro i y q hy hq
    rcases Nat.lt_trichotomy i F.length with c | c | c
    · rw [List.getElem?_append_left c] at hy
      rw [List.getElem?_append_left (by rw [h.len]; exact c)] at hq
      exact h.ok i y q hy hq
    · subst c
      rw [List.getElem?_append_right (Nat.le_refl _)] at hy
      rw [List.getElem?_append_right (by rw [h.len]; exact Nat.le_refl _)] at hq
      simp [h.len] at hy hq
      subst hy hq
      obtain ⟨a, b, d⟩ := h.ok k x p hx hp
      refine ⟨by rw [go_snoc, a]; simp [nx], by simp; omega, fun c hc => ?_⟩
      rcases List.mem_append.mp hc with hc | hc
      · exact d c hc
      · rw [List.mem_singleton.mp hc]; exact hj
    · rw [List.getElem?_eq_none (by simp; omega)] at hy; cases hy
theorem Pth.next {x : Nat} (h : Pth n r u first F P k 4) (hx : F[k]? = some x) : Pth n r u first F P (k + 1) 0 :=
  { h with
    kle := (List.getElem?_eq_some_iff.mp hx).1
    shut := fun i y hi hy c hc => by
      rcases Nat.lt_or_ge i k with q | q
      · exact h.shut i y q hy c hc
      · have : i = k := by omega
        subst this; exact h.part y hy c hc
    part := fun y _ c hc => absurd hc (Nat.not_lt_zero _)
    jz := .inl rfl }
/-- all squares to which paths lead -/
structure PthAll (n : Nat) (r u : List Nat) (first : Nat) (F : List Nat) (P : List (List Nat)) : Prop where
  nd : F.Nodup
  hd : first ∈ F
  lt : ∀ x ∈ F, x < n
  len : P.length = F.length
  shut : ∀ x ∈ F, ∀ c, c < 4 → nx (rw4 r u c) x ∈ F
  ok : ∀ i x p, F[i]? = some x → P[i]? = some p → go r u first p = x ∧ p.length ≤ i ∧ ∀ c ∈ p, c < 4
theorem Pth.all (h : Pth n r u first F P k j) (hk : F.length ≤ k) : PthAll n r u first F P :=
  { h with
    shut := fun x hx c hc => by
      obtain ⟨i, hi, e⟩ := List.mem_iff_getElem.mp hx
      exact h.shut i x (by omega) (by rw [List.getElem?_eq_getElem hi, e]) c hc }
theorem PthAll.full (s : Sheet n r u) (h : PthAll n r u 0 F P) : Row n F := by
  have all : ∀ x, x < n → x ∈ F := s.conn (fun x => x ∈ F) h.hd fun x _ hx => ⟨h.shut x hx 0 (by decide), h.shut x hx 2 (by decide)⟩
  have l1 := sub_len F (List.range n) h.nd fun x hx => List.mem_range.mpr (h.lt x hx)
  have l2 := sub_len (List.range n) F List.nodup_range fun x hx => all x (List.mem_range.mp hx)
  simp only [List.length_range] at l1 l2
  exact ⟨by omega, h.nd, h.lt⟩
end Sq
namespace K1
open PySem L2
def top (i : Nat) : Stmt := PySem.Challenge.pw_squaresheet_k85_whole_folded_least.main.body.getD i (.Pass ⟨0, 0, 0, 0⟩)
abbrev sSize : Stmt := top 5
abbrev sBackRow : Stmt := top 6
abbrev sGone : Stmt := top 7
abbrev sIsWhole : Stmt := top 8
abbrev sIsSq : Stmt := top 9
abbrev sNeed : Stmt := top 10
abbrev sSteps : Stmt := top 11
abbrev sPaths : Stmt := top 12
abbrev sIsMap : Stmt := top 14
abbrev sLaid : Stmt := top 15
abbrev sFolded : Stmt := top 16
abbrev sKeepsRow : Stmt := top 17
abbrev sLeastFolded : Stmt := top 18
abbrev sFoldedRow : Stmt := top 19
abbrev sCell : Stmt := top 21
abbrev sWhole : Stmt := top 22
abbrev sLines : Stmt := top 23
abbrev sMet : Stmt := top 24
abbrev sAmong : Stmt := top 25
abbrev sSheet : Stmt := top 26
abbrev sPicked : Stmt := top 27
abbrev sLCover : Stmt := top 28
abbrev sIsSheet : Stmt := top 29
abbrev sLMapRight : Stmt := top 30
abbrev sLBelow : Stmt := top 31
abbrev sLFolded : Stmt := top 32
abbrev sLaw : Stmt := top 33
end K1
namespace K1
open PySem L2 Sq
/-- the builtins' names are not taken by the text -/
structure Bi (mg : Str → Option Value) : Prop where
  len : mg "len" = none
  range : mg "range" = none
  list : mg "list" = none
  tuple : mg "tuple" = none
  isin : mg "isinstance" = none
  int : mg "int" = none
  bool : mg "bool" = none
  all : mg "all" = none
  set : mg "set" = none
  sorted : mg "sorted" = none
  enum : mg "enumerate" = none
/-- a def of the text -/
structure Fn (K : PySem.W.Frag) (mg : Str → Option Value) (x : Str) (st : Stmt) (ps : List Str) (f : Addr) (fd : FuncData) : Prop where
  F : Fun K x x st f fd
  b : Binds K fd ps []
  m : mg x = some (.ref f)

def RowAt (K : PySem.W.Frag) (H : Hp) (p : Addr) (r : List Nat) : Prop := SqL K H p (nv r) ∨ SqT K H p (nv r)

def spCell (K : PySem.W.Frag) : Sp := fun vs H Q _ => ∃ (a : Addr) (ns : List Int) (j : Int), vs = [.ref a, .int j] ∧ SqL K H a (ns.map V.int) ∧ 0 ≤ j ∧ Q (.int (ns.getD j.toNat 0)) H
def spWhole : Sp := fun vs H Q _ => ∃ i : Int, vs = [.int i] ∧ Q (.bl true) H
def spSize : Sp := fun vs H Q _ => ∃ (a : Addr) (r u : List Nat), vs = [.ref a] ∧ ShAt H a r u ∧ Q (.int (r.length : Int)) H
def spIsSq : Sp := fun vs H Q _ => ∃ i n : Int, vs = [.int i, .int n] ∧ Q (.bl (decide (0 ≤ i ∧ i < n))) H

theorem boot_isin : bootBuiltins "isinstance" = some (.builtin "isinstance") := by decide +kernel
theorem boot_int : bootBuiltins "int" = some (.type "int") := by decide +kernel
theorem boot_bool : bootBuiltins "bool" = some (.type "bool") := by decide +kernel
theorem boot_tuple : bootBuiltins "tuple" = some (.type "tuple") := by decide +kernel
theorem boot_list : bootBuiltins "list" = some (.type "list") := by decide +kernel
theorem boot_all : bootBuiltins "all" = some (.builtin "all") := by decide +kernel
theorem boot_sorted : bootBuiltins "sorted" = some (.builtin "sorted") := by decide +kernel
theorem nv_erase (xs : List Nat) (k : Nat) : (nv xs).eraseIdx k = nv (xs.eraseIdx k) := by
  unfold nv
  induction xs generalizing k with
  | nil => rfl
  | cons x xs ih => cases k with
    | zero => rfl
    | succ k => simp only [List.map_cons, List.eraseIdx_cons_succ, ih]
theorem same_upd {H H' : Hp} {l : Addr} {o : HO} (e : Same H H') (h : H l = none) : Same H (upd H' l o) := fun b u q => by
  rw [upd_ne (ne_of_none q h)]; exact e b u q
theorem len2 {α : Type} {l : List α} (h : l.length = 2) : ∃ x y, l = [x, y] := by
  match l, h with
  | [x, y], _ => exact ⟨x, y, rfl⟩
/-- a square is drawn out of those that are left -/
theorem popDraw {H : Hp} {lf : Addr} {left : List Nat} {x : Int} {Q : VK} (h : H lf = some (.lst (nv left))) (h0 : 0 < left.length) (h1 : left.length ≤ 36)
    (q : ∀ (k y : Nat), left[k]? = some y → Q (.int (y : Int)) (upd H lf (.lst (nv (left.eraseIdx k))))) : rPopAt (.ref lf) [.int (x % ((nv left).length : Int))] H Q := by
  have hl := nv_len left
  have a0 : 0 ≤ x % ((nv left).length : Int) := Int.emod_nonneg _ (by omega)
  have a1 : x % ((nv left).length : Int) < ((nv left).length : Int) := Int.emod_lt_of_pos _ (by omega)
  have a2 : (x % ((nv left).length : Int)).toNat < left.length := by omega
  have a3 : left[(x % ((nv left).length : Int)).toNat]? = some left[(x % ((nv left).length : Int)).toNat] := List.getElem?_eq_getElem a2
  refine ⟨lf, _, _, (x % ((nv left).length : Int)).toNat, _, rfl, rfl, h, by omega, by omega, seqIndex_of a0 a1, nv_get a3, ?_⟩
  rw [nv_erase]
  exact q _ _ a3
theorem Same.tseq {K : PySem.W.Frag} {H H' : Hp} {a : Addr} {xs : List V} (e : Same H H') (h : SqT K H a xs) : SqT K H' a xs := by
  rcases h with (h | ⟨o, h⟩) | h
  · exact .inl (.inl (e _ _ h))
  · exact .inl (.inr ⟨o, e _ _ h⟩)
  · exact .inr h
theorem RowAt.same {K : PySem.W.Frag} {H H' : Hp} {p : Addr} {r : List Nat} (e : Same H H') (h : RowAt K H p r) : RowAt K H' p r := h.imp e.seq (Same.tseq e)
theorem rowIx {K : PySem.W.Frag} {H : Hp} {p : Addr} {r : List Nat} {n i : Nat} {Q : VK} (h : RowAt K H p r) (hr : Row n r) (hi : i < n) (q : Q (.int (nx r i : Int)) H) : rIx K (.ref p) (.int (i : Int)) H Q := by
  rcases h with h | h
  · exact .inl ⟨p, _, _, _, rfl, rfl, h, atI_nat (nv_get (hr.get hi)), q⟩
  · exact .inr (.inl ⟨p, _, _, _, rfl, rfl, h, atI_nat (nv_get (hr.get hi)), q⟩)
theorem nv_flat (xs : List Nat) : (nv xs).all flatV = true := by
  rw [List.all_eq_true]
  intro x hx
  obtain ⟨n, _, rfl⟩ := List.mem_map.mp hx
  rfl
theorem inV_nv (x : Nat) (xs : List Nat) : inV (.int (x : Int)) (nv xs) = decide (x ∈ xs) := by
  unfold inV nv
  rw [List.any_map]
  apply Bool.eq_iff_iff.mpr
  rw [List.any_eq_true, decide_eq_true_iff]
  constructor
  · rintro ⟨y, hy, e⟩
    have : (y : Int) = (x : Int) := by simpa [eqV, scal] using e
    have : y = x := by omega
    rw [← this]; exact hy
  · intro h
    exact ⟨x, h, by simp [eqV, scal]⟩
/-- how far the fifth slot is from 100 -/
def mu (j : Nat) (σ : St) : Nat := match σ[j]? with
  | some (some (.int k)) => (100 - k).toNat
  | _ => 0
theorem foldl_put_len : ∀ (l M : List Nat), (l.foldl put M).length ≤ M.length + l.length
  | [], M => Nat.le_refl _
  | x :: l, M => by
    have h1 := foldl_put_len l (put M x)
    have h2 : (put M x).length ≤ M.length + 1 := by unfold put; split <;> simp
    simp only [List.foldl_cons, List.length_cons]; omega
end K1
namespace K1
open PySem L2 Sq
section
variable {P : Program} {w : World} {K : PySem.W.Frag} {mg : Str → Option Value} {base : Heap}
theorem scCell : FnScope ["_law_script", "_law_k"] ["_law_script", "_law_k"] (defScope sCell) := ⟨rfl, rfl, rfl, by decide +kernel, rfl, by decide +kernel, by decide +kernel⟩
theorem ok_cell {f : Addr} {fd : FuncData} (T : Bi mg) (F : Fn K mg "_law_cell" sCell ["_law_script", "_law_k"] f fd) : FnOk P w K mg base CX0 1 f fd ["_law_script", "_law_k"] (spCell K) := by
  refine F.F.ok scCell (fun vs H Q E h => ?_) (fun cdv A outer s H vs Q E hr h => ?_)
  · obtain ⟨a, ns, j, rfl, _⟩ := h; rfl
  · obtain ⟨a, ns, j, rfl, hS, h0, k⟩ := h
    refine ⟨_, pss_cons (ps_if (pt_cmpR op_lt (pv 1) (pe_callB call_len_seq (by rfl) T.len PySem.boot_len (pa_cons (pv 0) pa_nil)) (nomark _)) (pss_one (ps_ret (pe_ix ix_list (pv 0) (pv 1) (fun _ _ => rfl)))) pss_nil)
      (pss_one (ps_ret pe_int)), ?_⟩
    refine ⟨_, rfl, _, rfl, a, _, rfl, .inl hS, _, _, rfl, rfl, _, rfl, ?_⟩
    refine ite2 (fun hlt => ?_) (fun hge => ?_)
    · have hlt : j < ((ns.map V.int).length : Int) := of_decide_eq_true hlt
      rw [List.length_map] at hlt
      have hj : j.toNat < ns.length := by omega
      refine ⟨_, rfl, _, rfl, a, _, j, _, rfl, rfl, hS, ?_, k⟩
      have e : (ns.map V.int)[j.toNat]? = some (.int (ns.getD j.toNat 0)) := by simp [List.getD_eq_getElem?_getD, hj]
      have := atI_nat e
      rwa [Int.toNat_of_nonneg h0] at this
    · have hge : ¬ j < ((ns.map V.int).length : Int) := fun z => hge (decide_eq_true z)
      rw [List.length_map] at hge
      have e : ns.getD j.toNat 0 = 0 := by rw [List.getD_eq_getElem?_getD, List.getElem?_eq_none (by omega)]; rfl
      rw [e] at k
      exact k
end
end K1
namespace K1
open PySem L2 Sq
section
variable {P : Program} {w : World} {K : PySem.W.Frag} {mg : Str → Option Value} {base : Heap}
theorem scWhole : FnScope ["_law_found"] ["_law_found"] (defScope sWhole) := ⟨rfl, rfl, rfl, by decide +kernel, rfl, by decide +kernel, by decide +kernel⟩
theorem ok_whole {f : Addr} {fd : FuncData} (T : Bi mg) (F : Fn K mg "_law_whole" sWhole ["_law_found"] f fd) : FnOk P w K mg base CX0 1 f fd ["_law_found"] spWhole := by
  refine F.F.ok scWhole (fun vs H Q E h => ?_) (fun cdv A outer s H vs Q E hr h => ?_)
  · obtain ⟨i, rfl, _⟩ := h; rfl
  · obtain ⟨i, rfl, k⟩ := h
    refine ⟨_, pss_one (ps_ret (pe_and (pe_callB call_isinst (by rfl) T.isin boot_isin (pa_cons (pv 0) (pa_cons (pe_bltn (v := .ty "int") (by rfl) T.int boot_int rfl) pa_nil)))
      (pe_one (pe_not (pe_callB call_isinst (by rfl) T.isin boot_isin (pa_cons (pv 0) (pa_cons (pe_bltn (v := .ty "bool") (by rfl) T.bool boot_bool rfl) pa_nil))))))), ?_⟩
    refine ⟨_, rfl, _, _, _, _, rfl, .int i, kit_int_int K, _, rfl, ?_⟩
    refine iteT ?_
    exact ⟨_, rfl, _, _, _, _, rfl, .int i, kit_int_bool K, _, rfl, k⟩
end
end K1
namespace K1
open PySem L2 Sq
section
variable {P : Program} {w : World} {K : PySem.W.Frag} {mg : Str → Option Value} {base : Heap}
theorem scSize : FnScope ["sheet"] ["sheet"] (defScope sSize) := ⟨rfl, rfl, rfl, by decide +kernel, rfl, by decide +kernel, by decide +kernel⟩
theorem ok_size {f : Addr} {fd : FuncData} (T : Bi mg) (F : Fn K mg "size" sSize ["sheet"] f fd) : FnOk P w K mg base CX0 1 f fd ["sheet"] spSize := by
  refine F.F.ok scSize (fun vs H Q E h => ?_) (fun cdv A outer s H vs Q E hr h => ?_)
  · obtain ⟨a, r, u, rfl, _⟩ := h; rfl
  · obtain ⟨a, r, u, rfl, ⟨p, q, h1, h2, h3⟩, k⟩ := h
    refine ⟨_, pss_one (ps_ret (pe_callB call_len_seq (by rfl) T.len PySem.boot_len (pa_cons (pe_ix ix_tup (pv 0) pe_int (fun _ _ => rfl)) pa_nil))), ?_⟩
    refine ⟨_, rfl, a, _, 0, _, rfl, rfl, SqT.of h1, atI_nat (j := 0) rfl, p, _, rfl, .inr (SqT.of h2), ?_⟩
    rw [nv_len]; exact k
end
end K1
namespace K1
open PySem L2 Sq
section
variable {P : Program} {w : World} {K : PySem.W.Frag} {mg : Str → Option Value} {base : Heap}
theorem scIsSq : FnScope ["thing", "squares"] ["thing", "squares"] (defScope sIsSq) := ⟨rfl, rfl, rfl, by decide +kernel, rfl, by decide +kernel, by decide +kernel⟩
theorem scIsWh : FnScope ["thing"] ["thing"] (defScope sIsWhole) := ⟨rfl, rfl, rfl, by decide +kernel, rfl, by decide +kernel, by decide +kernel⟩
theorem ok_isWh {f : Addr} {fd : FuncData} (T : Bi mg) (F : Fn K mg "is_whole" sIsWhole ["thing"] f fd) : FnOk P w K mg base CX0 1 f fd ["thing"] spWhole := by
  refine F.F.ok scIsWh (fun vs H Q E h => ?_) (fun cdv A outer s H vs Q E hr h => ?_)
  · obtain ⟨i, rfl, _⟩ := h; rfl
  · obtain ⟨i, rfl, k⟩ := h
    refine ⟨_, pss_one (ps_ret (pe_and (pe_callB call_isinst (by rfl) T.isin boot_isin (pa_cons (pv 0) (pa_cons (pe_bltn (v := .ty "int") (by rfl) T.int boot_int rfl) pa_nil)))
      (pe_one (pe_not (pe_callB call_isinst (by rfl) T.isin boot_isin (pa_cons (pv 0) (pa_cons (pe_bltn (v := .ty "bool") (by rfl) T.bool boot_bool rfl) pa_nil))))))), ?_⟩
    refine ⟨_, rfl, _, _, _, _, rfl, .int i, kit_int_int K, _, rfl, ?_⟩
    refine iteT ?_
    exact ⟨_, rfl, _, _, _, _, rfl, .int i, kit_int_bool K, _, rfl, k⟩
theorem ok_isSq {f fw : Addr} {fd fdw : FuncData} (T : Bi mg) (F : Fn K mg "is_square" sIsSq ["thing", "squares"] f fd) (FW : Fn K mg "is_whole" sIsWhole ["thing"] fw fdw) : FnOk P w K mg base CX0 2 f fd ["thing", "squares"] spIsSq := by
  have GW : FnOk P w K mg base CX0 1 fw fdw ["thing"] spWhole := ok_isWh T FW
  refine F.F.ok scIsSq (fun vs H Q E h => ?_) (fun cdv A outer s H vs Q E hr h => ?_)
  · obtain ⟨i, n, rfl, _⟩ := h; rfl
  · obtain ⟨i, n, rfl, k⟩ := h
    refine ⟨_, pss_one (ps_ret (pe_and (pe_call GW hr rfl FW.m FW.F.kp FW.b .nil pass0 (pa_cons (pv 0) pa_nil)) (pe_one (pe_chain op_le op_lt pe_int (pv 0) (pv 1))))), ?_⟩
    refine ⟨_, rfl, i, rfl, _, rfl, ?_⟩
    refine iteT ?_
    refine ⟨_, rfl, _, _, rfl, rfl, _, rfl, ?_⟩
    refine ite2 (fun h => ?_) (fun h => ?_)
    · have h : 0 ≤ i := of_decide_eq_true h
      refine ⟨_, rfl, _, _, rfl, rfl, ?_⟩
      have e : decide (0 ≤ i ∧ i < n) = decide (i < n) := by simp [h]
      rw [e] at k; exact k
    · have h : ¬ 0 ≤ i := fun z => h (decide_eq_true z)
      have e : decide (0 ≤ i ∧ i < n) = false := by simp [h]
      rw [e] at k; exact k
end
end K1

namespace K1
open PySem L2 Sq
def spLines (K : PySem.W.Frag) : Sp := fun vs H Q _ => ∃ (a : Addr) (ns : List Int) (j : Int) (n : Nat), vs = [.ref a, .int j, .int (n : Int)] ∧ SqL K H a (ns.map V.int) ∧ 0 ≤ j ∧ 1 ≤ n ∧ n ≤ 36 ∧
  ∀ (H' : Hp) (l p q : Addr) (r u : List Nat), Same H H' → H' l = some (.lst [.ref p, .ref q]) → H' p = some (.lst (nv r)) → H' q = some (.lst (nv u)) → Row n r → Row n u → Q (.ref l) H'
section
variable {P : Program} {w : World} {K : PySem.W.Frag} {mg : Str → Option Value} {base : Heap}
abbrev n_ln2 : List Str := ["_law_script", "_law_at", "_law_many", "_law_mine", "_law_great", "_law_number", "_law_told", "_law_turn", "_law_left", "_law_line", "_law_k", "_law_cell_here"]
theorem sc_ln2 : FnScope n_ln2 ["_law_script", "_law_at", "_law_many"] (defScope sLines) := ⟨rfl, rfl, rfl, by decide +kernel, rfl, by decide +kernel, by decide +kernel⟩
theorem ok_lines {f fc : Addr} {fd dc : FuncData} (T : Bi mg) (F : Fn K mg "_law_lines" sLines ["_law_script", "_law_at", "_law_many"] f fd) (FC : Fn K mg "_law_cell" sCell ["_law_script", "_law_k"] fc dc) (GC : FnOk P w K mg base CX0 1 fc dc ["_law_script", "_law_k"] (spCell K)) : FnOk P w K mg base CX0 2 f fd ["_law_script", "_law_at", "_law_many"] (spLines K) := by
  refine F.F.ok sc_ln2 (fun vs H Q E h => ?_) (fun cdv A outer s H vs Q E hr h => ?_)
  · obtain ⟨a, ns, j, n, rfl, _⟩ := h; rfl
  · obtain ⟨a, ns, j, n, rfl, hS, h0, hn1, hn, k⟩ := h
    have hr1 : Room 1 _ := hr.mono (by decide)
    refine ⟨_, (pss_cons (ps_set (i := 3) sc_ln2.nd rfl (Or.inl rfl) (pe_call GC hr rfl FC.m FC.F.kp FC.b .nil pass0 (pa_cons (pv 0) (pa_cons (pv 1) pa_nil))))
      (pss_cons (ps_set (i := 4) sc_ln2.nd rfl (Or.inl rfl) (pe_cmpR op_ge (pv 3) (pe_op op_pow pe_int pe_int) (nomark _)))
      (pss_cons (ps_set (i := 5) sc_ln2.nd rfl (Or.inl rfl) (pe_op op_add pe_int (pe_op op_mod (pv 3) pe_int)))
      (pss_cons (ps_set (i := 6) sc_ln2.nd rfl (Or.inl rfl) (pe_lst pa_nil))
      (pss_cons (ps_for PassesOwn.never rfl (pi_range1 rfl T.range (pa_cons pe_int pa_nil)) (pg_name (i := 7) sc_ln2.nd rfl (Or.inl rfl)) (pss_cons (ps_set (i := 8) sc_ln2.nd rfl (Or.inl rfl) (pe_callTy (call_list_rng rfl) rfl T.list boot_list (pa_cons (pe_callTy call_range1 rfl T.range PyProof.Rows.boot_range (pa_cons (pv 2) pa_nil)) pa_nil)))
      (pss_cons (ps_set (i := 9) sc_ln2.nd rfl (Or.inl rfl) (pe_lst pa_nil))
      (pss_cons (ps_for PassesOwn.never rfl (pi_range1 rfl T.range (pa_cons (pv 2) pa_nil)) (pg_name (i := 10) sc_ln2.nd rfl (Or.inl rfl)) (pss_cons (ps_set (i := 11) sc_ln2.nd rfl (Or.inl rfl) (pe_call GC hr rfl FC.m FC.F.kp FC.b .nil pass0 (pa_cons (pv 0) (pa_cons (pe_op op_add (pe_op op_add (pe_op op_add (pv 1) pe_int) (pe_op op_mul (pv 7) (pv 2))) (pv 10)) pa_nil))))
      (pss_cons (ps_set (i := 5) sc_ln2.nd rfl (Or.inl rfl) (pe_op op_mod (pe_op op_add (pe_op op_mul (pv 5) pe_int) (pv 11)) pe_int))
      (pss_one (ps_if (pt_val (pv 4)) (pss_cons (ps_expr (pe_bm PySem.F.plainAttrs_list PySem.F.slot_list_append PySem.F.type_list_append mt_append (pv 9) (pa_cons (pe_bm PySem.F.plainAttrs_list PySem.F.slot_list_pop PySem.F.type_list_pop mt_popAt (pv 8) (pa_cons (pe_op op_mod (pv 3) (pe_callB call_len_seq rfl T.len PySem.boot_len (pa_cons (pv 8) pa_nil))) pa_nil)) pa_nil)))
      (pss_one (ps_set (i := 3) sc_ln2.nd rfl (Or.inl rfl) (pe_op op_fdiv (pv 3) (pe_op op_add (pe_callB call_len_seq rfl T.len PySem.boot_len (pa_cons (pv 8) pa_nil)) pe_int))))) (pss_one (ps_expr (pe_bm PySem.F.plainAttrs_list PySem.F.slot_list_append PySem.F.type_list_append mt_append (pv 9) (pa_cons (pe_bm PySem.F.plainAttrs_list PySem.F.slot_list_pop PySem.F.type_list_pop mt_popAt (pv 8) (pa_cons (pe_op op_mod (pe_op op_fdiv (pv 5) pe_int) (pe_callB call_len_seq rfl T.len PySem.boot_len (pa_cons (pv 8) pa_nil))) pa_nil)) pa_nil)))))))))
      (pss_one (ps_expr (pe_bm PySem.F.plainAttrs_list PySem.F.slot_list_append PySem.F.type_list_append mt_append (pv 6) (pa_cons (pv 9) pa_nil))))))))
      (pss_one (ps_ret (pv 6)))))))), ?_⟩
    -- number, told
    refine ⟨_, rfl, _, rfl, a, ns, j, rfl, hS, h0, ?_⟩
    generalize ns.getD j.toNat 0 = mi0
    refine ⟨_, rfl, _, _, rfl, rfl, ⟨by decide, by decide, by decide⟩, _, _, rfl, rfl, ?_⟩
    refine ⟨_, rfl, _, _, rfl, rfl, (by show (0 : Int) < 2147483646; decide), _, _, rfl, rfl, ?_⟩
    refine ⟨Nat.zero_le _, fun l hl => ?_⟩
    refine ⟨2, rfl, by decide, by decide, for_range (n := 2) (fun t σ H2 => ∃ (gr : Bool) (mi num : Int) (o5 o6 o7 o8 o9 : Option V) (ps : List (Addr × List Nat)), σ = [some (.ref a), some (.int j), some (.int (n : Int)), some (.int mi), some (.bl gr), some (.int num), some (.ref l), o5, o6, o7, o8, o9] ∧ Same H H2 ∧ ps.length = t ∧
      H2 l = some (.lst (ps.map fun p => .ref p.1)) ∧ ∀ p ∈ ps, p.1 ≠ l ∧ H2 p.1 = some (.lst (nv p.2)) ∧ Row n p.2) ?_ ?_ ?_⟩
    · exact ⟨_, _, _, _, _, _, _, _, [], rfl, same_upd (Same.refl H) hl, rfl, upd_same, fun p hp => nomatch hp⟩
    · rintro t σ H2 ht ⟨gr, mi, num, o5, o6, o7, o8, o9, ps, rfl, s2, hps, h2l, hall⟩
      -- left, line
      refine ⟨_, rfl, (n : Int), rfl, fun r0 hr0 => ⟨r0, n, rfl, upd_same, by omega, fun lf hlf => ?_⟩⟩
      refine ⟨Nat.zero_le _, fun ln hln => ?_⟩
      have nr0l : l ≠ r0 := ne_of_none h2l hr0
      have hH : ∀ b, H2 b = none → H b = none := fun b q => s2.free q
      have f0 : H2 lf = none := by
        by_cases e : lf = r0
        · rw [e]; exact hr0
        · rwa [upd_ne e] at hlf
      have nlfr : lf ≠ r0 := fun e => by rw [e, upd_same] at hlf; cases hlf
      have nlnl : ln ≠ lf := fun e => by rw [e, upd_same] at hln; cases hln
      have g0 : (upd H2 r0 (.rng 0 (n : Int))) ln = none := by rwa [upd_ne nlnl] at hln
      have nlnr : ln ≠ r0 := fun e => by rw [e, upd_same] at g0; cases g0
      have g1 : H2 ln = none := by rwa [upd_ne nlnr] at g0
      have llf : l ≠ lf := ne_of_none h2l f0
      have lln : l ≠ ln := ne_of_none h2l g1
      refine ⟨_, rfl, (n : Int), rfl, by omega, by omega, ?_⟩
      rw [Int.toNat_natCast]
      refine for_range (n := n) (fun i σ H3 => ∃ (mi num : Int) (o8 o9 : Option V) (line left : List Nat), σ = [some (.ref a), some (.int j), some (.int (n : Int)), some (.int mi), some (.bl gr), some (.int num), some (.ref l), some (.int (0 + (t : Int))), some (.ref lf), some (.ref ln), o8, o9] ∧
        (∀ b, b ≠ r0 → b ≠ lf → b ≠ ln → H3 b = H2 b) ∧ H3 lf = some (.lst (nv left)) ∧ H3 ln = some (.lst (nv line)) ∧ line.length = i ∧ (line ++ left).Perm (List.range n)) ?_ ?_ ?_
      · refine ⟨_, _, _, _, [], List.range n, rfl, fun b c1 c2 c3 => by rw [upd_ne c3, upd_ne c2, upd_ne c1], by rw [upd_ne nlnl.symm, upd_same], upd_same, rfl, List.Perm.refl _⟩
      · rintro i σ H3 hi ⟨mi, num, o8, o9, line, left, rfl, same3, hlf3, hln3, hlen, hp⟩
        have hS3 : SqL K H3 a (ns.map V.int) := by
          have hS2 := s2.seq hS
          rcases hS2 with (q | ⟨o, q⟩) | q
          · exact .inl (.inl (by rw [same3 a (ne_of_none q hr0) (ne_of_none q f0) (ne_of_none q g1)]; exact q))
          · exact .inl (.inr ⟨o, by rw [same3 a (ne_of_none q hr0) (ne_of_none q f0) (ne_of_none q g1)]; exact q⟩)
          · exact .inr q
        have hleft : left.length = n - i := by
          have := hp.length_eq
          simp only [List.length_append, List.length_range] at this
          omega
        have hpos : 0 < left.length := by omega
        refine ⟨_, rfl, _, rfl, _, _, rfl, rfl, _, rfl, _, rfl, _, _, rfl, rfl, .inr ⟨by omega, by omega⟩, _, _, rfl, rfl, _, rfl, _, _, rfl, rfl, a, ns, _, rfl, hS3, ?_, ?_⟩
        · have : (0 : Int) ≤ (0 + (t : Int)) * (n : Int) := Int.mul_nonneg (by omega) (by omega)
          omega
        refine ⟨_, rfl, _, _, rfl, rfl, .inr ⟨by decide, by decide⟩, _, rfl, _, _, rfl, rfl, _, _, rfl, rfl, (by show (0 : Int) < 2147483647; decide), ?_⟩
        refine ⟨_, rfl, gr, rfl, ?_⟩
        refine ite2 (fun _ => ?_) (fun _ => ?_)
        · skip
          refine ⟨_, rfl, .inl ⟨rfl, _, SqL.of hln3⟩, _, rfl, .inl ⟨rfl, _, SqL.of hlf3⟩, _, rfl, _, rfl, lf, _, rfl, .inl (SqL.of hlf3), _, _, rfl, rfl, ?_, ?_⟩
          · rw [nv_len]; omega
          refine popDraw hlf3 hpos (by omega) fun kx y hy => ?_
          have e3 : (upd H3 lf (.lst (nv (left.eraseIdx kx)))) ln = some (.lst (nv line)) := by rw [upd_ne nlnl]; exact hln3
          refine ⟨ln, _, _, rfl, rfl, e3, ?_, ?_⟩
          · rw [nv_len]; exact small1000 (by omega)
          have e5 : (upd (upd H3 lf (.lst (nv (left.eraseIdx kx)))) ln (.lst (nv line ++ [V.int (y : Int)]))) lf = some (.lst (nv (left.eraseIdx kx))) := by rw [upd_ne nlnl.symm, upd_same]
          refine ⟨_, rfl, _, rfl, lf, _, rfl, .inl (SqL.of e5), _, _, rfl, rfl, _, _, rfl, rfl, ⟨?_, ?_⟩, ?_⟩
          · rw [nv_len]; omega
          · rw [nv_len, List.length_eraseIdx]; split <;> omega
          refine ⟨_, _, _, _, line ++ [y], left.eraseIdx kx, rfl, fun b c1 c2 c3 => ?_, ?_, ?_, ?_, pop_perm hp hy⟩
          · rw [upd_ne c3, upd_ne c2]; exact same3 b c1 c2 c3
          · rw [upd_ne nlnl.symm, upd_same]
          · rw [upd_same, nv_snoc]
          · rw [List.length_append, hlen]; rfl
        · skip
          refine ⟨_, rfl, .inl ⟨rfl, _, SqL.of hln3⟩, _, rfl, .inl ⟨rfl, _, SqL.of hlf3⟩, _, rfl, _, _, rfl, rfl, ⟨by decide, by decide⟩, _, rfl, lf, _, rfl, .inl (SqL.of hlf3), _, _, rfl, rfl, ?_, ?_⟩
          · rw [nv_len]; omega
          refine popDraw hlf3 hpos (by omega) fun kx y hy => ?_
          have e3 : (upd H3 lf (.lst (nv (left.eraseIdx kx)))) ln = some (.lst (nv line)) := by rw [upd_ne nlnl]; exact hln3
          refine ⟨ln, _, _, rfl, rfl, e3, ?_, ?_⟩
          · rw [nv_len]; exact small1000 (by omega)
          refine ⟨_, _, _, _, line ++ [y], left.eraseIdx kx, rfl, fun b c1 c2 c3 => ?_, ?_, ?_, ?_, pop_perm hp hy⟩
          · rw [upd_ne c3, upd_ne c2]; exact same3 b c1 c2 c3
          · rw [upd_ne nlnl.symm, upd_same]
          · rw [upd_same, nv_snoc]
          · rw [List.length_append, hlen]; rfl
      · rintro σ H3 ⟨mi, num, o8, o9, line, left, rfl, same3, hlf3, hln3, hlen, hp⟩
        have hl0 : left = [] := by
          have := hp.length_eq
          simp only [List.length_append, List.length_range] at this
          exact List.length_eq_zero_iff.mp (by omega)
        have hrow : Row n line := Row.of_perm (by rw [hl0, List.append_nil] at hp; exact hp)
        have hl3 : H3 l = some (.lst (ps.map fun p => .ref p.1)) := by rw [same3 l nr0l llf lln]; exact h2l
        refine ⟨_, rfl, .inl ⟨rfl, _, SqL.of hl3⟩, _, rfl, l, _, _, rfl, rfl, hl3, ?_, ?_⟩
        · rw [List.length_map]; exact small1000 (by omega)
        refine ⟨_, _, _, _, _, _, _, _, ps ++ [(ln, line)], rfl, fun b o q => ?_, by rw [List.length_append, hps]; rfl, by rw [upd_same, List.map_append]; rfl, fun p hp' => ?_⟩
        · have q2 := s2 b o q
          rw [upd_ne (fun e => by rw [e, hl] at q; cases q), same3 b (ne_of_none q2 hr0) (ne_of_none q2 f0) (ne_of_none q2 g1)]
          exact q2
        · rcases List.mem_append.mp hp' with hp' | hp'
          · obtain ⟨c1, c2, c3⟩ := hall p hp'
            refine ⟨c1, ?_, c3⟩
            rw [upd_ne c1, same3 p.1 (ne_of_none c2 hr0) (ne_of_none c2 f0) (ne_of_none c2 g1)]
            exact c2
          · rw [List.mem_singleton.mp hp']
            exact ⟨lln.symm, by rw [upd_ne lln.symm]; exact hln3, hrow⟩
    · rintro σ H2 ⟨gr, mi, num, o5, o6, o7, o8, o9, ps, rfl, s2, hps, h2l, hall⟩
      obtain ⟨⟨p, r⟩, ⟨q, u⟩, rfl⟩ := len2 hps
      have a1 := hall (p, r) (by simp)
      have a2 := hall (q, u) (by simp)
      exact ⟨_, rfl, k H2 l p q r u s2 h2l a1.2.1 a2.2.1 a1.2.2 a2.2.2⟩
end
end K1
namespace K1
open PySem L2 Sq
def spMet (K : PySem.W.Frag) : Sp := fun vs H Q _ => ∃ (pr pu : Addr) (n : Nat) (r u : List Nat) (f : Nat), vs = [.ref pr, .ref pu, .int (f : Int)] ∧ RowAt K H pr r ∧ RowAt K H pu u ∧ Row n r ∧ Row n u ∧ f < n ∧ n ≤ 36 ∧
  ∀ (H' : Hp) (l : Addr) (M : List Nat), Same H H' → H l = none → H' l = some (.lst (nv M)) → MetAll n r u f M → Q (.ref l) H'
section
variable {P : Program} {w : World} {K : PySem.W.Frag} {mg : Str → Option Value} {base : Heap}
theorem scMet : FnScope ["_law_right", "_law_up", "_law_first", "_law_met_here", "_law_at", "_law_square"] ["_law_right", "_law_up", "_law_first"] (defScope sMet) := ⟨rfl, rfl, rfl, by decide +kernel, rfl, by decide +kernel, by decide +kernel⟩
theorem ok_met {f : Addr} {fd : FuncData} (T : Bi mg) (F : Fn K mg "_law_met" sMet ["_law_right", "_law_up", "_law_first"] f fd) : FnOk P w K mg base CX0 1 f fd ["_law_right", "_law_up", "_law_first"] (spMet K) := by
  refine F.F.ok scMet (fun vs H Q E h => ?_) (fun cdv A outer s H vs Q E hr h => ?_)
  · obtain ⟨pr, pu, n, r, u, f, rfl, _⟩ := h; rfl
  · obtain ⟨pr, pu, n, r, u, f, rfl, hR, hU, rr, ru, hf, hn, k⟩ := h
    refine ⟨_, pss_cons (ps_set (i := 3) scMet.nd rfl (Or.inl rfl) (pe_lst (pa_cons (pv 2) pa_nil)))
      (pss_cons (ps_set (i := 4) scMet.nd rfl (Or.inl rfl) pe_int)
      (pss_cons (ps_while PassesOwn.never (pt_cmpR op_lt (pv 4) (pe_callB call_len_seq (by rfl) T.len PySem.boot_len (pa_cons (pv 3) pa_nil)) (nomark _))
        (pss_cons (ps_for PassesOwn.never rfl (pi_tup (pe_tup (pa_cons (pe_ix ix_seq (pv 0) (pe_ix ix_list (pv 3) (pv 4) (fun _ _ => rfl)) (fun _ _ => rfl)) (pa_cons (pe_ix ix_seq (pv 1) (pe_ix ix_list (pv 3) (pv 4) (fun _ _ => rfl)) (fun _ _ => rfl)) pa_nil)))) (pg_name (i := 5) scMet.nd rfl (Or.inl rfl))
          (pss_one (ps_if (pt_cmpR op_notIn_seq (pv 5) (pv 3) rfl) (pss_one (ps_expr (pe_bm PySem.F.plainAttrs_list PySem.F.slot_list_append PySem.F.type_list_append mt_append (pv 3) (pa_cons (pv 5) pa_nil)))) pss_nil)))
        (pss_one (ps_set (i := 4) scMet.nd rfl (Or.inl rfl) (pe_op op_add (pv 4) pe_int)))))
      (pss_one (ps_ret (pv 3))))), ?_⟩
    refine ⟨_, rfl, (by show 1 ≤ sizeLine; decide), fun l hl => ?_⟩
    refine while_by (fun σ H2 => ∃ (M : List Nat) (k : Nat) (o5 : Option V), σ = [some (.ref pr), some (.ref pu), some (.int (f : Int)), some (.ref l), some (.int (k : Int)), o5] ∧ Same H H2 ∧ H2 l = some (.lst (nv M)) ∧ Met n r u f M k) (fun σ _ => mu 4 σ) ?_ ?_ ?_
    · exact ⟨[f], 0, _, rfl, same_upd (Same.refl H) hl, upd_same, Met.start hf⟩
    · rintro σ H2 ⟨M, kk, o5, rfl, s2, h2l, hM⟩
      refine ⟨_, rfl, _, rfl, l, _, rfl, .inl (SqL.of h2l), _, _, rfl, rfl, _, rfl, ?_⟩
      rw [nv_len]
      refine ite2 (fun hlt => ?_) (fun hge => ?_)
      · have hlt : (kk : Int) < (M.length : Int) := of_decide_eq_true hlt
        have hk : kk < M.length := by omega
        have hx : M[kk]? = some M[kk] := List.getElem?_eq_getElem hk
        have hxn : M[kk] < n := hM.lt _ (List.getElem_mem hk)
        have hMl := hM.len
        -- for square in (right[..], up[..])
        refine ⟨_, rfl, _, rfl, _, rfl, l, _, _, _, rfl, rfl, SqL.of h2l, atI_nat (nv_get hx), rowIx (hR.same s2) rr hxn ?_⟩
        refine ⟨_, rfl, _, rfl, _, rfl, l, _, _, _, rfl, rfl, SqL.of h2l, atI_nat (nv_get hx), rowIx (hU.same s2) ru hxn ?_⟩
        refine ⟨(by show 2 ≤ sizeLine; decide), fun tp htp => ⟨tp, rfl, ⟨_, SqT.of upd_same⟩, ?_⟩⟩
        have nlt : l ≠ tp := ne_of_none h2l htp
        refine for_tup (K := K) (a := tp) (xs := [.int (nx r M[kk] : Int), .int (nx u M[kk] : Int)]) (fun i σ H3 => ∃ (o5 : Option V), σ = [some (.ref pr), some (.ref pu), some (.int (f : Int)), some (.ref l), some (.int (kk : Int)), o5] ∧ Same H H3 ∧ H3 tp = some (.tup [.int (nx r M[kk] : Int), .int (nx u M[kk] : Int)]) ∧
          H3 l = some (.lst (nv (([nx r M[kk], nx u M[kk]].take i).foldl put M)))) ?_ ?_ ?_ ?_
        · refine ⟨_, rfl, same_upd s2 (s2.free htp), upd_same, by rw [upd_ne nlt]; exact h2l⟩
        · rintro i σ H3 hi ⟨_, _, _, h3, _⟩
          exact SqT.of h3
        · rintro i x σ H3 hi ⟨o5, rfl, s3, h3, h3l⟩
          obtain ⟨y, ey, rfl⟩ := nv_get' (xs := [nx r M[kk], nx u M[kk]]) hi
          have hi2 : i < 2 := (List.getElem?_eq_some_iff.mp ey).1
          have hlen := foldl_put_len ([nx r M[kk], nx u M[kk]].take i) M
          have htk : ([nx r M[kk], nx u M[kk]].take i).length ≤ 2 := by rw [List.length_take]; exact Nat.min_le_right _ _
          have hfold : ([nx r M[kk], nx u M[kk]].take (i + 1)).foldl put M = put (([nx r M[kk], nx u M[kk]].take i).foldl put M) y := by
            rw [List.take_add_one, ey, List.foldl_append]; rfl
          rw [hfold]
          generalize hM' : ([nx r M[kk], nx u M[kk]].take i).foldl put M = M' at h3l hlen
          refine ⟨_, rfl, _, rfl, l, _, rfl, .inl (SqL.of h3l), rfl, nv_flat _, _, rfl, ?_⟩
          show (if (!inV (.int (y : Int)) (nv M')) = true then _ else _)
          rw [inV_nv]
          by_cases hy : y ∈ M'
          · rw [decide_eq_true hy]
            refine iteF ?_
            refine ⟨_, rfl, s3, h3, ?_⟩
            unfold put; rw [if_pos hy]; exact h3l
          · rw [decide_eq_false hy]
            refine iteT ?_
            refine ⟨_, rfl, .inl ⟨rfl, _, SqL.of h3l⟩, _, rfl, l, _, _, rfl, rfl, h3l, ?_, ?_⟩
            · rw [nv_len]; exact small1000 (by omega)
            refine ⟨_, rfl, same_upd s3 hl, by rw [upd_ne nlt.symm]; exact h3, ?_⟩
            unfold put; rw [if_neg hy, upd_same, nv_snoc]
        · rintro σ H3 ⟨o5, rfl, s3, h3, h3l⟩
          refine ⟨_, rfl, _, _, rfl, rfl, ⟨_, kk + 1, _, rfl, s3, h3l, hM.step rr ru hx⟩, ?_⟩
          show (100 - ((kk : Int) + 1)).toNat < (100 - (kk : Int)).toNat
          omega
      · have hge : ¬ (kk : Int) < (M.length : Int) := fun z => hge (decide_eq_true z)
        exact ⟨_, rfl, k H2 l M s2 hl h2l (hM.all (by omega))⟩
    · rintro σ H Q Q' h ⟨v, e1, v', e2, p, ys, e3, sq, i, j, e4, e5, k, e6, q⟩
      exact ⟨v, e1, v', e2, p, ys, e3, sq, i, j, e4, e5, k, e6, h _ _ q⟩
end
end K1
namespace K1
open PySem L2 Sq
def spAmong (K : PySem.W.Frag) : Sp := fun vs H Q _ => ∃ (pr pu pm : Addr) (n : Nat) (r u S : List Nat), vs = [.ref pr, .ref pu, .ref pm] ∧ RowAt K H pr r ∧ RowAt K H pu u ∧ SqL K H pm (nv S) ∧ Row n r ∧ Row n u ∧ n ≤ 36 ∧ S.Nodup ∧
  (∀ x ∈ S, x < n ∧ nx r x ∈ S ∧ nx u x ∈ S) ∧ ∀ (H' : Hp) (a : Addr), Same H H' → ShAt H' a (among r S) (among u S) → Q (.ref a) H'
/-- the places of the first i of S -/
def plc (S : List Nat) (i : Nat) : List (Key × V) := (List.range i).map fun k => (Sum.inl ((S.getD k 0 : Nat) : Int), V.int (k : Int))
theorem plc_succ (S : List Nat) (i : Nat) : plc S (i + 1) = plc S i ++ [(Sum.inl ((S.getD i 0 : Nat) : Int), V.int (i : Int))] := by
  unfold plc; rw [List.range_succ, List.map_append]; rfl
theorem plc_len (S : List Nat) (i : Nat) : (plc S i).length = i := by simp [plc]
theorem plc_val {S : List Nat} (nd : S.Nodup) : ∀ {i : Nat}, i ≤ S.length → ∀ {x : Nat}, x ∈ S → valV (plc S i) (Sum.inl (x : Int) : Key) = if S.idxOf x < i then some (.int (S.idxOf x : Int)) else none
  | 0, _, x, hx => rfl
  | i + 1, hi, x, hx => by
    have hlt : i < S.length := hi
    have e0 : S.getD i 0 = S[i] := by simp [List.getD_eq_getElem?_getD, hlt]
    have hidx : S.idxOf S[i] = i := idx_get nd (List.getElem?_eq_getElem hlt)
    have hnone : valV (plc S i) (Sum.inl ((S[i] : Nat) : Int) : Key) = none := by
      rw [plc_val nd (by omega) (List.getElem_mem hlt), hidx, if_neg (Nat.lt_irrefl _)]
    rw [plc_succ, e0, valV_snoc _ _ _ _ hnone]
    by_cases e : x = S[i]
    · subst e
      rw [if_pos rfl, hidx, if_pos (Nat.lt_succ_self _)]
    · have e' : ¬ (Sum.inl (x : Int) : Key) = Sum.inl ((S[i] : Nat) : Int) := fun z => e (by have := Sum.inl.inj z; omega)
      rw [if_neg e', plc_val nd (by omega) hx]
      have hne : S.idxOf x ≠ i := fun z => e (by
        have := get_idx hx
        rw [z, List.getElem?_eq_getElem hlt] at this
        exact (Option.some.inj this).symm)
      by_cases h : S.idxOf x < i
      · rw [if_pos h, if_pos (by omega)]
      · rw [if_neg h, if_neg (by omega)]
section
variable {P : Program} {w : World} {K : PySem.W.Frag} {mg : Str → Option Value} {base : Heap}
theorem scAmong : FnScope ["_law_right", "_law_up", "_law_met_here", "_law_place", "_law_k", "_law_square", "_law_one"] ["_law_right", "_law_up", "_law_met_here"] (defScope sAmong) := ⟨rfl, rfl, rfl, by decide +kernel, rfl, by decide +kernel, by decide +kernel⟩
theorem ndA1 : (["_law_square", "_law_place", "_law_right"] : List Str).Nodup := by decide +kernel
theorem ndA2 : (["_law_square", "_law_place", "_law_up"] : List Str).Nodup := by decide +kernel
/-- the comprehension's list: each square's neighbour, by its place -/
theorem compAmong {K : PySem.W.Frag} {Hc : Hp} {pm dp px : Addr} {x S : List Nat} {n : Nat} {Q : VK} {σ : St} {pull : List Nat} (h2 : σ[2]? = some (some (.ref pm))) (hb : bst 1 pull σ = [none, some (.ref dp), some (.ref px)])
    (hp : Hc dp = some (.dK (plc S S.length))) (hx : RowAt K Hc px x) (hS : SqL K Hc pm (nv S)) (rx : Row n x) (nd : S.Nodup) (hn : S.length ≤ 36) (hc : ∀ y ∈ S, y < n ∧ nx x y ∈ S)
    (k : ∀ (H' : Hp) (d : Addr), Same Hc H' → H' d = some (.lst (nv (among x S))) → Q (.ref d) H') :
    tComp (iList K (tVar 2)) 1 pull (gName 0) (tDGet (tVar 1) (tOp (rIx K) (tVar 2) (tVar 0))) σ Hc Q := by
  refine ⟨_, h2, pm, rfl, ⟨_, hS⟩, fun d hd => ?_⟩
  rw [hb]
  refine comp_by (Q := fun d H' => Q (.ref d) H') S.length (nv (among x S)) (by rw [nv_len, among_len]) (fun i σ H3 => ∃ o, σ = [o, some (.ref dp), some (.ref px)] ∧ Same Hc H3) ⟨_, rfl, same_upd (Same.refl _) hd⟩ ?_ ?_
  · rintro i σ H3 hi ⟨o, rfl, s3⟩ hd3
    have hS3 := s3.seq hS
    refine ⟨⟨_, _, hS3, nv_get (List.getElem?_eq_getElem hi)⟩, fun y H4 ⟨e, hy⟩ => ?_⟩
    subst e
    have hy := hy _ hS3
    rw [nv_get (List.getElem?_eq_getElem hi)] at hy
    cases hy
    have hm : S[i] ∈ S := List.getElem_mem hi
    refine ⟨_, rfl, _, rfl, _, rfl, rowIx (hx.same s3) rx (hc _ hm).1 ?_⟩
    have hv : valV (plc S S.length) (Sum.inl ((nx x S[i] : Nat) : Int) : Key) = some (.int (S.idxOf (nx x S[i]) : Int)) := by
      rw [plc_val nd (Nat.le_refl _) (hc _ hm).2, if_pos (List.idxOf_lt_length_of_mem (hc _ hm).2)]
    have hg := DGet.k (k := (Sum.inl ((nx x S[i] : Nat) : Int) : Key)) (s3 _ _ hp)
    rw [hv] at hg
    refine ⟨dp, _, rfl, hg, cpost hi (by omega) hd3 (nv_get ?_) ⟨_, rfl, same_upd s3 hd⟩⟩
    unfold among
    rw [List.getElem?_map, List.getElem?_eq_getElem hi]
    rfl
  · rintro σ H3 ⟨o, rfl, s3⟩ hd3
    exact ⟨⟨_, s3.seq hS, by rw [nv_len]; exact Nat.le_refl _⟩, k H3 d s3 hd3⟩
theorem ok_among {f : Addr} {fd : FuncData} (T : Bi mg) (F : Fn K mg "_law_among" sAmong ["_law_right", "_law_up", "_law_met_here"] f fd) : FnOk P w K mg base CX0 1 f fd ["_law_right", "_law_up", "_law_met_here"] (spAmong K) := by
  refine F.F.ok scAmong (fun vs H Q E h => ?_) (fun cdv A outer s H vs Q E hr h => ?_)
  · obtain ⟨pr, pu, pm, n, r, u, S, rfl, _⟩ := h; rfl
  · obtain ⟨pr, pu, pm, n, r, u, S, rfl, hR, hU, hS, rr, ru, hn, nd, hcl, k⟩ := h
    have hu := hu_of hr
    refine ⟨_, pss_cons (ps_set (i := 3) scAmong.nd rfl (Or.inr rfl) pe_dnewK)
      (pss_cons (ps_for PassesOwn.never rfl (pi_enumL rfl T.enum (pa_cons (pv 2) pa_nil)) (pg_tupE rfl (pgs_cons (pg_name (i := 4) scAmong.nd rfl (Or.inl rfl)) (pgs_cons (pg_name (i := 5) scAmong.nd rfl (Or.inl rfl)) pgs_nil)))
        (pss_one (ps_dput hu (pv 3) (pv 5) (pv 4) rfl)))
      (pss_cons (ps_set (i := 6) scAmong.nd rfl (Or.inl rfl) (pe_callTy call_tuple_of rfl T.tuple boot_tuple (pa_cons
        (pe_comp (N := ["_law_right", "_law_up", "_law_met_here", "_law_place", "_law_k", "_law_square", "_law_one"]) (names := (defScope sAmong).names) (N' := ["_law_square", "_law_place", "_law_right"]) (k := 1) (pull := [3, 0]) (te := tDGet (tVar 1) (tOp (rIx K) (tVar 2) (tVar 0))) rfl
          ⟨by rfl, by decide +kernel, by decide +kernel, by rfl, by decide +kernel, by decide +kernel⟩ rfl rfl (pi_list (pv 2)) (fun _ _ _ _ _ _ => pg_name (i := 0) ndA1 rfl (Or.inl rfl)) (fun _ _ _ _ _ _ => pe_dget hu (pv 1) (pe_ix ix_seq (pv 2) (pv 0) (fun _ _ => rfl)) (fun _ _ => rfl))) pa_nil)))
      (pss_one (ps_ret (pe_tup (pa_cons (pv 6) (pa_cons (pe_callTy call_tuple_of rfl T.tuple boot_tuple (pa_cons
        (pe_comp (N := ["_law_right", "_law_up", "_law_met_here", "_law_place", "_law_k", "_law_square", "_law_one"]) (names := (defScope sAmong).names) (N' := ["_law_square", "_law_place", "_law_up"]) (k := 1) (pull := [3, 1]) (te := tDGet (tVar 1) (tOp (rIx K) (tVar 2) (tVar 0))) rfl
          ⟨by rfl, by decide +kernel, by decide +kernel, by rfl, by decide +kernel, by decide +kernel⟩ rfl rfl (pi_list (pv 2)) (fun _ _ _ _ _ _ => pg_name (i := 0) ndA2 rfl (Or.inl rfl)) (fun _ _ _ _ _ _ => pe_dget hu (pv 1) (pe_ix ix_seq (pv 2) (pv 0) (fun _ _ => rfl)) (fun _ _ => rfl))) pa_nil)) pa_nil))))))), ?_⟩
    have hSl : S.length ≤ n := by
      have := sub_len S (List.range n) nd fun x hx => List.mem_range.mpr (hcl x hx).1
      simpa using this
    intro dp hdp
    have s1 : Same H (upd H dp (.dK [])) := same_upd (Same.refl H) hdp
    refine ⟨_, rfl, pm, rfl, ⟨_, s1.seq hS⟩, for_en (xs := nv S) (fun i σ H2 => ∃ o4 o5 o6, σ = [some (.ref pr), some (.ref pu), some (.ref pm), some (.ref dp), o4, o5, o6] ∧ Same H H2 ∧ H2 dp = some (.dK (plc S i))) ⟨_, _, _, rfl, s1, upd_same⟩ (fun i σ H2 _ ⟨_, _, _, _, s2, _⟩ => s2.seq hS) ?_ ?_⟩
    · rintro i x σ H2 T hx hT ⟨o4, o5, o6, rfl, s2, h2⟩
      obtain ⟨y, hy, rfl⟩ := nv_get' hx
      have hi : i < S.length := (List.getElem?_eq_some_iff.mp hy).1
      have ey : S[i] = y := (List.getElem?_eq_some_iff.mp hy).2
      have ndp : dp ≠ T := ne_of_none h2 hT
      have h2' : (upd H2 T (tupE T [.int (i : Int), .int (y : Int)])) dp = some (.dK (plc S i)) := by rw [upd_ne ndp]; exact h2
      refine ⟨T, _, rfl, upd_same, rfl, _, _, rfl, _, _, rfl, rfl, ?_⟩
      refine ⟨_, rfl, _, rfl, _, rfl, dp, _, rfl, DPut.k (k := (Sum.inl (y : Int) : Key)) h2' (by rw [plc_len]; exact small1000 (by omega)), ?_⟩
      refine ⟨_, _, _, rfl, same_upd (same_upd s2 (s2.free hT)) hdp, ?_⟩
      have hnone : valV (plc S i) (Sum.inl (y : Int) : Key) = none := by
        rw [plc_val nd (by omega) (by rw [← ey]; exact List.getElem_mem hi), idx_get nd hy, if_neg (Nat.lt_irrefl _)]
      have e0 : S.getD i 0 = y := by simp [List.getD_eq_getElem?_getD, hi, ey]
      rw [upd_same, putK_new _ hnone, plc_succ, e0]
    · rintro σ H2 ⟨o4, o5, o6, rfl, s2, h2⟩
      rw [nv_len] at h2
      -- one
      dsimp only [tSeq, tAsg, tCB, tCons]
      refine compAmong rfl rfl h2 (hR.same s2) (s2.seq hS) rr nd (by omega) (fun y hy => ⟨(hcl y hy).1, (hcl y hy).2.1⟩) ?_
      intro H3 d3 s3 h3
      refine ⟨d3, _, rfl, .inl ⟨SqL.of h3, fun t1 ht1 => ?_⟩⟩
      have s3' : Same H2 (upd H3 t1 (.tup (nv (among r S)))) := same_upd s3 (s3.free ht1)
      have s4 : Same H (upd H3 t1 (.tup (nv (among r S)))) := s2.trans s3'
      refine ⟨_, rfl, ?_⟩
      dsimp only [tSeq, tAsg, tCB, tCons]
      refine compAmong rfl rfl (s3' _ _ h2) (hU.same s4) (s4.seq hS) ru nd (by omega) (fun y hy => ⟨(hcl y hy).1, (hcl y hy).2.2⟩) ?_
      intro H5 d5 s5 h5
      refine ⟨d5, _, rfl, .inl ⟨SqL.of h5, fun t2 ht2 => ?_⟩⟩
      have s6 : Same (upd H3 t1 (.tup (nv (among r S)))) (upd H5 t2 (.tup (nv (among u S)))) := same_upd s5 (s5.free ht2)
      refine ⟨by show 2 ≤ sizeLine; decide, fun a ha => k _ a ?_ ⟨t1, t2, upd_same, ?_, ?_⟩⟩
      · exact same_upd (s4.trans s6) ((s4.trans s6).free ha)
      · have e1 := s6 t1 _ upd_same
        rw [upd_ne (ne_of_none e1 ha)]; exact e1
      · have e2 : (upd H5 t2 (.tup (nv (among u S)))) t2 = some (.tup (nv (among u S))) := upd_same
        rw [upd_ne (ne_of_none e2 ha)]; exact e2
end
end K1
namespace L2
open PySem PySem.Spec PyProof.Rows
section
variable {X : Cx} {o i value : Expr} {pos pos' : Pos} {to ti tv : TE}
/-- xs[i] = v -/
def sLPut (to ti tv : TE) : TS := fun D σ H => tv σ H fun v H1 => to σ H1 fun x H2 => ti σ H2 fun y H3 => rSetL x y v H3 fun H4 => D.nx σ H4
theorem ps_lput (ho : PE X o to) (hi : PE X i ti) (hv : PE X value tv) (hs : swapsWith value (some (.Subscript o i pos')) pos.line X.env = pure false) : PS X (.Assign [.Subscript o i pos'] value pos) (sLPut to ti tv) := by
  intro pins s σ H D I h
  refine wpAny_Assign_Subscript (thn (hv pins s σ H _ I h) fun r s1 ⟨v, H1, I1, rv, q1⟩ => thn (ho pins s1 σ H1 _ I1 q1) fun u s2 ⟨x, H2, I2, rx, q2⟩ => thn (hi pins s2 σ H2 _ I2 q2) fun iv s3 ⟨y, H3, I3, ry, q3⟩ => ?_) hs
  exact thn (set_list pins s3 σ H3 x y v u iv r _ I3 rx ry rv q3) fun _ s4 ⟨H4, I4, q4⟩ => ⟨σ, H4, I4, q4⟩
end
end L2
namespace K1
open PySem L2 Sq
theorem nv_set (xs : List Nat) (j x : Nat) : (nv xs).set j (.int (x : Int)) = nv (xs.set j x) := by
  unfold nv
  rw [List.map_set]
theorem back_fill {n : Nat} {r bl : List Nat} (rr : Row n r) (hl : bl.length = n) (h : ∀ k, k < n → bl[nx r k]? = some k) : bl = back r := by
  refine List.ext_getElem? fun x => ?_
  by_cases hx : x < n
  · have e := h (r.idxOf x) (rr.idx_lt hx)
    rw [rr.nx_idx hx] at e
    rw [e, rr.back.get hx, back_nx rr hx]
  · rw [List.getElem?_eq_none (by omega), List.getElem?_eq_none (by rw [back_len, rr.len]; omega)]
/-- all([_law_whole(x) for x in row]), row in the slot j -/
theorem compWhole {K : PySem.W.Frag} {Hc : Hp} {p : Addr} {r : List Nat} {j : Nat} {Q : VK} {σ : St} (hj : σ[j]? = some (some (.ref p))) (hp : SqT K Hc p (nv r)) (hn : r.length ≤ 36)
    (k : ∀ (H' : Hp) (d : Addr), Same Hc H' → H' d = some (.lst ((List.replicate r.length true).map V.bl)) → Q (.ref d) H') :
    tComp (iTup K (tVar j)) 1 [] (gName 0) (tCall spWhole [] E0 (tCons (tVar 0) tNil)) σ Hc Q := by
  refine ⟨_, hj, p, rfl, ⟨_, hp⟩, fun d hd => ?_⟩
  refine comp_by (Q := fun d H' => Q (.ref d) H') r.length ((List.replicate r.length true).map V.bl) (by simp) (fun i σ H3 => ∃ o, σ = [o] ∧ Same Hc H3) ⟨none, rfl, same_upd (Same.refl _) hd⟩ ?_ ?_
  · rintro i σ H3 hi ⟨o, rfl, s3⟩ hd3
    have hp3 := Same.tseq s3 hp
    refine ⟨⟨_, _, hp3, nv_get (List.getElem?_eq_getElem hi)⟩, fun y H4 ⟨e, hy⟩ => ?_⟩
    subst e
    have hy := hy _ hp3
    rw [nv_get (List.getElem?_eq_getElem hi)] at hy
    cases hy
    refine ⟨_, rfl, _, rfl, cpost hi (by omega) hd3 (by simp [hi]) ⟨_, rfl, same_upd s3 hd⟩⟩
  · rintro σ H3 ⟨o, rfl, s3⟩ hd3
    exact ⟨⟨_, Same.tseq s3 hp, by rw [nv_len]; exact Nat.le_refl _⟩, k H3 d s3 hd3⟩
theorem all_rep (n : Nat) : (List.replicate n true).all id = true := by
  rw [List.all_eq_true]
  intro x hx
  rw [(List.mem_replicate.mp hx).2]; rfl
end K1
namespace K1
open PySem L2 Sq
def spSheet2 (K : PySem.W.Frag) : Sp := fun vs H Q _ => ∃ (a : Addr) (ns : List Int) (j : Int) (n : Nat), vs = [.ref a, .int j, .int (n : Int)] ∧ SqL K H a (ns.map V.int) ∧ 0 ≤ j ∧ 1 ≤ n ∧ n ≤ 36 ∧
  ∀ (H' : Hp) (b : Addr) (m : Nat) (r u : List Nat), Same H H' → ShAt H' b r u → Sheet m r u → m ≤ n → Q (.ref b) H'
section
variable {P : Program} {w : World} {K : PySem.W.Frag} {mg : Str → Option Value} {base : Heap}
theorem scSheet2 : FnScope ["_law_script", "_law_at", "_law_many", "_law_right", "_law_up"] ["_law_script", "_law_at", "_law_many"] (defScope sSheet) := ⟨rfl, rfl, rfl, by decide +kernel, rfl, by decide +kernel, by decide +kernel⟩
theorem ok_sheet2 {f fl fm fa : Addr} {fd fdl fdm fda : FuncData} (T : Bi mg) (F : Fn K mg "_law_sheet" sSheet ["_law_script", "_law_at", "_law_many"] f fd)
    (FL : Fn K mg "_law_lines" sLines ["_law_script", "_law_at", "_law_many"] fl fdl) (GL : FnOk P w K mg base CX0 2 fl fdl ["_law_script", "_law_at", "_law_many"] (spLines K))
    (FM : Fn K mg "_law_met" sMet ["_law_right", "_law_up", "_law_first"] fm fdm) (GM : FnOk P w K mg base CX0 1 fm fdm ["_law_right", "_law_up", "_law_first"] (spMet K))
    (FA : Fn K mg "_law_among" sAmong ["_law_right", "_law_up", "_law_met_here"] fa fda) (GA : FnOk P w K mg base CX0 1 fa fda ["_law_right", "_law_up", "_law_met_here"] (spAmong K)) :
    FnOk P w K mg base CX0 3 f fd ["_law_script", "_law_at", "_law_many"] (spSheet2 K) := by
  refine F.F.ok scSheet2 (fun vs H Q E h => ?_) (fun cdv A outer s H vs Q E hr h => ?_)
  · obtain ⟨a, ns, j, n, rfl, _⟩ := h; rfl
  · obtain ⟨a, ns, j, n, rfl, hS, h0, h1, hn, k⟩ := h
    have hr1 : Room 1 _ := hr.mono (by decide)
    refine ⟨_, pss_cons (ps_asg (pe_call GL hr rfl FL.m FL.F.kp FL.b .nil pass0 (pa_cons (pv 0) (pa_cons (pv 1) (pa_cons (pv 2) pa_nil)))) (pg_lst2 rfl (pgs_cons (pg_name (i := 3) scSheet2.nd rfl (Or.inl rfl)) (pgs_cons (pg_name (i := 4) scSheet2.nd rfl (Or.inl rfl)) pgs_nil))))
      (pss_one (ps_ret (pe_call GA hr1 rfl FA.m FA.F.kp FA.b .nil pass0 (pa_cons (pv 3) (pa_cons (pv 4) (pa_cons (pe_callB (call_sorted rfl) rfl T.sorted boot_sorted (pa_cons (pe_call GM hr1 rfl FM.m FM.F.kp FM.b .nil pass0 (pa_cons (pv 3) (pa_cons (pv 4) (pa_cons pe_int pa_nil)))) pa_nil)) pa_nil)))))), ?_⟩
    refine ⟨_, rfl, _, rfl, _, rfl, a, ns, j, n, rfl, hS, h0, h1, hn, fun H1 l p q r u s1 hl hp hq rr ru => ?_⟩
    refine ⟨l, _, _, rfl, SqL.of hl, _, _, rfl, _, _, rfl, rfl, ?_⟩
    refine ⟨_, rfl, _, rfl, _, rfl, _, rfl, p, q, n, r, u, 0, rfl, .inl (SqL.of hp), .inl (SqL.of hq), rr, ru, h1, hn, fun H2 lm M s2 _ hm hM => ?_⟩
    have hMl : M.length ≤ n := by
      have := sub_len M (List.range n) hM.nd fun x hx => List.mem_range.mpr (hM.lt x hx)
      simpa using this
    refine ⟨lm, M, rfl, .inl (SqL.of hm), by omega, fun l2 S hl2 pS sS => ?_⟩
    have s3 : Same H1 (upd H2 l2 (.lst (nv S))) := same_upd s2 (s2.free hl2)
    have hS' := hM.perm pS
    refine ⟨p, q, l2, n, r, u, S, rfl, .inl (SqL.of (s3 _ _ hp)), .inl (SqL.of (s3 _ _ hq)), SqL.of upd_same, rr, ru, hn, hS'.nd, fun x hx => ⟨hS'.lt x hx, hS'.shut x hx⟩, fun H4 b s4 hb => ?_⟩
    exact k H4 b S.length _ _ (s1.trans (s3.trans s4)) hb (among_sheet hn rr ru hS' sS) (by rw [pS.length_eq]; exact hMl)
end
end K1
namespace K1
open PySem L2 Sq
def spPicked (K : PySem.W.Frag) : Sp := fun vs H Q _ => ∃ (p : Addr) (r : List Nat) (c : Int), vs = [.ref p, .int c] ∧ SqL K H p (nv r) ∧ r.length ≤ 36 ∧
  ∀ (H' : Hp) (l : Addr) (t : List Nat), Same H H' → H l = none → H' l = some (.lst (nv t)) → t.Perm r → Q (.ref l) H'
theorem pick_perm {line left r : List Nat} {k y : Nat} (p : (line ++ left).Perm r) (e : left[k]? = some y) : (line ++ [y] ++ left.eraseIdx k).Perm r := by
  refine List.Perm.trans ?_ p
  rw [List.append_assoc]
  refine List.Perm.append_left _ ?_
  have hk : k < left.length := (List.getElem?_eq_some_iff.mp e).1
  have hy : left[k] = y := (List.getElem?_eq_some_iff.mp e).2
  have h1 : left = left.take k ++ left[k] :: left.drop (k + 1) := by
    rw [← List.drop_eq_getElem_cons hk, List.take_append_drop]
  rw [List.eraseIdx_eq_take_drop_succ]
  conv => rhs; rw [h1, hy]
  exact (List.perm_middle (a := y) (l₁ := left.take k) (l₂ := left.drop (k + 1))).symm
section
variable {P : Program} {w : World} {K : PySem.W.Frag} {mg : Str → Option Value} {base : Heap}
abbrev n_pk9 : List Str := ["_law_things", "_law_number", "_law_left", "_law_told"]
theorem sc_pk9 : FnScope n_pk9 ["_law_things", "_law_number"] (defScope sPicked) := ⟨rfl, rfl, rfl, by decide +kernel, rfl, by decide +kernel, by decide +kernel⟩
theorem ok_picked {f : Addr} {fd : FuncData} (T : Bi mg) (F : Fn K mg "_law_picked" sPicked ["_law_things", "_law_number"] f fd) : FnOk P w K mg base CX0 1 f fd ["_law_things", "_law_number"] (spPicked K) := by
  refine F.F.ok sc_pk9 (fun vs H Q E h => ?_) (fun cdv A outer s H vs Q E hr h => ?_)
  · obtain ⟨p, r, c, rfl, _⟩ := h; rfl
  · obtain ⟨p, r, c, rfl, hp, hn, k⟩ := h
    refine ⟨_, (pss_cons (ps_set (i := 2) sc_pk9.nd rfl (Or.inl rfl) (pe_callTy call_list_of rfl T.list boot_list (pa_cons (pv 0) pa_nil)))
      (pss_cons (ps_set (i := 3) sc_pk9.nd rfl (Or.inl rfl) (pe_lst pa_nil))
      (pss_cons (ps_if (pt_cmpR op_ge (pv 1) (pe_op op_pow pe_int pe_int) (nomark _)) (pss_one (ps_while PassesOwn.never (pt_cmpR op_gt (pe_callB call_len_seq rfl T.len PySem.boot_len (pa_cons (pv 2) pa_nil)) pe_int (nomark _)) (pss_cons (ps_expr (pe_bm PySem.F.plainAttrs_list PySem.F.slot_list_append PySem.F.type_list_append mt_append (pv 3) (pa_cons (pe_bm PySem.F.plainAttrs_list PySem.F.slot_list_pop PySem.F.type_list_pop mt_popAt (pv 2) (pa_cons (pe_op op_mod (pv 1) (pe_callB call_len_seq rfl T.len PySem.boot_len (pa_cons (pv 2) pa_nil))) pa_nil)) pa_nil)))
      (pss_one (ps_set (i := 1) sc_pk9.nd rfl (Or.inl rfl) (pe_op op_fdiv (pv 1) (pe_op op_add (pe_callB call_len_seq rfl T.len PySem.boot_len (pa_cons (pv 2) pa_nil)) pe_int))))))) pss_nil)
      (pss_cons (ps_set (i := 1) sc_pk9.nd rfl (Or.inl rfl) (pe_op op_add pe_int (pe_op op_mod (pv 1) pe_int)))
      (pss_cons (ps_while PassesOwn.never (pt_cmpR op_gt (pe_callB call_len_seq rfl T.len PySem.boot_len (pa_cons (pv 2) pa_nil)) pe_int (nomark _)) (pss_cons (ps_set (i := 1) sc_pk9.nd rfl (Or.inl rfl) (pe_op op_mod (pe_op op_mul (pv 1) pe_int) pe_int))
      (pss_one (ps_expr (pe_bm PySem.F.plainAttrs_list PySem.F.slot_list_append PySem.F.type_list_append mt_append (pv 3) (pa_cons (pe_bm PySem.F.plainAttrs_list PySem.F.slot_list_pop PySem.F.type_list_pop mt_popAt (pv 2) (pa_cons (pe_op op_mod (pe_op op_fdiv (pv 1) pe_int) (pe_callB call_len_seq rfl T.len PySem.boot_len (pa_cons (pv 2) pa_nil))) pa_nil)) pa_nil))))))
      (pss_one (ps_ret (pv 3)))))))), ?_⟩
    refine ⟨_, rfl, p, _, rfl, .inl hp, fun lf hlf => ?_⟩
    refine ⟨Nat.zero_le _, fun ln hln => ?_⟩
    have nlnl : ln ≠ lf := fun e => by rw [e, upd_same] at hln; cases hln
    have g1 : H ln = none := by rwa [upd_ne nlnl] at hln
    have t0 : Same H (upd (upd H lf (.lst (nv r))) ln (.lst (nv []))) := same_upd (same_upd (Same.refl H) hlf) g1
    have t1 : (upd (upd H lf (.lst (nv r))) ln (.lst (nv []))) lf = some (.lst (nv r)) := by rw [upd_ne nlnl.symm, upd_same]
    have t2 : (upd (upd H lf (.lst (nv r))) ln (.lst (nv []))) ln = some (.lst (nv [])) := upd_same
    have t3 : ([] ++ r).Perm r := List.Perm.refl _
    refine ⟨_, rfl, _, _, rfl, rfl, ⟨by decide, by decide, by decide⟩, _, _, rfl, rfl, _, rfl, ?_⟩
    refine ite2 (fun _ => ?_) (fun _ => ?_)
    · refine while_by (fun σ H2 => ∃ (num : Int) (line left : List Nat), σ = [some (.ref p), some (.int num), some (.ref lf), some (.ref ln)] ∧ Same H H2 ∧ H2 lf = some (.lst (nv left)) ∧ H2 ln = some (.lst (nv line)) ∧ (line ++ left).Perm r)
        (fun _ H2 => match H2 lf with | some (.lst xs) => xs.length | _ => 0) ⟨_, [], r, rfl, t0, t1, t2, t3⟩ ?_ ?_
      · rintro σ H2 ⟨num, line, left, rfl, s2, hlf2, hln2, hP⟩
        have hlen : line.length + left.length = r.length := by have := hP.length_eq; rwa [List.length_append] at this
        refine ⟨_, rfl, lf, _, rfl, .inl (SqL.of hlf2), _, _, rfl, rfl, _, rfl, ?_⟩
        rw [nv_len]
        refine ite2 (fun hgt => ?_) (fun hle => ?_)
        · have hgt : (0 : Int) < (left.length : Int) := of_decide_eq_true hgt
          have hpos : 0 < left.length := by omega
          refine ⟨_, rfl, .inl ⟨rfl, _, SqL.of hln2⟩, _, rfl, .inl ⟨rfl, _, SqL.of hlf2⟩, _, rfl, _, rfl, lf, _, rfl, .inl (SqL.of hlf2), _, _, rfl, rfl, ?_, ?_⟩
          · rw [nv_len]; omega
          refine popDraw hlf2 hpos (by omega) fun kx y hy => ?_
          have e3 : (upd H2 lf (.lst (nv (left.eraseIdx kx)))) ln = some (.lst (nv line)) := by rw [upd_ne nlnl]; exact hln2
          refine ⟨ln, _, _, rfl, rfl, e3, ?_, ?_⟩
          · rw [nv_len]; exact small1000 (by omega)
          have hk := (List.getElem?_eq_some_iff.mp hy).1
          have e4 : (upd (upd H2 lf (.lst (nv (left.eraseIdx kx)))) ln (.lst (nv line ++ [V.int (y : Int)]))) lf = some (.lst (nv (left.eraseIdx kx))) := by rw [upd_ne nlnl.symm, upd_same]
          refine ⟨_, rfl, _, rfl, lf, _, rfl, .inl (SqL.of e4), _, _, rfl, rfl, _, _, rfl, rfl, ⟨?_, ?_⟩, ?_⟩
          · rw [nv_len]; omega
          · rw [nv_len, List.length_eraseIdx]; split <;> omega
          refine ⟨⟨_, line ++ [y], left.eraseIdx kx, rfl, same_upd (same_upd s2 hlf) g1, e4, by rw [upd_same, nv_snoc], pick_perm hP hy⟩, ?_⟩
          rw [e4, hlf2]
          show (nv (left.eraseIdx kx)).length < (nv left).length
          rw [nv_len, nv_len, List.length_eraseIdx, if_pos hk]
          omega
        · obtain ⟨line0, left0, t0, t1, t2, t3⟩ : ∃ (line0 left0 : List Nat), Same H H2 ∧ H2 lf = some (.lst (nv left0)) ∧ H2 ln = some (.lst (nv line0)) ∧ (line0 ++ left0).Perm r := ⟨line, left, s2, hlf2, hln2, hP⟩
          refine ⟨_, rfl, _, _, rfl, rfl, (by show (0 : Int) < 2147483646; decide), _, _, rfl, rfl, ?_⟩
          refine while_by (fun σ H2 => ∃ (num : Int) (line left : List Nat), σ = [some (.ref p), some (.int num), some (.ref lf), some (.ref ln)] ∧ Same H H2 ∧ H2 lf = some (.lst (nv left)) ∧ H2 ln = some (.lst (nv line)) ∧ (line ++ left).Perm r)
            (fun _ H2 => match H2 lf with | some (.lst xs) => xs.length | _ => 0) ?_ ?_ ?_
          · exact ⟨_, line0, left0, rfl, t0, t1, t2, t3⟩
          · rintro σ H2 ⟨num, line, left, rfl, s2, hlf2, hln2, hP⟩
            have hlen : line.length + left.length = r.length := by have := hP.length_eq; rwa [List.length_append] at this
            refine ⟨_, rfl, lf, _, rfl, .inl (SqL.of hlf2), _, _, rfl, rfl, _, rfl, ?_⟩
            rw [nv_len]
            refine ite2 (fun hgt => ?_) (fun hle => ?_)
            · have hgt : (0 : Int) < (left.length : Int) := of_decide_eq_true hgt
              have hpos : 0 < left.length := by omega
              refine ⟨_, rfl, _, _, rfl, rfl, .inr ⟨by decide, by decide⟩, _, _, rfl, rfl, (by show (0 : Int) < 2147483647; decide), ?_⟩
              refine ⟨_, rfl, .inl ⟨rfl, _, SqL.of hln2⟩, _, rfl, .inl ⟨rfl, _, SqL.of hlf2⟩, _, rfl, _, _, rfl, rfl, ⟨by decide, by decide⟩, _, rfl, lf, _, rfl, .inl (SqL.of hlf2), _, _, rfl, rfl, ?_, ?_⟩
              · rw [nv_len]; omega
              refine popDraw hlf2 hpos (by omega) fun kx y hy => ?_
              have e3 : (upd H2 lf (.lst (nv (left.eraseIdx kx)))) ln = some (.lst (nv line)) := by rw [upd_ne nlnl]; exact hln2
              refine ⟨ln, _, _, rfl, rfl, e3, ?_, ?_⟩
              · rw [nv_len]; exact small1000 (by omega)
              have hk := (List.getElem?_eq_some_iff.mp hy).1
              have e4 : (upd (upd H2 lf (.lst (nv (left.eraseIdx kx)))) ln (.lst (nv line ++ [V.int (y : Int)]))) lf = some (.lst (nv (left.eraseIdx kx))) := by rw [upd_ne nlnl.symm, upd_same]
              refine ⟨⟨_, line ++ [y], left.eraseIdx kx, rfl, same_upd (same_upd s2 hlf) g1, e4, by rw [upd_same, nv_snoc], pick_perm hP hy⟩, ?_⟩
              rw [e4, hlf2]
              show (nv (left.eraseIdx kx)).length < (nv left).length
              rw [nv_len, nv_len, List.length_eraseIdx, if_pos hk]
              omega
            · have hle : ¬ (0 : Int) < (left.length : Int) := fun z => hle (decide_eq_true z)
              have hl0 : left = [] := List.length_eq_zero_iff.mp (by omega)
              subst hl0
              rw [List.append_nil] at hP
              exact ⟨_, rfl, k H2 ln line s2 g1 hln2 hP⟩
          · rintro σ H Q Q' h ⟨v, e1, p, ys, e3, sq, i, j, e4, e5, k, e6, q⟩
            exact ⟨v, e1, p, ys, e3, sq, i, j, e4, e5, k, e6, h _ _ q⟩
      · rintro σ H Q Q' h ⟨v, e1, p, ys, e3, sq, i, j, e4, e5, k, e6, q⟩
        exact ⟨v, e1, p, ys, e3, sq, i, j, e4, e5, k, e6, h _ _ q⟩
    · obtain ⟨line0, left0, t0, t1, t2, t3⟩ : ∃ (line0 left0 : List Nat), Same H (upd (upd H lf (.lst (nv r))) ln (.lst (nv []))) ∧ (upd (upd H lf (.lst (nv r))) ln (.lst (nv []))) lf = some (.lst (nv left0)) ∧ (upd (upd H lf (.lst (nv r))) ln (.lst (nv []))) ln = some (.lst (nv line0)) ∧ (line0 ++ left0).Perm r := ⟨[], r, t0, t1, t2, t3⟩
      refine ⟨_, rfl, _, _, rfl, rfl, (by show (0 : Int) < 2147483646; decide), _, _, rfl, rfl, ?_⟩
      refine while_by (fun σ H2 => ∃ (num : Int) (line left : List Nat), σ = [some (.ref p), some (.int num), some (.ref lf), some (.ref ln)] ∧ Same H H2 ∧ H2 lf = some (.lst (nv left)) ∧ H2 ln = some (.lst (nv line)) ∧ (line ++ left).Perm r)
        (fun _ H2 => match H2 lf with | some (.lst xs) => xs.length | _ => 0) ?_ ?_ ?_
      · exact ⟨_, line0, left0, rfl, t0, t1, t2, t3⟩
      · rintro σ H2 ⟨num, line, left, rfl, s2, hlf2, hln2, hP⟩
        have hlen : line.length + left.length = r.length := by have := hP.length_eq; rwa [List.length_append] at this
        refine ⟨_, rfl, lf, _, rfl, .inl (SqL.of hlf2), _, _, rfl, rfl, _, rfl, ?_⟩
        rw [nv_len]
        refine ite2 (fun hgt => ?_) (fun hle => ?_)
        · have hgt : (0 : Int) < (left.length : Int) := of_decide_eq_true hgt
          have hpos : 0 < left.length := by omega
          refine ⟨_, rfl, _, _, rfl, rfl, .inr ⟨by decide, by decide⟩, _, _, rfl, rfl, (by show (0 : Int) < 2147483647; decide), ?_⟩
          refine ⟨_, rfl, .inl ⟨rfl, _, SqL.of hln2⟩, _, rfl, .inl ⟨rfl, _, SqL.of hlf2⟩, _, rfl, _, _, rfl, rfl, ⟨by decide, by decide⟩, _, rfl, lf, _, rfl, .inl (SqL.of hlf2), _, _, rfl, rfl, ?_, ?_⟩
          · rw [nv_len]; omega
          refine popDraw hlf2 hpos (by omega) fun kx y hy => ?_
          have e3 : (upd H2 lf (.lst (nv (left.eraseIdx kx)))) ln = some (.lst (nv line)) := by rw [upd_ne nlnl]; exact hln2
          refine ⟨ln, _, _, rfl, rfl, e3, ?_, ?_⟩
          · rw [nv_len]; exact small1000 (by omega)
          have hk := (List.getElem?_eq_some_iff.mp hy).1
          have e4 : (upd (upd H2 lf (.lst (nv (left.eraseIdx kx)))) ln (.lst (nv line ++ [V.int (y : Int)]))) lf = some (.lst (nv (left.eraseIdx kx))) := by rw [upd_ne nlnl.symm, upd_same]
          refine ⟨⟨_, line ++ [y], left.eraseIdx kx, rfl, same_upd (same_upd s2 hlf) g1, e4, by rw [upd_same, nv_snoc], pick_perm hP hy⟩, ?_⟩
          rw [e4, hlf2]
          show (nv (left.eraseIdx kx)).length < (nv left).length
          rw [nv_len, nv_len, List.length_eraseIdx, if_pos hk]
          omega
        · have hle : ¬ (0 : Int) < (left.length : Int) := fun z => hle (decide_eq_true z)
          have hl0 : left = [] := List.length_eq_zero_iff.mp (by omega)
          subst hl0
          rw [List.append_nil] at hP
          exact ⟨_, rfl, k H2 ln line s2 g1 hln2 hP⟩
      · rintro σ H Q Q' h ⟨v, e1, p, ys, e3, sq, i, j, e4, e5, k, e6, q⟩
        exact ⟨v, e1, p, ys, e3, sq, i, j, e4, e5, k, e6, h _ _ q⟩
end
end K1
namespace Sq
def blk (m x : Nat) : List Nat := (List.range m).map fun i => x * m + i
def flat (m : Nat) (z : List Nat) : List Nat := (z.map (blk m)).flatten
theorem flat_range (m : Nat) : ∀ n, flat m (List.range n) = List.range (n * m)
  | 0 => by simp [flat]
  | n + 1 => by
    have ih := flat_range m n
    unfold flat at ih ⊢
    rw [List.range_succ, List.map_append, List.flatten_append, ih, Nat.succ_mul, List.range_add]
    simp [blk]
theorem flat_perm {m : Nat} {z z' : List Nat} (h : z.Perm z') : (flat m z).Perm (flat m z') := (h.map (blk m)).flatten
theorem flat_row {m n : Nat} {z X : List Nat} (rz : Row n z) (h : X.Perm (flat m z)) : Row (n * m) X := by
  refine Row.of_perm (h.trans ?_)
  rw [← flat_range]
  exact flat_perm rz.perm
theorem flat_snoc (m : Nat) (z : List Nat) (x : Nat) : flat m (z ++ [x]) = flat m z ++ blk m x := by unfold flat; rw [List.map_append, List.flatten_append]; simp
/-- a row over a row: m squares over each -/
structure Cov (n m : Nat) (z X : List Nat) : Prop where
  row : Row (n * m) X
  over : ∀ x, x < n * m → nx X x / m = nx z (x / m)
/-- the first k blocks are dealt -/
structure Dealt (m : Nat) (z L : List Nat) (k : Nat) : Prop where
  len : L.length = k * m
  perm : L.Perm (flat m (z.take k))
  over : ∀ i x, L[i]? = some x → x / m = nx z (i / m)
theorem Dealt.start (m : Nat) (z : List Nat) : Dealt m z [] 0 := ⟨by simp, by simp [flat], fun i x h => by simp at h⟩
theorem Dealt.step {m n k : Nat} {z L t : List Nat} (hm : 1 ≤ m) (rz : Row n z) (hk : k < n) (h : Dealt m z L k) (ht : t.Perm (List.range m)) : Dealt m z (L ++ t.map fun i => nx z k * m + i) (k + 1) := by
  have htl : t.length = m := by rw [ht.length_eq, List.length_range]
  refine ⟨by rw [List.length_append, List.length_map, h.len, htl, Nat.succ_mul], ?_, fun i x hx => ?_⟩
  · rw [List.take_add_one, rz.get hk]
    show List.Perm _ (flat m (z.take k ++ [nx z k]))
    rw [flat_snoc]
    exact h.perm.append (ht.map _)
  · rcases Nat.lt_or_ge i L.length with c | c
    · rw [List.getElem?_append_left c] at hx
      exact h.over i x hx
    · rw [List.getElem?_append_right c, List.getElem?_map, h.len] at hx
      rw [h.len] at c
      cases e : t[i - k * m]? with
      | none => rw [e] at hx; cases hx
      | some j =>
        rw [e] at hx
        have hx : nx z k * m + j = x := by simpa using hx
        have hj : j < m := List.mem_range.mp (ht.mem_iff.mp (List.mem_of_getElem? e))
        have hi : i - k * m < m := by have := (List.getElem?_eq_some_iff.mp e).1; omega
        have e1 : x / m = nx z k := by
          rw [← hx, Nat.mul_comm, Nat.mul_add_div (by omega), Nat.div_eq_of_lt hj, Nat.add_zero]
        have e2 : i / m = k := by
          have : i = m * k + (i - k * m) := by rw [Nat.mul_comm m k]; omega
          rw [this, Nat.mul_add_div (by omega), Nat.div_eq_of_lt hi, Nat.add_zero]
        rw [e1, e2]
theorem Dealt.cov {m n : Nat} {z L : List Nat} (rz : Row n z) (h : Dealt m z L n) : Cov n m z L := by
  have e : z.take n = z := List.take_of_length_le (by rw [rz.len]; exact Nat.le_refl _)
  have hp := h.perm
  rw [e] at hp
  have hr := flat_row rz hp
  exact ⟨hr, fun x hx => h.over x _ (hr.get hx)⟩
end Sq
namespace L2
open PySem PySem.Spec PyProof.Rows
/-- the signs of a text, one by one -/
def Its (z : Str) : It := ⟨fun i _ => i < z.length, fun i H x H' => H' = H ∧ ∃ c, z.cps[i]? = some c ∧ x = .str ⟨#[c]⟩, fun i _ => z.length = i⟩
theorem turn_str {P : Program} {w : World} {K : PySem.W.Frag} {tg : Expr} (it : Addr) (z : Str) (t : Tok) : Turn P w K tg (Its z) [it] it (fun i h => h.IsStrIter it (strIterType z) z t i) := by
  have W : ∀ {A : Around}, A.handled = none → Walks P w A it [it] [it] z.cps.size (SignAt z) (fun i h => h.IsStrIter it (strIterType z) z t i) := by
    intro A hh
    unfold strIterType
    split
    · exact Walks.strAscii hh it z t
    · exact Walks.strWide hh it z t
  have hty : ["enumerate", "zip", "dict_itemiterator", "dict_reverseitemiterator", "odict_iterator", "itertools.zip_longest", "itertools.pairwise"].contains (strIterType z) = false := by
    unfold strIterType; split <;> decide
  exact {
    mem := by simp
    obj := fun i h st b hb => by
      have e : b = it := by simpa using hb
      subst e
      obtain ⟨o, e, c, d⟩ := st
      exact ⟨o, e, fun v z => by rw [d] at z; cases z⟩
    keep := fun i h h' st k => let ⟨o, ho, r⟩ := st; ⟨o, k it (by simp) o ho, r⟩
    item := by
      intro X hP hw hK hc i pins s σ H E I hf st hg
      subst hP hw hK
      obtain ⟨f0, f1, f2, f3, f4, f5⟩ := hf it (by simp)
      refine (W (I.ok.hd hc)).item i s _ _ hg st fun v h' tk hv st' kk => ?_
      obtain ⟨c, u, hc', rfl⟩ := hv
      have I1 : Inv X pins σ H { s with heap := h', toks := tk } := I.turned (fun b o hb e => kk b o (by simpa using hb) e) f0 f1 f3 f4 f5
      obtain ⟨o, e, c1, d⟩ := id st'
      exact ⟨_, rfl, go_of (s := { s with heap := h', toks := tk }) e c1 d hty ⟨.str ⟨#[c]⟩, H, I1, ⟨_, rfl⟩, ⟨rfl, c, hc', rfl⟩, st', fun b hb => (hf b hb).1⟩⟩
    done := by
      intro X hP hw hK hc i pins s σ H E I hf st hg
      subst hP hw hK
      obtain ⟨f0, f1, f2, f3, f4, f5⟩ := hf it (by simp)
      have hg : z.cps.size = i := hg
      subst hg
      exact (W (I.ok.hd hc)).done s _ _ st fun h' tk kk => ⟨rfl, I.turned (fun b o hb e => kk b o (by simpa using hb) e) f0 f1 f3 f4 f5⟩
    self := fun A i s Q E st h => by
      obtain ⟨o, e, c, d⟩ := id st
      unfold strIterType at st
      split at st
      · exact wpAny_pyIter_striter_ascii st h
      · exact wpAny_pyIter_striter_wide st h }
section
variable {X : Cx} {tg : Expr}
def iStr (tl : TE) : TI := fun σ H R => tl σ H fun x H1 => ∃ z, x = .str z ∧ R (Its z) H1
theorem pi_str {l : Expr} {tl : TE} (hl : PE X l tl) : PI X tg l (iStr tl) := by
  intro pins s σ H R I h
  refine thn (hl pins s σ H _ I h) fun v s1 ⟨x, H1, I1, r1, q1⟩ => ?_
  obtain ⟨z, e, q⟩ := q1
  subst e
  obtain ⟨t, rfl⟩ := r1
  refine wpAny_pyIter_strU ?_
  refine ⟨s1.heap.objs.size, [s1.heap.objs.size], _, _, H1, rfl, I1.kept (t' := s1.toks) fun b o e => Heap.get?_push_of_some _ e, turn_str _ z t, ⟨_, Heap.get?_push_size _ rfl, rfl, rfl⟩, fun b hb => ?_, q⟩
  have e : b = s1.heap.objs.size := by simpa using hb
  subst e
  exact I1.fpOk (Nat.le_refl _) (I1.hok.fresh (Nat.le_refl _))
/-- over the signs of a text -/
theorem for_str {z : Str} {g : TG} {tb : TS} {D : Ends} {σ : St} {H : Hp} (Pv : Nat → St → Hp → Prop) (h0 : Pv 0 σ H)
    (hs : ∀ i c σ H, z.cps[i]? = some c → Pv i σ H → g (.str ⟨#[c]⟩) σ H fun σ2 H2 => tb { D with nx := Pv (i + 1), ct := Pv (i + 1), bk := D.nx } σ2 H2) (hd : ∀ σ H, Pv z.length σ H → D.nx σ H) :
    ∃ W : Nat → Nat → St → Hp → Prop, (∃ m, W 0 m σ H) ∧ ∀ i m σ H, W i m σ H →
      ((Its z).stop i H ∧ D.nx σ H) ∨ ((Its z).go i H ∧ ∃ N : St → Hp → Prop, (∀ σ' H', N σ' H' → ∃ m', m' < m ∧ W (i + 1) m' σ' H') ∧ ∀ x H', (Its z).yld i H x H' → g x σ H' fun σ2 H2 => tb { D with nx := N, ct := N, bk := D.nx } σ2 H2) := by
  refine ⟨fun i m σ H => m = z.length - i ∧ i ≤ z.length ∧ Pv i σ H, ⟨z.length, by simp, Nat.zero_le _, h0⟩, ?_⟩
  rintro i m σ H ⟨rfl, hi, hp⟩
  rcases Nat.lt_or_ge i z.length with c | c
  · refine .inr ⟨c, Pv (i + 1), fun σ' H' q => ⟨z.length - (i + 1), by omega, rfl, c, q⟩, ?_⟩
    rintro x H' ⟨rfl, ch, hc, rfl⟩
    exact hs i ch σ _ hc hp
  · have e : i = z.length := Nat.le_antisymm hi c
    subst e
    exact .inl ⟨rfl, hd σ H hp⟩
end
end L2
namespace L2
open PySem PySem.Spec PyProof.Rows
/-- e: an exception of the class C with the dict d; B: what stays whatever the flight does; told: it has a traceback, whose flight mark is fl -/
def ExAt (B : Heap) (e : Addr) (C : Value) (d : Option Addr) (h : Heap) : Prop :=
  ∃ oe vs, h.get? e = some oe ∧ oe.cls = C ∧ oe.dict = d ∧ oe.data = .fields vs ∧ vs[2]? = some .none ∧ (vs[1]? = some .none ∨ ∃ T oT ts fl, vs[1]? = some (.ref T) ∧ B.get? T = none ∧ T ≠ e ∧ h.get? T = some oT ∧ oT.data = .fields ts ∧ ts[3]? = some fl)
def ExOn (B : Heap) (e : Addr) (C : Value) (d : Option Addr) (fl : Value) (h : Heap) : Prop :=
  ∃ oe vs T oT ts, h.get? e = some oe ∧ oe.cls = C ∧ oe.dict = d ∧ (oe.data = .fields vs ∧ vs[2]? = some .none) ∧ vs[1]? = some (.ref T) ∧ B.get? T = none ∧ T ≠ e ∧ h.get? T = some oT ∧ oT.data = .fields ts ∧ ts[3]? = some fl
theorem ExOn.at {B h : Heap} {e : Addr} {C fl : Value} {d : Option Addr} (x : ExOn B e C d fl h) : ExAt B e C d h := by
  obtain ⟨oe, vs, T, oT, ts, h1, h2, h3, h4, h5, h6, h7, h8, h9, h10⟩ := x
  exact ⟨oe, vs, h1, h2, h3, h4.1, h4.2, .inr ⟨T, oT, ts, fl, h5, h6, h7, h8, h9, h10⟩⟩
/-- what a station asks and gives -/
structure Air (B : Heap) (l : List Env) (e : Addr) (h : Heap) : Prop where
  stays : B.StaysIn h
  new : B.get? e = none
  frames : h.FunFrames B l
section
variable {M : Model} {A : Around} {E : Value → Shared → Prop} {s : Shared}
theorem dict_mapFields (o : Obj) (f : Array Value → Array Value) : (o.mapFields f).dict = o.dict := by
  obtain ⟨c, d, dt, sl⟩ := o
  cases dt <;> rfl
/-- an entry of the traceback is laid -/
theorem air_entry {B : Heap} {env : Env} {outer : List Env} {L e : Addr} {oe : Obj} {vs : Array Value} {head : Value} {had : Bool} {Q : Unit → Shared → Prop}
    (fr : A.frames = some (env :: outer)) (fl : env.frame = some L) (a : Air B (env :: outer) e s.heap) (he : s.heap.get? e = some oe) (hd : oe.data = .fields vs) (hcx : vs[2]? = some .none)
    (q : ∀ h', Air B (env :: outer) e h' → ExOn B e oe.cls oe.dict (rawInt L) h' → s.heap.UpToSlots h' → Q () { s with heap := h' }) :
    wpAny M A (do let f ← frameOf env; let pl ← entryPlaceOf L had; let b ← EntryCells.newEntry head f .none (rawInt L) .none pl; setField (.ref e) 1 b) Q E s := by
  have hz2 : 2 < vs.size := (Array.getElem?_eq_some_iff.mp hcx).1
  have hz : 1 < vs.size := by omega
  have nfr : e ∉ (env :: outer).filterMap (·.frame) := fun z => by
    obtain ⟨_, o, ho, hn⟩ := a.frames.mem z
    rw [he] at ho
    cases ho
    exact hn vs hd
  refine wpAny_bind (wpAny_frameOf_fun fr a.frames fl fun h1 so => ?_)
  refine wpAny_bind (wpAny_entryPlaceOf fun pl hpl => ?_)
  unfold EntryCells.newEntry newFields
  refine wpAny_bind (wpAny_newObj_type ?_ (hpl.sizeOk5 _ _ _ _ _))
  have he1 : h1.get? e = some oe := by rw [so.2.1 e nfr]; exact he
  have st1 : B.StaysIn h1 := fun b o hb => by
    rw [so.2.1 b fun z => by rw [(a.frames.mem z).1] at hb; cases hb]
    exact a.stays b o hb
  generalize hrec : ({ cls := .type "traceback", dict := none, data := .fields ([head, .ref L, .none, rawInt L, .none] ++ (if pl.isEmpty then List.replicate 6 Value.none else pl)).toArray } : Obj) = rec
  have rdat : ∃ ts : Array Value, rec.data = .fields ts ∧ ts[3]? = some (rawInt L) := by
    refine ⟨([head, .ref L, .none, rawInt L, .none] ++ (if pl.isEmpty then List.replicate 6 Value.none else pl)).toArray, by rw [← hrec], ?_⟩
    simp
  obtain ⟨ts, rd, r3⟩ := rdat
  have he2 := Heap.get?_push_of_some (h := h1) rec he1
  refine wpAny_setField he2 hd hz ?_
  have nT : h1.objs.size ≠ e := Nat.ne_of_gt (Heap.lt_size he1)
  have dat3 := Obj.data_mapFields hd (·.setIfInBounds 1 (Value.ref h1.objs.size))
  have he3 := Heap.get?_update_self (Obj.mapFields (·.setIfInBounds 1 (Value.ref h1.objs.size))) he2 (Obj.isFreed_of_fields dat3)
  have rnf : rec.isFreed = false := Obj.isFreed_of_fields rd
  have hT3 : ((h1.push rec).update e (Obj.mapFields (·.setIfInBounds 1 (Value.ref h1.objs.size)))).get? h1.objs.size = some rec := by
    rw [Heap.get?_update_other _ _ (Ne.symm nT)]; exact Heap.get?_push_size h1 rnf
  have keep : ∀ b o, b ≠ e → h1.get? b = some o → ((h1.push rec).update e (Obj.mapFields (·.setIfInBounds 1 (Value.ref h1.objs.size)))).get? b = some o := fun b o nb hb => by
    rw [Heap.get?_update_other _ _ (Ne.symm nb)]; exact Heap.get?_push_of_some _ hb
  have nrec : ∀ b o, s.heap.get? b = some o → (∀ ws, o.data ≠ .fields ws) → b ≠ e := fun b o hb hn z => by
    rw [z, he] at hb
    cases hb
    exact hn vs hd
  refine q _ ⟨fun b o hb => keep b o (fun z => by rw [z, a.new] at hb; cases hb) (st1 b o hb), a.new, a.frames.of_keeps fun b o hb hn => ?_⟩ ?_ fun b o hb hn => ?_
  · obtain ⟨sl, e1⟩ := so.2.2 b o hb
    exact ⟨_, keep b _ (nrec b o hb hn) e1, rfl⟩
  · refine ⟨_, _, h1.objs.size, rec, ts, he3, Obj.cls_mapFields _ _, dict_mapFields _ _, ⟨dat3, by rw [Array.getElem?_setIfInBounds_ne (by decide)]; exact hcx⟩, by simp [hz], st1.fresh, nT, hT3, rd, r3⟩
  · obtain ⟨sl, e1⟩ := so.2.2 b o hb
    exact ⟨sl, keep b _ (nrec b o hb hn) e1⟩
/-- a traceback's mark is set -/
theorem air_mark {B : Heap} {l : List Env} {e T : Addr} {oe oT : Obj} {vs ts : Array Value} {fl v : Value} (a : Air B l e s.heap) (he : s.heap.get? e = some oe) (hd : oe.data = .fields vs) (hcx : vs[2]? = some .none) (h1 : vs[1]? = some (.ref T)) (nT : B.get? T = none) (nTe : T ≠ e)
    (hT : s.heap.get? T = some oT) (hdT : oT.data = .fields ts) (h3 : ts[3]? = some fl) {Q : Unit → Shared → Prop}
    (q : ∀ h', Air B l e h' → h'.get? e = some oe → ExOn B e oe.cls oe.dict v h' → s.heap.UpToSlots h' → Q () { s with heap := h' }) : wpAny M A (setField (.ref T) 3 v) Q E s := by
  have z3 : 3 < ts.size := (Array.getElem?_eq_some_iff.mp h3).1
  have other : ∀ b, b ≠ T → (s.heap.update T (Obj.mapFields (·.setIfInBounds 3 v))).get? b = s.heap.get? b := fun b nb => Heap.get?_update_other _ _ (Ne.symm nb)
  have nrec : ∀ b o, s.heap.get? b = some o → (∀ ws, o.data ≠ .fields ws) → b ≠ T := fun b o hb hn z => by
    rw [z, hT] at hb
    cases hb
    exact hn ts hdT
  have he' := (other e (Ne.symm nTe)).trans he
  refine wpAny_setField hT hdT z3 (q _ ⟨fun b o hb => ?_, a.new, a.frames.of_keeps fun b o hb hn => ⟨o, (other b (nrec b o hb hn)).trans hb, rfl⟩⟩ he' ?_ fun b o hb hn => ⟨o.slots, (other b (nrec b o hb hn)).trans hb⟩)
  · exact (other b fun z => by rw [z, nT] at hb; cases hb).trans (a.stays b o hb)
  · exact ⟨oe, vs, T, _, _, he', rfl, rfl, ⟨hd, hcx⟩, h1, nT, nTe, Heap.get?_update_self _ hT (Obj.isFreed_of_fields (Obj.data_mapFields hdT _)), Obj.data_mapFields hdT _, by simp [z3]⟩
/-- the frame is noted -/
theorem air_note {B : Heap} {env : Env} {outer : List Env} {L e : Addr} {C : Value} {d : Option Addr} {Q : Unit → Shared → Prop} (fr : A.frames = some (env :: outer)) (fl : env.frame = some L) (a : Air B (env :: outer) e s.heap) (x : ExAt B e C d s.heap)
    (q : ∀ h', Air B (env :: outer) e h' → ExOn B e C d (rawInt L) h' → s.heap.UpToSlots h' → Q () { s with heap := h' }) : wpAny M A (noteFrame (.ref e) env) Q E s := by
  obtain ⟨oe, vs, he, rfl, rfl, hd, hz, hv⟩ := x
  unfold noteFrame
  simp only [fl]
  rcases hv with hv | ⟨T, oT, ts, f0, hv, nT, nTe, hT, hdT, h3⟩
  · refine wpAny_bind (wpAny_field he hd hv ?_)
    rw [if_neg (by decide)]
    exact air_entry fr fl a he hd hz q
  · refine wpAny_bind (wpAny_field he hd hv ?_)
    rw [if_pos (show (Value.ref T != Value.none) = true from by simp)]
    refine wpAny_bind (wpAny_field hT hdT h3 ?_)
    by_cases e0 : (f0 == rawInt L) = true
    · rw [if_pos e0]
      have e1 : f0 = rawInt L := by simpa using e0
      subst e1
      exact wpAny_pure (q s.heap a ⟨oe, vs, T, oT, ts, he, rfl, rfl, ⟨hd, hz⟩, hv, nT, nTe, hT, hdT, h3⟩ (Heap.UpToSlots.refl _))
    · rw [if_neg e0]
      refine wpAny_bind (air_mark a he hd hz hv nT nTe hT hdT h3 fun h1 a1 he1 _ u1 => ?_)
      exact air_entry (s := { s with heap := h1 }) fr fl a1 he1 hd hz fun h2 a2 x2 u2 => q h2 a2 x2 (u1.trans u2)
/-- the flight's mark -/
theorem air_flight {B : Heap} {l : List Env} {e : Addr} {C f0 : Value} {d : Option Addr} {o : Option Addr} {Q : Unit → Shared → Prop} (a : Air B l e s.heap) (x : ExOn B e C d f0 s.heap)
    (q : ∀ h', Air B l e h' → ExOn B e C d (o.elim .none fun f => rawInt f) h' → s.heap.UpToSlots h' → Q () { s with heap := h' }) : wpAny M A (setFlight (.ref e) o) Q E s := by
  obtain ⟨oe, vs, T, oT, ts, he, rfl, rfl, ⟨hd, hcx⟩, hv, nT, nTe, hT, hdT, h3⟩ := x
  unfold setFlight
  refine wpAny_bind (wpAny_field he hd hv ?_)
  rw [if_pos (show (Value.ref T != Value.none) = true from by simp)]
  exact air_mark a he hd hcx hv nT nTe hT hdT h3 fun h' a' _ x' u' => q h' a' x' u'
theorem Air.tail {B : Heap} {env : Env} {outer : List Env} {e : Addr} {h : Heap} (a : Air B (env :: outer) e h) : Air B outer e h := ⟨a.stays, a.new, a.frames.2.2⟩
/-- the frame is left -/
theorem air_leave {B : Heap} {env : Env} {outer : List Env} {L e : Addr} {C : Value} {d : Option Addr} {Q : Unit → Shared → Prop} (fr : A.frames = some (env :: outer)) (fl : env.frame = some L) (a : Air B (env :: outer) e s.heap) (x : ExAt B e C d s.heap)
    (q : ∀ h', Air B outer e h' → ExAt B e C d h' → s.heap.UpToSlots h' → Q () { s with heap := h' }) : wpAny M A (leaving env (.ref e)) Q E s := by
  unfold leaving
  refine wpAny_bind (air_note fr fl a x fun h1 a1 x1 u1 => ?_)
  exact air_flight (s := { s with heap := h1 }) a1 x1 fun h2 a2 x2 u2 => q h2 a2.tail x2.at (u1.trans u2)
end
/-- what was there ahead, and is kept in B; the frames up to their slots -/
structure UnB (fs : List Addr) (H H' : Hp) (h B h' : Heap) : Prop where
  keep : ∀ b o, h.get? b = some o → H b = none → b ∉ fs → B.get? b = some o
  slot : ∀ b o, h.get? b = some o → H b = none → b ∈ fs → ∃ sl, h'.get? b = some { o with slots := sl }
  free : ∀ b o, h.get? b = some o → H b = none → H' b = none
  there : ∀ b o, h.get? b = some o → b ∉ fs → ∃ o', B.get? b = some o'
  tups : ∀ b xs, H b = some (.tup xs) → H' b = some (.tup xs)
  frzs : ∀ b o u, H b = some (.frz o u) → H' b = some (.frz o u)
  tbls : ∀ b ps, H b = some (.tbl ps) → ∃ more, H' b = some (.tbl (ps ++ more))
/-- the exception e flies, over the frames at outer; H, s: ahead of the call; H': what is tracked now -/
structure Fly (P : Program) (w : World) (outer : List Env) (H : Hp) (s : Shared) (C : Value) (d : Option Addr) (H' : Hp) (e : Addr) (s' : Shared) : Prop where
  os : s'.os = s.os
  bare : AllBare s'.gens
  ex : ∃ B, Air B outer e s'.heap ∧ ExAt B e C d s'.heap ∧ HOk P w H' B ∧ UnB (frs outer) H H' s.heap B s'.heap
def CX1 (P : Program) (w : World) : CXT := fun outer H s E ev s' => ∃ e C d H', ev = .ref e ∧ Fly P w outer H s C d H' e s' ∧ E C d H'
end L2
namespace L2
open PySem PySem.Spec PyProof.Rows
abbrev vE : List Value := [.type "ValueError", .type "Exception", .type "BaseException", .type "object"]
/-- a class of the text under ValueError, without an __init__ of its own -/
def ExCls (K : PySem.W.Frag) (C : Addr) : Prop := PySem.W.excIn K C vE "ValueError.__new__" = true
theorem ExCls.obj {K : PySem.W.Frag} {C : Addr} {h : Heap} (q : ExCls K C) (k : K.In h) :
    ∃ bm N nm qn bs hd sn sub ab col dd k0 k1 k2 k3 k5 mN, h.get? C = some (excClassObj nm qn C N bs bm hd sn sub ab col dd k0 k1 k2 k3 k5 "ValueError.__new__") ∧ h.Ns N mN ∧ mN "__init__" = none ∧ OwnTail h vE bm := by
  unfold ExCls PySem.W.excIn at q
  split at q
  · rename_i dd cd sl ho
    split at q
    · rename_i C1 bm k0 k1 k2 k3 n k5 hm hs
      simp only [Bool.and_eq_true, beq_iff_eq, Bool.not_eq_true'] at q
      obtain ⟨⟨⟨⟨⟨e1, e2⟩, hdel⟩, ht⟩, hok⟩, hni⟩ := q
      subst e1 e2
      cases cd
      dsimp only at hm hdel hok hni
      subst hm hdel
      have esl : sl = #[k0, k1, k2, k3, some (.builtin "ValueError.__new__"), k5] := by
        cases sl
        simp only at hs
        rw [hs]
      subst esl
      exact ⟨bm, _, _, _, _, _, _, _, _, _, dd, k0, k1, k2, k3, k5, _, k _ _ ho, .of_isNs (PySem.W.isNs_of_in k hok), PySem.W.nsMap_none_of_in k hok hni, PySem.W.tail_of_in k ht⟩
    · cases q
  · cases q
/-- an exception just made here reaches what is wanted of exceptions -/
def Throws (X : Cx) (E : XK) : Prop := ∀ (pins : List (Addr × Obj)) (σ : St) (H : Hp) (s : Shared) (h' : Heap) (e : Addr) (C : Value) (args : List Value), Inv X pins σ H s → Heap.MadeExcOf s.heap h' e C args → E C none H → X.xe (.ref e) { s with heap := h' }
def tRaise (ta : TA) (C : Addr) (E : XK) : TS := fun _ σ H => ta σ H fun vs H1 => vs.length ≤ sizeLine ∧ E (.ref C) none H1
section
variable {X : Cx} {x : Str} {C : Addr} {e₀ : Expr} {rest : List Expr} {ta : TA} {E : XK} {np cpos pos : Pos}
theorem ps_raise (hc : X.calm = true) (hC : ExCls X.K C) (hg : Gl X x) (hm : X.mg x = some (.ref C)) (ht : Throws X E) (ha : PA X (e₀ :: rest) ta) (hdb : (x == ("__debug__" : Str)) = false := by decide)
    (he : starEach (e₀ :: rest) X.env = (false, eval e₀ X.env) :: starEach rest X.env := by rfl) (hpl : (backTo cpos (starEach rest X.env)).any (·.1) = false := by rfl) :
    PS X (.Raise (some (.Call (.Name x np) (e₀ :: rest) [] cpos)) none pos) (tRaise ta C E) := by
  intro pins s σ H D I h
  obtain ⟨bm, N, nm, qn, bs, hd, sn, sub, ab, col, dd, k0, k1, k2, k3, k5, mN, oC, nN, ni, TL⟩ := hC.obj I.mod.kin
  have FB := PySem.F.excBase_ValueError
  refine wpAny_Raise_call_subT (C := C) (nm := nm) (q := qn) (N := N) (bs := bs) (bm := bm) (hdct := hd) (sn := sn) (sub := sub) (ab := ab) (col := col) (dd := dd) (k0 := k0) (k1 := k1) (k2 := k2) (k3 := k3) (k5 := k5)
    FB (mN := mN) (TL.hasType FB.hasBase) (I.ok.hd hc) (by rw [he]; show (false || (backTo cpos (starEach rest X.env)).any (·.1)) = false; rw [hpl]; rfl) ni (ld_glob I hg hm ⟨rfl, ?_⟩ hdb)
  have hA := ha cpos pins s σ H _ I h
  rw [he] at hA ⊢
  refine Calls.evalArgs_plain (thn hA fun us s2 ⟨vs, H2, I2, r2, hz, q2⟩ => ⟨rfl, by rw [← r2.length]; exact hz, I2.bk _ _ oC, nN.keeps I2.bk, TL.keeps I2.bk, fun h' e hm => ht pins σ H2 s2 h' e _ _ I2 hm q2⟩)
end
/-- the tracked things lie in B -/
theorem hok_hide {P : Program} {w : World} {H : Hp} {h : Heap} {l : List Addr} (x : HOk P w H h) (fr : ∀ b ∈ l, H b = none) : HOk P w H (PySem.W.hideAll h l) := fun b u e => by
  refine (x b u e).stay (fun c v hc q => PySem.W.hideAll_get _ q fun z => ?_) (fun _ q => q) fun _ _ q => q
  rcases hc with hc | hc
  · rw [hc] at z
    rw [fr b z] at e; cases e
  · rw [fr c z] at hc; cases hc
section
variable {P : Program} {w : World} {K : PySem.W.Frag} {mg : Str → Option Value} {base : Heap} {N : List Str} {qual : Str} {scope : Scope} {f : Addr} {cd : Value} {A : Around} {outer : List Env} {s : Shared} {H : Hp} {E E' : XK}
/-- the frames of a def's body -/
theorem frs_cons {env : Env} {l : List Env} {L : Addr} (h : env.frame = some L) : frs (env :: l) = L :: frs l := by unfold frs; rw [List.filterMap_cons, h]
/-- behind the callee: what was ahead of the def is in B -/
theorem UnB.after {X : Cx} {pins : List (Addr × Obj)} {σ : St} {Hc H' : Hp} {sc : Shared} {B h' h2 : Heap} {e : Addr} (I : Inv X pins σ Hc sc) (hex : X.ex = []) (hst : X.stack = X.env :: X.outer) (hfr : X.env.frame = some X.env.locals)
    (a : Air B X.stack e h') (u : UnB (frs X.stack) Hc H' sc.heap B h') (up : h'.UpToSlots h2) : UnB (frs X.outer) X.H₀ H' X.s₀.heap B h2 := by
  have nex : ∀ b : Addr, b ∉ X.ex := fun b z => by rw [hex] at z; cases z
  have efr : frs X.stack = X.env.locals :: frs X.outer := by rw [hst, frs_cons hfr]
  have old : ∀ b o, X.s₀.heap.get? b = some o → b ∉ frs X.outer → b ∉ frs X.stack := fun b o q hb z => by
    rw [efr] at z
    rcases List.mem_cons.mp z with z | z
    · have l1 := Heap.lt_size q
      rw [z] at l1
      exact absurd (Nat.lt_of_lt_of_le l1 I.ok.above) (Nat.lt_irrefl _)
    · exact hb z
  have inn : ∀ b, b ∈ frs X.outer → b ∈ frs X.stack := fun b hb => by rw [efr]; exact List.mem_cons_of_mem _ hb
  exact {
    keep := fun b o q n hb => u.keep b o (I.base.keep b o q n hb (nex b)) (I.base.free b o q n (nex b)) (old b o q hb)
    slot := fun b o q n hb => by
      obtain ⟨sl, e1⟩ := I.base.slot b o q n hb (nex b)
      obtain ⟨sl2, e2⟩ := u.slot b _ e1 (I.base.free b o q n (nex b)) (inn b hb)
      obtain ⟨_, o3, e3, nf⟩ := a.frames.mem (inn b hb)
      have : o3 = { ({ o with slots := sl } : Obj) with slots := sl2 } := by rw [e2] at e3; exact (Option.some.inj e3).symm
      subst this
      obtain ⟨sl3, e4⟩ := up b _ e2 nf
      exact ⟨sl3, e4⟩
    free := fun b o q n => by
      obtain ⟨o1, e1⟩ := I.base.there b o q (nex b)
      exact u.free b o1 e1 (I.base.free b o q n (nex b))
    there := fun b o q hb => by
      obtain ⟨o1, e1⟩ := I.base.there b o q (nex b)
      exact u.there b o1 e1 (old b o q hb)
    tups := fun b xs q => u.tups b xs (I.base.tups b xs q)
    frzs := fun b o v q => u.frzs b o v (I.base.frzs b o v q)
    tbls := fun b ps q => by
      obtain ⟨m1, e1⟩ := I.base.tbls b ps q
      obtain ⟨m2, e2⟩ := u.tbls b _ e1
      exact ⟨m1 ++ m2, by rw [e2, Array.append_assoc]⟩ }
theorem pass1 (hE : ∀ C d H', E' C d H' → E C d H') : Passes (CX1 P w) (cxOf (CX1 P w) P w K mg base N qual scope f cd A outer s H E) E' := by
  rintro pins σ Hc sc ev s' I ⟨e, C, d, H', rfl, fly, hq⟩
  obtain ⟨B, a, x, hok, u⟩ := fly.ex
  refine air_leave (B := B) (L := s.heap.objs.size) I.ok.frames rfl a x fun h2 a2 x2 up => ?_
  exact ⟨e, C, d, H', rfl, ⟨fly.os.trans I.os, fly.bare, B, a2, x2, hok, UnB.after I rfl rfl rfl a u up⟩, hE _ _ _ hq⟩
/-- a raise: the frames hidden, all stays -/
theorem fly_made {X : Cx} {pins : List (Addr × Obj)} {σ : St} {Hc : Hp} {sc : Shared} {h' : Heap} {e : Addr} {C : Value} {args : List Value} (I : Inv X pins σ Hc sc) (m : Heap.MadeExcOf sc.heap h' e C args) :
    ∃ B, Air B X.stack e h' ∧ ExAt B e C none h' ∧ HOk X.prog X.w Hc B ∧ UnB (frs X.stack) Hc Hc sc.heap B h' := by
  have fr := I.stkFree
  refine ⟨PySem.W.hideAll sc.heap (frs X.stack), ⟨fun b o q => m.keeps _ _ (PySem.W.of_hideAll _ q), ?_, ?_⟩, ?_, hok_hide I.hok fr, ?_⟩
  · cases q : (PySem.W.hideAll sc.heap (frs X.stack)).get? e with
    | none => rfl
    | some o =>
      have := PySem.W.of_hideAll _ q
      rw [m.new] at this; cases this
  · refine (PySem.W.funFrames_hide I.stack fun env he a ha => List.mem_filterMap.mpr ⟨env, he, ha⟩).of_keeps fun b o q _ => ⟨o, m.keeps _ _ q, rfl⟩
  · obtain ⟨t, he, _, _⟩ := m.there
    exact ⟨_, _, he, rfl, rfl, rfl, by simp, .inl rfl⟩
  · exact ⟨fun b o q _ hb => PySem.W.hideAll_get _ q hb, fun b o q _ _ => ⟨o.slots, m.keeps _ _ q⟩, fun _ _ _ n => n, fun b o q hb => ⟨o, PySem.W.hideAll_get _ q hb⟩, fun _ _ q => q, fun _ _ _ q => q, fun _ ps q => ⟨#[], by simpa using q⟩⟩
theorem throw1 : Throws (cxOf (CX1 P w) P w K mg base N qual scope f cd A outer s H E) E := by
  intro pins σ Hc sc h' e C args I m hq
  obtain ⟨B, a, x, hok, u⟩ := fly_made I m
  refine air_leave (s := { sc with heap := h' }) (B := B) (L := s.heap.objs.size) I.ok.frames rfl a x fun h2 a2 x2 up => ?_
  exact ⟨e, C, none, Hc, rfl, ⟨I.os, I.bare, B, a2, x2, hok, UnB.after I rfl rfl rfl a u up⟩, hq⟩
end
/-- THE RULE for a def that may raise -/
theorem Fun.ok1 {P : Program} {w : World} {K : PySem.W.Frag} {mg : Str → Option Value} {base : Heap} {x qual : Str} {st : Stmt} {f : Addr} {fd : FuncData} {N ps : List Str} {k : Nat} {sp : Sp} (F : Fun K x qual st f fd) (S : FnScope N ps (defScope st)) (len : ∀ vs H Q E, sp vs H Q E → vs.length = ps.length)
    (hbody : ∀ (cdv : Value) (A : Around) (outer : List Env) (s : Shared) (H : Hp) (vs : List V) (Q : VK) (E : XK), Room k (A.deeper (envOfC qual (defScope st) s.heap.objs.size f cdv)) → sp vs H Q E →
      ∃ t, PSs (cxOf (CX1 P w) P w K mg base N qual (defScope st) f cdv A outer s H E) (defBody st) t ∧ t { nx := fun _ H' => Q .non H', rt := Q } (start N vs) H) : FnOk P w K mg base (CX1 P w) (k + 1) f fd ps sp := by
  obtain ⟨oc, od, kV, doc, pm, an, cdv, ct, osl, rfl, lk, hcd⟩ := F.ex
  exact fn_of lk hcd S len fun A outer s H vs Q E hr hsp => hbody cdv A outer s H vs Q E hr hsp
end L2
namespace L2
open PySem PySem.Spec PyProof.Rows
section
variable {X : Cx} {pins : List (Addr × Obj)} {σ : St} {H : Hp} {s : Shared} {W : Value → Shared → Prop} {e : Addr}
end
end L2
namespace L2
open PySem PySem.Spec PyProof.Rows
section
variable {X : Cx} {pins : List (Addr × Obj)} {σ : St} {H : Hp} {C : Value} {d : Option Addr} {e : Addr} {s : Shared}
end
section
variable {X : Cx} {x n : Str} {DA : Addr} {j : Nat} {b₀ : Stmt} {suite : List Stmt} {ts : Addr → TS} {tr : TH} {np hpos pos : Pos} {rest : List ExceptHandler}
end
section
variable {X : Cx} {CX : CXT} {k : Nat} {f : Addr} {fd : FuncData} {ps : List Str} {sp : Sp} {dvs : List V} {ds : List Value} {E : XK} {x : Str} {p pos : Pos} {e : Expr} {es : List Expr} {t : TA} {te : TE} {σ : St}
end
end L2
namespace L2
open PySem PySem.Spec PyProof.Rows
section
variable {prog : Program} {w : World} {A : Around} {E : Value → Shared → Prop} {s : Shared} {K : PySem.W.Frag} {x D : Addr} {ox : Obj} {od : Option Obj} {name : Str}
end
section
variable {X : Cx}
end
end L2
namespace L2
open PySem PySem.Spec PyProof.Rows
section
variable {X : Cx} {o e : Expr} {es : List Expr} {to : TE} {t : TA} {name : Str} {id : String} {r : V → List V → Hp → VK → Prop} {apos cpos : Pos}
theorem idx_first : ∀ (r : List Nat) (j i : Nat), j < r.idxOf i → r[j]? ≠ some i
  | [], j, i, h => by simp at h
  | a :: r, j, i, h => by
    by_cases e : a = i
    · subst e; simp at h
    · cases j with
      | zero => simp; exact e
      | succ j =>
        have h' : j < r.idxOf i := by
          rw [List.idxOf_cons] at h
          have : (a == i) = false := by simpa using e
          rw [this] at h
          simp at h
          exact h
        simpa using idx_first r j i h'
end
end L2
namespace L2
open PySem PySem.Spec PyProof.Rows
structure ClsF (K : PySem.W.Frag) (D : Addr) : Prop where
  ty : PySem.W.typeIn K (.ref D) = some (.type "type")
  cl : PySem.W.isClsIn K D = true
  be : PySem.W.subIn K (.ref D) (.type "BaseException") = some true
  ga : PySem.W.findIn K (.ref D) "__getattribute__" = some (some (.builtin "BaseException.__getattribute__"))
  gt : PySem.W.findIn K (.ref D) "__getattr__" = some none
  ac : PySem.W.findIn K (.ref D) "__class__" = some (some (.builtin "object.__class__"))
  sp : PySem.W.specialIn K (.builtin "object.__class__") "__get__" = some (some (.builtin "getset_descriptor.__get__"))
  tk : PySem.W.takesIn K (.builtin "object.__class__") = some true
  mo : PySem.W.mroIn K D (.type "object") = some true
end L2
namespace L2
open PySem PySem.Spec PyProof.Rows
section
variable {X : Cx}
def rIndexL : V → List V → Hp → VK → Prop := fun x vs H Q => ∃ (p : Addr) (r : List Nat) (i : Nat), x = .ref p ∧ vs = [.int (i : Int)] ∧ H p = some (.lst (nv r)) ∧ i ∈ r ∧ Q (.int (r.idxOf i : Nat)) H
def eInt (i : Int) : Value → Bool
  | .int m _ => m == i
  | _ => false
theorem mt_indexL : MtR X "list.index" rIndexL := by
  intro pins s σ H x vs v us Q I rx rv h
  obtain ⟨p, r, i, rfl, rfl, hp, hi, q⟩ := h
  cases rx
  obtain ⟨u, rfl, t, rfl⟩ := rv.one
  obtain ⟨z, its, n, r', hl, e⟩ := I.lstM hp
  have hlen : its.length = r.length := by rw [← r'.length, nv_len]
  have item : ∀ (j : Nat) (hj : j < its.length), ∃ (m : Nat) (t : Tok), r[j]? = some m ∧ its[j] = .int (m : Int) t := fun j hj => by
    have hj' : j < r.length := by rw [← hlen]; exact hj
    obtain ⟨u, hu, ru⟩ := r'.get (nv_get (List.getElem?_eq_getElem hj'))
    rw [List.getElem?_eq_getElem hj] at hu
    obtain ⟨t, ht⟩ := ru
    exact ⟨_, t, List.getElem?_eq_getElem hj', (Option.some.inj hu).trans ht⟩
  have hil := List.idxOf_lt_length_of_mem hi
  have hlt : r.idxOf i < its.length := by rw [hlen]; exact hil
  have hz63 : (sizeLine : Nat) ≤ 2 ^ 62 := by decide
  refine call_meets PySem.F.slot_list_index ⟨_, e, rfl⟩ PySem.F.entry_list_index (PySem.F.args_list_index_2 _ _) (SeqAt.list_indexAt p its.toArray n none #[] (.int (i : Int) t) (eInt (i : Int)) (r.idxOf i) (by rw [List.size_toArray]; exact hlt) (by
      have : nv r = nv r := rfl
      have hl2 : (nv r).length ≤ sizeLine := z
      rw [nv_len] at hl2
      omega) ?_ (fun m hm hlt' => ?_)) ⟨e, fun y hy => ?_, ?_⟩
  · obtain ⟨m, t', hm, ey⟩ := item _ hlt
    rw [List.getElem_toArray, ey]
    rw [List.getElem?_eq_getElem hil, List.getElem_idxOf hil] at hm
    show ((m : Int) == (i : Int)) = true
    rw [← Option.some.inj hm]; simp
  · have hm' : m < its.length := by simpa using hm
    obtain ⟨k, t', hk, ey⟩ := item m hm'
    rw [List.getElem_toArray, ey]
    show ((k : Int) == (i : Int)) = false
    have hne : k ≠ i := fun z => idx_first r m i hlt' (by rw [← z]; exact hk)
    simp; omega
  · have hy : y ∈ its := by simpa using hy
    obtain ⟨j, hj, ey⟩ := List.mem_iff_getElem.mp hy
    obtain ⟨m, t', _, e2⟩ := item j hj
    rw [← ey, e2]
    exact SeqAt.EqAt.int_int (m : Int) t' (i : Int) t
  · exact ⟨.int (r.idxOf i : Nat), H, I.tok _, ⟨_, rfl⟩, q⟩
end
end L2
namespace L2
open PySem PySem.Spec PyProof.Rows
def Itzz (K : PySem.W.Frag) (l1 l2 : Addr) : It :=
  ⟨fun i H => ∃ xs ys x y, SqL K H l1 xs ∧ SqL K H l2 ys ∧ xs[i]? = some x ∧ ys[i]? = some y,
   fun i H x H' => ∃ T a b, H T = none ∧ x = .ref T ∧ (∀ xs, SqL K H l1 xs → xs[i]? = some a) ∧ (∀ ys, SqL K H l2 ys → ys[i]? = some b) ∧ H' = upd H T (tupE T [a, b]),
   fun i H => ∃ xs ys, SqL K H l1 xs ∧ SqL K H l2 ys ∧ min xs.length ys.length = i⟩
abbrev ZSt (z TI TO i1 i2 l1 l2 : Addr) (i : Nat) (h : Heap) : Prop := IsZip h z TI TO .none ∧ IsPair h TI (.ref i1) (.ref i2) ∧ (∃ a b, IsPair h TO a b) ∧ h.IsListIter i1 l1 i ∧ h.IsListIter i2 l2 i
theorem sql_one {X : Cx} {pins : List (Addr × Obj)} {σ : St} {H : Hp} {s : Shared} (I : Inv X pins σ H s) {a : Addr} {xs ys : List V} (h1 : SqL X.K H a xs) (h2 : SqL X.K H a ys) : ys = xs := I.list_inj h2 h1
theorem turn_zip {P : Program} {w : World} {K : PySem.W.Frag} {elts : List Expr} {k : Nat} {pos : Pos} (z TI TO i1 i2 l1 l2 : Addr) (D : ZipApart z TI TO i1 i2 l1 l2) :
    Turn P w K (.Tuple elts k pos) (Itzz K l1 l2) [z, TI, TO, i1, i2] z (ZSt z TI TO i1 i2 l1 l2) where
  mem := by simp
  obj := fun i h st b hb => by
    obtain ⟨hz, hTI, ⟨a, b', hTO⟩, ⟨o1, e1, c1, d1⟩, ⟨o2, e2, c2, d2⟩⟩ := st
    simp at hb
    rcases hb with rfl | rfl | rfl | rfl | rfl
    · exact ⟨_, hz, fun v z => nomatch z⟩
    · exact ⟨_, hTI, fun v z => nomatch z⟩
    · exact ⟨_, hTO, fun v z => nomatch z⟩
    · exact ⟨_, e1, fun v z => by rw [d1] at z; cases z⟩
    · exact ⟨_, e2, fun v z => by rw [d2] at z; cases z⟩
  keep := fun i h h' st kp => by
    obtain ⟨hz, hTI, ⟨a, b, hTO⟩, h1, h2⟩ := st
    exact ⟨kp z (by simp) _ hz, kp TI (by simp) _ hTI, ⟨a, b, kp TO (by simp) _ hTO⟩, h1.at fun o e => kp i1 (by simp) o e, h2.at fun o e => kp i2 (by simp) o e⟩
  item := by
    intro X hP hw hK hc i pins s σ H E I hf st hg
    subst hP hw hK
    obtain ⟨xs, ys, x, y, hx, hy, gx, gy⟩ := hg
    obtain ⟨ix, rx, px, zx⟩ := I.list hx
    obtain ⟨iy, ry, py, zy⟩ := I.list hy
    have lx : i < ix.toArray.size := by
      have := (List.getElem?_eq_some_iff.mp gx).1
      rw [rx.length] at this; simpa using this
    have ly : i < iy.toArray.size := by
      have := (List.getElem?_eq_some_iff.mp gy).1
      rw [ry.length] at this; simpa using this
    have W := WalksT.zip2 (prog := X.prog) (w := X.w) (I.ok.hd hc) z TI TO i1 i2 l1 l2 D ix.toArray iy.toArray
    obtain ⟨hz, hTI, hTO, h1, h2⟩ := id st
    refine W.item i s _ E (Nat.lt_min.mpr ⟨lx, ly⟩) ⟨hz, hTI, hTO, h1, h2, px.isList, py.isList⟩ fun T vals h' tk hPt hT htup hMid hk => ⟨.ref T, rfl, ?_⟩
    refine W.go elts k pos i T _ _ E hMid fun h'' hSt hk2 => ?_
    obtain ⟨x', y', ex, ey, rfl⟩ := hPt
    obtain ⟨u, hu, ru⟩ := rx.get gx
    obtain ⟨v, hv, rv⟩ := ry.get gy
    have e1 : x' = u := by
      have : ix[i]? = some x' := by simpa using ex
      rw [hu] at this; exact (Option.some.inj this).symm
    have e2 : y' = v := by
      have : iy[i]? = some y' := by simpa using ey
      rw [hv] at this; exact (Option.some.inj this).symm
    subst e1 e2
    have htup2 : IsTup h'' T #[x', y'] := by
      obtain ⟨o, q1, q2⟩ := htup
      exact ⟨o, hk2 T o (W.apart _ _ _ hMid) q1, q2⟩
    refine ⟨.ref T, upd H T (tupE T [x, y]), ?_, rfl, ⟨T, x, y, I.hok.fresh hT, rfl, fun zs hzs => by rw [sql_one I hx hzs]; exact gx, fun zs hzs => by rw [sql_one I hy hzs]; exact gy, rfl⟩, ⟨hSt.1, hSt.2.1, hSt.2.2.1, hSt.2.2.2.1, hSt.2.2.2.2.1⟩, fun b hb => ?_⟩
    · refine I.turnLaid (s := s) (h' := h'') (t' := tk) hf hT (fun b ob hb q => ?_) (tupE_ok ⟨by show 2 ≤ sizeLine; decide, [x', y'], .cons ru (.cons rv .nil), htup2⟩)
      have hb' : b ∉ [z, TO, i1, i2] := fun z => hb (by simp at z ⊢; rcases z with h | h | h | h <;> simp [h])
      exact hk2 b ob hb' (hk b ob hb' q)
    · have hbT : b ≠ T := fun zz => by
        have : b < s.heap.objs.size := by
          obtain ⟨a, b', hTO⟩ := hTO
          obtain ⟨o1, q1, _⟩ := h1
          obtain ⟨o2, q2, _⟩ := h2
          simp at hb
          rcases hb with rfl | rfl | rfl | rfl | rfl
          · exact Heap.lt_size hz
          · exact Heap.lt_size hTI
          · exact Heap.lt_size hTO
          · exact Heap.lt_size q1
          · exact Heap.lt_size q2
        exact absurd (Nat.lt_of_lt_of_le this hT) (by rw [zz]; exact Nat.lt_irrefl _)
      rw [upd_ne hbT]; exact (hf b hb).1
  done := by
    intro X hP hw hK hc i pins s σ H E I hf st hs
    subst hP hw hK
    obtain ⟨xs, ys, hx, hy, hle⟩ := hs
    obtain ⟨ix, rx, px, zx⟩ := I.list hx
    obtain ⟨iy, ry, py, zy⟩ := I.list hy
    have W := WalksT.zip2 (prog := X.prog) (w := X.w) (I.ok.hd hc) z TI TO i1 i2 l1 l2 D ix.toArray iy.toArray
    obtain ⟨hz, hTI, hTO, h1, h2⟩ := id st
    have hi : i = min ix.toArray.size iy.toArray.size := by rw [← hle, rx.length, ry.length]; simp
    refine W.done s _ E (by rw [← hi]; exact ⟨hz, hTI, hTO, h1, h2, px.isList, py.isList⟩) fun h' tk hk => ⟨rfl, ?_⟩
    exact I.turnedL hf fun b ob hb q => hk b ob (fun z => hb (by simp at z ⊢; rcases z with h | h | h | h <;> simp [h])) q
  self := fun A i s Q E st h => wpAny_pyIter_zip st.1 h
section
variable {X : Cx} {elts : List Expr} {k : Nat} {tpos : Pos}
def iZip (K : PySem.W.Frag) (ta : TA) : TI := fun σ H R => ta σ H fun vs H1 => ∃ a b, vs = [.ref a, .ref b] ∧ (∃ xs, SqL K H1 a xs) ∧ (∃ ys, SqL K H1 b ys) ∧ R (Itzz K a b) H1
theorem boot_zip : bootBuiltins "zip" = some (.type "zip") := by decide +kernel
theorem pi_zip {l1 l2 : Expr} {ta : TA} {p pos : Pos} (hg : Gl X "zip") (hm : X.mg "zip" = none) (ha : PA X [l1, l2] ta) (hs : starEach [l1, l2] X.env = [(false, eval l1 X.env), (false, eval l2 X.env)] := by rfl) (hs2 : starEach [l2] X.env = [(false, eval l2 X.env)] := by rfl) :
    PI X (.Tuple elts k tpos) (.Call (.Name "zip" p) [l1, l2] [] pos) (iZip X.K ta) := by
  intro pins s σ H R I h
  refine Call_ (ld_blt I hg hm boot_zip (PyProof.Rows.callWith_type1 (thn (ha pos pins s σ H _ I h) fun us s1 ⟨vs, H1, I1, r1, q1⟩ => ?_) (by rw [hs, hs2]) (by rw [hs2]; rfl)))
  obtain ⟨a, b, rfl, ⟨xs, hx⟩, ⟨ys, hy⟩, q⟩ := q1
  obtain ⟨u, v, rfl, ru, rv⟩ := vals2 r1
  obtain rfl : u = Value.ref a := ru
  obtain rfl : v = Value.ref b := rv
  obtain ⟨ix, rx, px, zx⟩ := I1.list hx
  obtain ⟨iy, ry, py, zy⟩ := I1.list hy
  have ha : a < s1.heap.objs.size := by obtain ⟨o, ho, _⟩ := px.isList; exact Heap.lt_size ho
  have hb : b < s1.heap.objs.size := by obtain ⟨o, ho, _⟩ := py.isList; exact Heap.lt_size ho
  refine call_zip_2 px.isList py.isList fun h' q1 q2 q3 q4 q5 hsz hk => ?_
  refine wpAny_pyIter_zip q1 ?_
  have I2 : Inv X pins σ H1 { s1 with heap := h' } := I1.kept (t' := s1.toks) hk
  have D : ZipApart (s1.heap.objs.size + 4) (s1.heap.objs.size + 2) (s1.heap.objs.size + 3) s1.heap.objs.size (s1.heap.objs.size + 1) a b := by
    have ha' : ∀ k : Nat, a ≠ s1.heap.objs.size + k := fun k => Nat.ne_of_lt (Nat.lt_of_lt_of_le ha (Nat.le_add_right _ k))
    have hb' : ∀ k : Nat, b ≠ s1.heap.objs.size + k := fun k => Nat.ne_of_lt (Nat.lt_of_lt_of_le hb (Nat.le_add_right _ k))
    have nn : ∀ i j : Nat, i ≠ j → s1.heap.objs.size + i ≠ s1.heap.objs.size + j := fun i j h z => h (Nat.add_left_cancel z)
    exact ⟨nn 2 4 (by decide), nn 3 4 (by decide), nn 0 4 (by decide), nn 1 4 (by decide), nn 2 3 (by decide), nn 2 0 (by decide), nn 2 1 (by decide), nn 3 0 (by decide), nn 3 1 (by decide), nn 0 1 (by decide), ha' 4, ha' 3, ha' 0, ha' 1, hb' 4, hb' 3, hb' 0, hb' 1⟩
  refine ⟨s1.heap.objs.size + 4, [s1.heap.objs.size + 4, s1.heap.objs.size + 2, s1.heap.objs.size + 3, s1.heap.objs.size, s1.heap.objs.size + 1], _, _, H1, rfl, I2, turn_zip _ _ _ _ _ _ _ D, ⟨q1, q2, ⟨_, _, q3⟩, q4, q5⟩, fun c hc => ?_, q⟩
  have hle : s1.heap.objs.size ≤ c := by
    simp at hc
    rcases hc with rfl | rfl | rfl | rfl | rfl <;> (show s1.heap.objs.size ≤ _; omega)
  exact I1.fpOk hle (I1.hok.fresh hle)
/-- over the pairs of two lists -/
theorem for_zip {K : PySem.W.Frag} {l1 l2 : Addr} {xs ys : List V} {g : TG} {tb : TS} {D : Ends} {σ : St} {H : Hp} (hl : xs.length = ys.length) (Pv : Nat → St → Hp → Prop) (h0 : Pv 0 σ H) (hL : ∀ i σ H, Pv i σ H → SqL K H l1 xs ∧ SqL K H l2 ys)
    (hs : ∀ i a b σ H T, xs[i]? = some a → ys[i]? = some b → H T = none → Pv i σ H → g (.ref T) σ (upd H T (tupE T [a, b])) fun σ2 H2 => tb { D with nx := Pv (i + 1), ct := Pv (i + 1), bk := D.nx } σ2 H2) (hd : ∀ σ H, Pv xs.length σ H → D.nx σ H) :
    ∃ W : Nat → Nat → St → Hp → Prop, (∃ m, W 0 m σ H) ∧ ∀ i m σ H, W i m σ H →
      ((Itzz K l1 l2).stop i H ∧ D.nx σ H) ∨ ((Itzz K l1 l2).go i H ∧ ∃ N : St → Hp → Prop, (∀ σ' H', N σ' H' → ∃ m', m' < m ∧ W (i + 1) m' σ' H') ∧ ∀ x H', (Itzz K l1 l2).yld i H x H' → g x σ H' fun σ2 H2 => tb { D with nx := N, ct := N, bk := D.nx } σ2 H2) := by
  refine ⟨fun i m σ H => m = xs.length - i ∧ i ≤ xs.length ∧ Pv i σ H, ⟨xs.length, by simp, Nat.zero_le _, h0⟩, ?_⟩
  rintro i m σ H ⟨rfl, hi, hp⟩
  obtain ⟨q1, q2⟩ := hL i σ H hp
  by_cases hlt : i < xs.length
  · have g1 : xs[i]? = some xs[i] := List.getElem?_eq_getElem hlt
    have hlt2 : i < ys.length := by omega
    have g2 : ys[i]? = some ys[i] := List.getElem?_eq_getElem hlt2
    refine .inr ⟨⟨_, _, _, _, q1, q2, g1, g2⟩, Pv (i + 1), fun σ' H' p' => ⟨xs.length - (i + 1), by omega, rfl, hlt, p'⟩, fun x H' y => ?_⟩
    obtain ⟨T, a, b, hT, rfl, e1, e2, rfl⟩ := y
    exact hs i a b σ H T (e1 _ q1) (e2 _ q2) hT hp
  · have e : i = xs.length := by omega
    subst e
    exact .inl ⟨⟨_, _, q1, q2, by omega⟩, hd σ H hp⟩
end
end L2
namespace L2
open PySem PySem.Spec PyProof.Rows
section
variable {X : Cx}
end
end L2
namespace L2
open PySem PySem.Spec PyProof.Rows
theorem comp_turnIf {prog : Program} {w : World} {A : Around} {R : Result → Shared → Prop} {s : Shared} {elt target iter cnd : Expr} {scope : Scope} {pos : Pos} {it acc : Value} {env : Env} (I : Nat → Shared → Prop)
    (turn : ∀ n s, I n s → wpAny (model prog w) A (pyNext it) (fun r s₁ => match r with
      | none => R (.ok .next) s₁
      | some v => wpAny (model prog w) A (letOwnedTupleGo target it v) (fun _ s₀ => wpAny (model prog w) A (assign target env v) (fun _ s₂ =>
          wpAny (model prog w) A (isTrue cnd env (eval cnd env)) (fun ok s₃ => if ok = true then
          wpAny (model prog w) A (eval elt env) (fun x s₄ =>
              wpAny (model prog w) A (call (.builtin "list.append") [acc, x]) (fun _ s₅ => ∃ m, m < n ∧ I m s₅) (notedBy (model prog w) A env fun e s' => R (.error e) s') s₄) (notedBy (model prog w) A env fun e s' => R (.error e) s') s₃
            else ∃ m, m < n ∧ I m s₃) (notedBy (model prog w) A env fun e s' => R (.error e) s') s₂)
          (notedBy (model prog w) A env fun e s' => R (.error e) s') s₀) (notedBy (model prog w) A env fun e s' => R (.error e) s') s₁) (notedBy (model prog w) A env fun e s' => R (.error e) s') s)
    (n : Nat) (h : I n s) :
    codeAny (model prog w) A (.compLoop (.ListComp elt [⟨target, iter, [cnd], 0⟩] scope pos) 0 it acc env) R s := by
  refine codeAny_loop rfl I (fun n s hI => ?_) n h
  show wpAny _ A ((compTurn (.ListComp elt [⟨target, iter, [cnd], 0⟩] scope pos) 0 it acc env).onRaise (fun x => do noteFrame x env; theTreesLotGoes x)) _ _ s
  refine wpAny_noted ?_
  rw [compTurn_list]
  refine wpAny_bind (wpAny_standAt (wpAny_bind (wpAny_mono (turn n s hI) (fun r s₁ h₁ => ?_) fun _ _ h' => h')))
  cases r with
  | none => exact wpAny_pure h₁
  | some v =>
    refine wpAny_bind (wpAny_mono h₁ (fun _ s₀ h₀ => ?_) fun _ _ h' => h')
    refine wpAny_bind (wpAny_mono h₀ (fun _ s₂ h₂ => wpAny_bind (wpAny_tests_one (wpAny_mono h₂ (fun ok s₃ h₃ => ?_) fun _ _ h' => h'))) fun _ _ h' => h')
    cases ok with
    | false => exact wpAny_pure ⟨rfl, by simpa using h₃⟩
    | true =>
      have h₃ := (show wpAny _ _ _ _ _ _ from by simpa using h₃)
      exact wpAny_bind (wpAny_bind (wpAny_mono h₃ (fun x s₄ h₄ => wpAny_bind (wpAny_mono h₄ (fun _ s₅ h₅ => wpAny_pure (wpAny_pure ⟨rfl, h₅⟩)) fun _ _ h' => h')) fun _ _ h' => h'))
def tCompIf (wi : TI) (k : Nat) (pull : List Nat) (g : TG) (tt : TT) (te : TE) : TE := fun σ H Q => wi σ H fun J H1 => ∀ d, H1 d = none →
  ∃ W : Nat → Nat → St → Hp → Prop, (∃ m, W 0 m (bst k pull σ) (upd H1 d (.lst []))) ∧ ∀ i m σ' H', W i m σ' H' →
    (J.stop i H' ∧ Q (.ref d) H') ∨
    (J.go i H' ∧ ∀ x H2, J.yld i H' x H2 → g x σ' H2 fun σ3 H3 => tt σ3 H3 fun b H4 => if b = true then te σ3 H4 fun y H5 => ∃ xs, H5 d = some (.lst xs) ∧ xs.length < sizeLine ∧ ∃ m', m' < m ∧ W (i + 1) m' σ3 (upd H5 d (.lst (xs ++ [y])))
      else ∃ m', m' < m ∧ W (i + 1) m' σ3 H4)
section
variable {X : Cx} {elt tg iter cnd : Expr} {sc : Scope} {pos : Pos} {wi : TI} {g : TG} {tt : TT} {te : TE} {N : List Str} {names : List (Str × NameKind)} {N' : List Str} {k : Nat} {pull : List Nat}
end
end L2
namespace L2
open PySem PySem.Spec PyProof.Rows
section
variable {X : Cx} {elt tg iter : Expr} {sc : Scope} {pos py spos : Pos} {wi : TI} {g : TG} {te : TE} {N : List Str} {names : List (Str × NameKind)} {N' : List Str} {k j : Nat} {pull : List Nat} {y : Str}
theorem ps_comp (hc : X.calm = true) (hNd : X.N.Nodup) (hj : X.N[j]? = some y) (hy : X.env.scope.names.lookup y = some .local) (B : BScope N names N' k pull sc) (hN : X.N = N) (hnm : X.env.scope.names = names) (hi : PI X tg iter wi)
    (hg : ∀ cl C s₂ H₁ fp pins, PG (blk X sc cl C N' s₂ H₁ fp pins) tg g) (he : ∀ cl C s₂ H₁ fp pins, PE (blk X sc cl C N' s₂ H₁ fp pins) elt te)
    (hs : ∀ x, foldedSetIterable iter X.env x = pure x := by intro _; rfl) (hsw : swapsWith (.ListComp elt [⟨tg, iter, [], 0⟩] sc pos) (some (.Name y py)) spos.line X.env = pure true := by rfl) : PS X (.Assign [.Name y py] (.ListComp elt [⟨tg, iter, [], 0⟩] sc pos) spos) (tAsg (tComp wi k pull g te) (gName j)) := by
  intro pins s σ H D I h
  rw [exec_Assign_Name_used _ _ _ _ hsw]
  refine wpAny_bind (wpAny_standAt (wpAny_bind ?_))
  show wpAny _ X.A (do let _ ← comprehension (.ListComp elt [⟨tg, iter, [], 0⟩] sc pos) sc X.env _ (newList []) false (eval iter X.env) (some (assign (.Name y py) X.env))) _ _ s
  have hcells : ∀ y ∈ sc.names, y.2 = .free → ∃ c, X.env.cells.lookup y.1 = some c := fun y hy hf => I.ok.has y.1 (.inl (by
    show X.env.scope.names.lookup y.1 = _
    rw [hnm]; exact B.fre y hy hf))
  obtain ⟨cl, ecl, c1, _, c3⟩ := closureFor_is (env := X.env) sc.names [] hcells (fun x c e => nomatch e)
  rw [← closureFor_eq] at ecl
  refine wpAny_bind (wpAny_mono (wpAny_comprehension_free (Q := fun _ s' => SP X pins D .next s') (use := some (assign (.Name y py) X.env)) rfl hs ecl B.kind B.loc (thn (hi pins s σ H _ I h) fun xv s1 h1 => thn h1 fun itv s2 h2 => ?_)) (fun _ s' hq => wpAny_pure (wpAny_pure hq)) fun _ _ e => e)
  obtain ⟨it, fp, tn, J, H1, e, I2, T, st2, f2, hW⟩ := h2
  subst e
  have ho : ∀ b ∈ fp, ∃ o, s2.heap.get? b = some o := fun b hb => let ⟨o, e, _⟩ := T.obj _ _ st2 b hb; ⟨o, e⟩
  refine wpAny_newObj_type (wpAny_newFunctionEnv B.nocell (by intro y hy; simp at hy) (fun h₁ hns₁ hsb₁ => ?_) B.kind)
  dsimp only at hns₁ hsb₁ ⊢
  rw [Heap.size_push] at hns₁ hsb₁ ⊢
  have old : ∀ b o, s2.heap.get? b = some o → h₁.get? b = some o := fun b o e => by
    have hlt := Heap.lt_size e
    exact (hsb₁.2 b (Nat.ne_of_lt (Nat.lt_succ_of_lt hlt))).trans (Heap.get?_push_of_some _ (Heap.get?_push_of_some _ e))
  have hd : h₁.get? s2.heap.objs.size = some { cls := .type "list", data := .seq ([] : List Value).toArray } :=
    (hsb₁.2 _ (Nat.ne_of_lt (Nat.lt_succ_self _))).trans (Heap.get?_push_of_some _ (Heap.get?_push_size _ rfl))
  have I4 := blk_start (tk := s2.toks + ([] : List (Str × Value)).length) B hN hnm I2 f2 ho c1 c3 hns₁ old hd
  have st4 : tn 0 h₁ := T.keep _ _ _ st2 fun b _ o e => old b o e
  obtain ⟨W, ⟨m0, w0⟩, turn⟩ := hW s2.heap.objs.size (I2.hok.fresh (Nat.le_refl _))
  have fr4 : ∀ b ∈ fp, (upd H1 s2.heap.objs.size (.lst [])) b = none := fun b hb => by
    obtain ⟨o, e⟩ := ho b hb
    rw [upd_ne (Nat.ne_of_lt (Heap.lt_size e))]
    exact (f2 b hb).1
  -- what stays true of the iterator's objects
  have stat : ∀ {H' : Hp}, (∀ b ∈ fp, H' b = none) → ∀ b ∈ fp, FpOk (blk X sc cl (s2.heap.objs.size + 1) N' s2 H1 fp pins) [] H' b := fun hn b hb => by
    refine ⟨hn b hb, (I4.ok.exf b hb).1, I4.ok.exfs b hb, .inl hb, (I4.ok.exf b hb).2, fun p hp => ?_⟩
    have hp : p ∈ X.pn ++ pins := by simpa [blk] using hp
    exact (f2 b hb).2.2.2.2.2 p hp
  have loop : ∀ s₃ : Shared, s₃ = { s2 with heap := h₁, toks := s2.toks + ([] : List (Str × Value)).length } →
      codeAny (model X.prog X.w) X.A (.compLoop (.ListComp elt [⟨tg, iter, [], 0⟩] sc pos) 0 (.ref it) (.ref s2.heap.objs.size) (compEnvC sc cl (s2.heap.objs.size + 1) X.env))
        (compPost (model X.prog X.w) X.A X.xe (some (assign (.Name y py) X.env)) (fun _ s' => SP X pins D .next s') (.ref s2.heap.objs.size) (s2.heap.objs.size + 1)) s₃ := by
    rintro s₃ rfl
    refine comp_turn (fun n s' => ∃ i σ' H', Inv (blk X sc cl (s2.heap.objs.size + 1) N' s2 H1 fp pins) [] σ' H' s' ∧ tn i s'.heap ∧ (∀ b ∈ fp, H' b = none) ∧ W i n σ' H') ?_ m0 ⟨0, _, _, I4, st4, fr4, w0⟩
    rintro n s3 ⟨i, σ3, H3, I3, st3, fr3, w3⟩
    rcases turn i n σ3 H3 w3 with ⟨stop, q⟩ | ⟨go, step⟩
    · refine thn (T.done (blk X sc cl (s2.heap.objs.size + 1) N' s2 H1 fp pins) rfl rfl rfl hc i [] s3 σ3 H3 _ I3 (stat fr3) st3 stop) fun r s4 ⟨hr, I5⟩ => ?_
      subst hr
      obtain ⟨m, hn, _⟩ := id I5.loc
      have U : Un (frs X.stack) fp H1 H3 s2.heap s4.heap := I5.base
      have J5 : Inv X pins σ H3 s4 := I2.call' (s' := s4) I5.os U I5.hok I5.bare fun b hb => ⟨(f2 b hb).2.2.2.1, (f2 b hb).2.1, (f2 b hb).2.2.2.2.1, (f2 b hb).2.2.2.2.2⟩
      obtain ⟨g0, g1, _, g3, g4, g5⟩ : FpOk X pins H3 (s2.heap.objs.size + 1) := I2.fpOk (Nat.le_succ _) I5.free
      refine wpAny_assign_Name (store_ok2 J5 hNd hj (.inl hy) (v := .ref s2.heap.objs.size) rfl (fun s5 K5 ⟨a, sb, ha⟩ => ?_) (.inr hy))
      have hne : s2.heap.objs.size + 1 ≠ a := fun z => by
        rcases ha with ha | ha
        · exact g1 (z.trans ha)
        · exact g4 _ _ ha z.symm
      refine ⟨m, hn.sameBut sb hne, fun h' hs' => ⟨_, H3, ?_, q⟩⟩
      exact K5.turned (t' := s5.toks) (fun b o hb e => (hs'.2 b hb).trans e) g0 g1 g3 g4 g5
    · refine thn (T.item (blk X sc cl (s2.heap.objs.size + 1) N' s2 H1 fp pins) rfl rfl rfl hc i [] s3 σ3 H3 _ I3 (stat fr3) st3 go) fun r s4 ⟨u, hr, h4⟩ => ?_
      subst hr
      refine thn h4 fun _ s5 ⟨x, H5, I5, r5, y5, st5, fr5⟩ => ?_
      have I5' := I5.pinned (stat fr5) (T.obj _ _ st5)
      refine wpAny_mono (hg _ _ _ _ _ _ _ s5 σ3 H5 x u _ I5' r5 (step x H5 y5)) (fun _ s6 ⟨σ6, H6, I6, q6⟩ => ?_) fun _ _ z => z.elim
      refine wpAny_mono (he _ _ _ _ _ _ _ s6 σ6 H6 _ I6 q6) (fun y s7 ⟨z, H7, I7, r7, xs, hx7, hz7, m', hm, w7⟩ => ?_) fun _ _ z => z.elim
      refine wpAny_mono (mt_append (X := blk X sc cl (s2.heap.objs.size + 1) N' s2 H1 fp pins) _ s7 σ6 H7 (.ref s2.heap.objs.size) [z] (.ref s2.heap.objs.size) [y] (fun _ H8 => H8 = upd H7 s2.heap.objs.size (.lst (xs ++ [z]))) I7 rfl (.cons r7 .nil) ⟨_, xs, z, rfl, rfl, hx7, hz7, rfl⟩) (fun _ s8 ⟨_, H8, I8, _, e8⟩ => ?_) fun _ _ z => z.elim
      subst e8
      refine ⟨m', hm, i + 1, σ6, _, I8.unpinned, T.keep _ _ _ st5 fun b hb o e => (I8.pin (b, o) (List.mem_append_right _ (List.mem_append_right _ (mem_pinsAt hb e)))).1, fun b hb => ?_, w7⟩
      obtain ⟨o, e, _⟩ := T.obj _ _ st5 b hb
      exact (I8.pin (b, o) (List.mem_append_right _ (List.mem_append_right _ (mem_pinsAt hb e)))).2.1
  exact codeAny_compStart_list (loop _ rfl) (T.self _ 0 _ _ _ st4 (loop _ rfl))
end
end L2
namespace L2
open PySem PySem.Spec PyProof.Rows
def XW (n : Nat) (Pv : Nat → List V → St → Hp → Prop) (d : Addr) (i m : Nat) (σ : St) (H : Hp) : Prop := m = n - i ∧ i ≤ n ∧ ∃ xs, Pv i xs σ H ∧ H d = some (.lst xs)
def XPost (n : Nat) (Pv : Nat → List V → St → Hp → Prop) (d : Addr) (i : Nat) (σ3 : St) (y : V) (H4 : Hp) : Prop := ∃ xs, H4 d = some (.lst xs) ∧ xs.length < sizeLine ∧ ∃ m', m' < n - i ∧ XW n Pv d (i + 1) m' σ3 (upd H4 d (.lst (xs ++ [y])))
def XSkip (n : Nat) (Pv : Nat → List V → St → Hp → Prop) (d : Addr) (i : Nat) (σ3 : St) (H4 : Hp) : Prop := ∃ m', m' < n - i ∧ XW n Pv d (i + 1) m' σ3 H4
theorem xpost {n : Nat} {Pv : Nat → List V → St → Hp → Prop} {d : Addr} {i : Nat} {σ3 : St} {y : V} {H4 : Hp} {xs : List V} (hi : i < n) (hd : H4 d = some (.lst xs)) (hl : xs.length ≤ 1000) (hp : Pv (i + 1) (xs ++ [y]) σ3 (upd H4 d (.lst (xs ++ [y])))) : XPost n Pv d i σ3 y H4 :=
  ⟨xs, hd, small1000 hl, n - (i + 1), by omega, rfl, hi, _, hp, upd_same⟩
theorem xskip {n : Nat} {Pv : Nat → List V → St → Hp → Prop} {d : Addr} {i : Nat} {σ3 : St} {H4 : Hp} {xs : List V} (hi : i < n) (hd : H4 d = some (.lst xs)) (hp : Pv (i + 1) xs σ3 H4) : XSkip n Pv d i σ3 H4 :=
  ⟨n - (i + 1), by omega, rfl, hi, _, hp, hd⟩
theorem compIf_ex {J : It} {g : TG} {tt : TT} {te : TE} {d : Addr} {σ0 : St} {H1 : Hp} {Q : Addr → Hp → Prop} (n : Nat) (Pv : Nat → List V → St → Hp → Prop) (h0 : Pv 0 [] σ0 (upd H1 d (.lst [])))
    (go : ∀ i xs σ H, i < n → Pv i xs σ H → H d = some (.lst xs) → J.go i H ∧ ∀ x H2, J.yld i H x H2 → g x σ H2 fun σ3 H3 => tt σ3 H3 fun b H4 => if b = true then te σ3 H4 fun y H5 => XPost n Pv d i σ3 y H5 else XSkip n Pv d i σ3 H4)
    (stop : ∀ xs σ H, Pv n xs σ H → H d = some (.lst xs) → J.stop n H ∧ Q d H) :
    ∃ W : Nat → Nat → St → Hp → Prop, (∃ m, W 0 m σ0 (upd H1 d (.lst []))) ∧ ∀ i m σ' H', W i m σ' H' →
      (J.stop i H' ∧ Q d H') ∨ (J.go i H' ∧ ∀ x H2, J.yld i H' x H2 → g x σ' H2 fun σ3 H3 => tt σ3 H3 fun b H4 => if b = true then te σ3 H4 fun y H5 => ∃ xs, H5 d = some (.lst xs) ∧ xs.length < sizeLine ∧ ∃ m', m' < m ∧ W (i + 1) m' σ3 (upd H5 d (.lst (xs ++ [y])))
        else ∃ m', m' < m ∧ W (i + 1) m' σ3 H4) := by
  refine ⟨XW n Pv d, ⟨n, by simp, Nat.zero_le _, [], h0, upd_same⟩, ?_⟩
  rintro i m σ H ⟨rfl, hi, xs, p, hd⟩
  by_cases hlt : i < n
  · exact .inr (go i xs σ H hlt p hd)
  · have : i = n := by omega
    subst this
    exact .inl (stop xs σ H p hd)
end L2
namespace K1
open PySem L2 Sq
def spCv (K : PySem.W.Frag) : Sp := fun vs H Q _ => ∃ (a : Addr) (m : Nat) (c dl : Int) (n : Nat) (r u : List Nat), vs = [.ref a, .int (m : Int), .int c, .int dl] ∧ ShAt H a r u ∧ Row n r ∧ Row n u ∧ 1 ≤ n ∧ n ≤ 6 ∧ 1 ≤ m ∧ m ≤ 6 ∧
  ∀ (H' : Hp) (x sh l : Addr) (R U S : List Nat), Same H H' → H' x = some (.tup [.ref sh, .ref l]) → ShAt H' sh (among R S) (among U S) → H' l = some (.lst (nv (S.map fun y => y / m))) → Cov n m r R → Cov n m u U → MetAll (n * m) R U 0 S → Q (.ref x) H'
/-- [x // many for x in xs], xs a list of numbers in the slot j, many in the slot 1 -/
theorem compDiv {K : PySem.W.Frag} {Hc : Hp} {p : Addr} {S : List Nat} {m j : Nat} {pull : List Nat} {Q : VK} {σ : St} (hj : σ[j]? = some (some (.ref p))) (hp : Hc p = some (.lst (nv S))) (hb : bst 1 pull σ = [none, some (.int (m : Int))]) (hm : 1 ≤ m) (hn : S.length ≤ 1000 ∧ m ≤ 6)
    (k : ∀ (H' : Hp) (d : Addr), Same Hc H' → H' d = some (.lst (nv (S.map fun y => y / m))) → Q (.ref d) H') :
    tComp (iList K (tVar j)) 1 pull (gName 0) (tOp (rI CDiv fun i j => .int (i / j)) (tVar 0) (tVar 1)) σ Hc Q := by
  refine ⟨_, hj, p, rfl, ⟨_, SqL.of hp⟩, fun d hd => ?_⟩
  rw [hb]
  refine comp_by (Q := fun d H' => Q (.ref d) H') S.length (nv (S.map fun y => y / m)) (by rw [nv_len]; simp) (fun i σ H3 => ∃ o, σ = [o, some (.int (m : Int))] ∧ Same Hc H3) ⟨none, rfl, same_upd (Same.refl _) hd⟩ ?_ ?_
  · rintro i σ H3 hi ⟨o, rfl, s3⟩ hd3
    have hp3 := SqL.of (K := K) (s3 _ _ hp)
    have hg := nv_get (List.getElem?_eq_getElem hi)
    refine ⟨⟨_, _, hp3, hg⟩, fun y H4 ⟨e, hy⟩ => ?_⟩
    subst e
    have hy := hy _ hp3
    rw [hg] at hy
    cases hy
    refine ⟨_, rfl, _, rfl, _, _, rfl, rfl, ⟨by omega, by omega⟩, cpost hi hn.1 hd3 ?_ ⟨_, rfl, same_upd s3 hd⟩⟩
    have ev : ((S[i] : Nat) : Int) / (m : Int) = ((S[i] / m : Nat) : Int) := by simp
    show _ = some (V.int (((S[i] : Nat) : Int) / (m : Int)))
    rw [ev]
    exact nv_get (by simp [hi])
  · rintro σ H3 ⟨o, rfl, s3⟩ hd3
    exact ⟨⟨_, SqL.of (s3 _ _ hp), by rw [nv_len]; exact Nat.le_refl _⟩, k H3 d s3 hd3⟩
section
variable {P : Program} {w : World} {K : PySem.W.Frag} {mg : Str → Option Value} {base : Heap}
abbrev n_cv : List Str := ["_law_base", "_law_many", "_law_number", "_law_deal", "_law_right", "_law_up", "_law_mine", "_law_line", "_law_under", "_law_k", "_law_names", "_law_left", "_law_name", "_law_met_here", "_law_sheet_here"]
theorem sc_cv : FnScope n_cv ["_law_base", "_law_many", "_law_number", "_law_deal"] (defScope sLCover) := ⟨rfl, rfl, rfl, by decide +kernel, rfl, by decide +kernel, by decide +kernel⟩
theorem nd_cv : (["_law_square", "_law_many"] : List Str).Nodup := by decide +kernel
set_option maxHeartbeats 8000000 in
theorem ok_cv {f fp fm fa : Addr} {fd dp dm da : FuncData} (T : Bi mg) (F : Fn K mg "_law_cover" sLCover ["_law_base", "_law_many", "_law_number", "_law_deal"] f fd) (FP : Fn K mg "_law_picked" sPicked ["_law_things", "_law_number"] fp dp) (GP : FnOk P w K mg base CX0 1 fp dp ["_law_things", "_law_number"] (spPicked K))
    (FM : Fn K mg "_law_met" sMet ["_law_right", "_law_up", "_law_first"] fm dm) (GM : FnOk P w K mg base CX0 1 fm dm ["_law_right", "_law_up", "_law_first"] (spMet K))
    (FA : Fn K mg "_law_among" sAmong ["_law_right", "_law_up", "_law_met_here"] fa da) (GA : FnOk P w K mg base CX0 1 fa da ["_law_right", "_law_up", "_law_met_here"] (spAmong K)) : FnOk P w K mg base CX0 2 f fd ["_law_base", "_law_many", "_law_number", "_law_deal"] (spCv K) := by
  refine F.F.ok sc_cv (fun vs H Q E h => ?_) (fun cdv A outer s H vs Q E hr h => ?_)
  · obtain ⟨a, m, c, dl, n, r, u, rfl, _⟩ := h; rfl
  · obtain ⟨a, m, c, dl, n, r, u, rfl, ⟨p, q, h1, h2, h3⟩, rr, ru, hn1, hn, hm1, hm, k⟩ := h
    have hr1 : Room 1 _ := hr.mono (by decide)
    refine ⟨_, (pss_cons (ps_set (i := 4) sc_cv.nd rfl (Or.inl rfl) (pe_lst pa_nil))
      (pss_cons (ps_set (i := 5) sc_cv.nd rfl (Or.inl rfl) (pe_lst pa_nil))
      (pss_cons (ps_set (i := 6) sc_cv.nd rfl (Or.inl rfl) (pv 2))
      (pss_cons (ps_set (i := 2) sc_cv.nd rfl (Or.inl rfl) (pe_op op_add pe_int (pe_op op_mod (pv 2) pe_int)))
      (pss_cons (ps_for PassesOwn.never rfl (pi_tup (pe_tup (pa_cons (pe_tup (pa_cons (pv 4) (pa_cons (pe_ix ix_tup (pv 0) pe_int (fun _ _ => rfl)) pa_nil))) (pa_cons (pe_tup (pa_cons (pv 5) (pa_cons (pe_ix ix_tup (pv 0) pe_int (fun _ _ => rfl)) pa_nil))) pa_nil)))) (pg_tup rfl (pgs_cons (pg_name (i := 7) sc_cv.nd rfl (Or.inl rfl)) (pgs_cons (pg_name (i := 8) sc_cv.nd rfl (Or.inl rfl)) pgs_nil))) (pss_one (ps_for PassesOwn.never rfl (pi_range1 rfl T.range (pa_cons (pe_callB call_len_seq rfl T.len PySem.boot_len (pa_cons (pe_ix ix_tup (pv 0) pe_int (fun _ _ => rfl)) pa_nil)) pa_nil)) (pg_name (i := 9) sc_cv.nd rfl (Or.inl rfl)) (pss_cons (ps_set (i := 2) sc_cv.nd rfl (Or.inl rfl) (pe_op op_mod (pe_op op_mul (pv 2) pe_int) pe_int))
      (pss_cons (ps_set (i := 10) sc_cv.nd rfl (Or.inl rfl) (pe_call GP hr1 rfl FP.m FP.F.kp FP.b .nil pass0 (pa_cons (pe_callTy (call_list_rng rfl) rfl T.list boot_list (pa_cons (pe_callTy call_range1 rfl T.range PyProof.Rows.boot_range (pa_cons (pv 1) pa_nil)) pa_nil)) (pa_cons (pv 2) pa_nil))))
      (pss_cons (ps_if (pt_cmpR op_ge (pv 3) (pe_op op_pow pe_int pe_int) (nomark _)) (pss_cons (ps_set (i := 11) sc_cv.nd rfl (Or.inl rfl) (pe_callB (call_sorted rfl) rfl T.sorted boot_sorted (pa_cons (pv 10) pa_nil)))
      (pss_cons (ps_set (i := 10) sc_cv.nd rfl (Or.inl rfl) (pe_lst pa_nil))
      (pss_one (ps_while PassesOwn.never (pt_cmpR op_gt (pe_callB call_len_seq rfl T.len PySem.boot_len (pa_cons (pv 11) pa_nil)) pe_int (nomark _)) (pss_cons (ps_expr (pe_bm PySem.F.plainAttrs_list PySem.F.slot_list_append PySem.F.type_list_append mt_append (pv 10) (pa_cons (pe_bm PySem.F.plainAttrs_list PySem.F.slot_list_pop PySem.F.type_list_pop mt_popAt (pv 11) (pa_cons (pe_op op_mod (pv 6) (pe_callB call_len_seq rfl T.len PySem.boot_len (pa_cons (pv 11) pa_nil))) pa_nil)) pa_nil)))
      (pss_one (ps_set (i := 6) sc_cv.nd rfl (Or.inl rfl) (pe_op op_fdiv (pv 6) (pe_op op_add (pe_callB call_len_seq rfl T.len PySem.boot_len (pa_cons (pv 11) pa_nil)) pe_int))))))))) pss_nil)
      (pss_one (ps_for PassesOwn.never rfl (pi_list (pv 10)) (pg_name (i := 12) sc_cv.nd rfl (Or.inl rfl)) (pss_one (ps_expr (pe_bm PySem.F.plainAttrs_list PySem.F.slot_list_append PySem.F.type_list_append mt_append (pv 7) (pa_cons (pe_op op_add (pe_op op_mul (pe_ix ix_tup (pv 8) (pv 9) (fun _ _ => rfl)) (pv 1)) (pv 12)) pa_nil))))))))))))
      (pss_cons (ps_set (i := 13) sc_cv.nd rfl (Or.inl rfl) (pe_call GP hr1 rfl FP.m FP.F.kp FP.b .nil pass0 (pa_cons (pe_call GM hr1 rfl FM.m FM.F.kp FM.b .nil pass0 (pa_cons (pv 4) (pa_cons (pv 5) (pa_cons pe_int pa_nil)))) (pa_cons (pe_ix ix_list (pe_lst (pa_cons (pe_op op_mod (pe_op op_mul (pv 2) pe_int) pe_int) (pa_cons (pv 3) pa_nil))) (pe_callTy call_int1 rfl T.int boot_int (pa_cons (pe_cmpR op_ge (pv 3) (pe_op op_pow pe_int pe_int) (nomark _)) pa_nil)) (fun _ _ => rfl)) pa_nil))))
      (pss_cons (ps_set (i := 14) sc_cv.nd rfl (Or.inl rfl) (pe_call GA hr1 rfl FA.m FA.F.kp FA.b .nil pass0 (pa_cons (pv 4) (pa_cons (pv 5) (pa_cons (pv 13) pa_nil)))))
      (pss_one (ps_ret (pe_tup (pa_cons (pv 14) (pa_cons (pe_comp (N := n_cv) (names := (defScope sLCover).names) (N' := ["_law_square", "_law_many"]) (k := 1) (pull := [1]) (te := (tOp (rI CDiv fun i j => .int (i / j)) (tVar 0) (tVar 1))) rfl ⟨by rfl, by decide +kernel, by decide +kernel, by rfl, by decide +kernel, by decide +kernel⟩ rfl rfl (pi_list (pv 13)) (fun _ _ _ _ _ _ => pg_name (i := 0) nd_cv rfl (Or.inl rfl)) (fun _ _ _ _ _ _ => (pe_op op_fdiv (pv 0) (pv 1)))) pa_nil)))))))))))), ?_⟩
    have hN : n * m ≤ 36 := Nat.mul_le_mul hn hm
    have hN1 : 1 ≤ n * m := Nat.mul_pos hn1 hm1
    have two : 2 ≤ sizeLine := by decide
    refine ⟨Nat.zero_le _, fun lr hlr => ⟨Nat.zero_le _, fun lu hlu => ?_⟩⟩
    have nru : lr ≠ lu := fun e => by rw [← e, upd_same] at hlu; cases hlu
    have hlu0 : H lu = none := by rwa [upd_ne nru.symm] at hlu
    have s0 := same_upd (o := .lst []) (same_upd (o := .lst []) (Same.refl H) hlr) hlu0
    have e0r : (upd (upd H lr (.lst [])) lu (.lst [])) lr = some (.lst (nv [])) := by rw [upd_ne nru, upd_same]; rfl
    have e0u : (upd (upd H lr (.lst [])) lu (.lst [])) lu = some (.lst (nv [])) := by rw [upd_same]; rfl
    revert s0 e0r e0u
    generalize (upd (upd H lr (.lst [])) lu (.lst [])) = H0
    intro s0 e0r e0u
    refine ⟨_, rfl, ?_⟩
    refine ⟨_, rfl, _, _, rfl, rfl, (by show (0 : Int) < 2147483646; decide), _, _, rfl, rfl, ?_⟩
    refine ⟨_, rfl, _, rfl, a, _, 0, _, rfl, rfl, SqT.of (s0 _ _ h1), atI_nat (j := 0) rfl, two, fun t1 ht1 => ?_⟩
    have u1 := same_upd (o := .tup [.ref lr, .ref p]) (Same.refl H0) ht1
    have g1 : (upd H0 t1 (.tup [.ref lr, .ref p])) t1 = some (.tup [.ref lr, .ref p]) := upd_same
    revert u1 g1
    generalize (upd H0 t1 (.tup [.ref lr, .ref p])) = H1
    intro u1 g1
    refine ⟨_, rfl, _, rfl, a, _, 1, _, rfl, rfl, SqT.of (u1 _ _ (s0 _ _ h1)), atI_nat (j := 1) rfl, two, fun t2 ht2 => ?_⟩
    have u2 := same_upd (o := .tup [.ref lu, .ref q]) (Same.refl H1) ht2
    have g2 : (upd H1 t2 (.tup [.ref lu, .ref q])) t2 = some (.tup [.ref lu, .ref q]) := upd_same
    revert u2 g2
    generalize (upd H1 t2 (.tup [.ref lu, .ref q])) = H2
    intro u2 g2
    refine ⟨two, fun t3 ht3 => ⟨t3, rfl, ⟨_, SqT.of upd_same⟩, ?_⟩⟩
    have u3 := same_upd (o := .tup [.ref t1, .ref t2]) (Same.refl H2) ht3
    have g3 : (upd H2 t3 (.tup [.ref t1, .ref t2])) t3 = some (.tup [.ref t1, .ref t2]) := upd_same
    revert u3 g3
    generalize (upd H2 t3 (.tup [.ref t1, .ref t2])) = H3
    intro u3 g3
    replace g1 := u3 _ _ (u2 _ _ g1)
    replace g2 := u3 _ _ g2
    have s3 := s0.trans (u1.trans (u2.trans u3))
    have e3r := u3 _ _ (u2 _ _ (u1 _ _ e0r))
    have e3u := u3 _ _ (u2 _ _ (u1 _ _ e0u))
    have k1 : ∀ c xs, H3 c = some (.tup xs) → c ≠ lr ∧ c ≠ lu := fun c xs hc => ⟨fun e => (by rw [e, e3r] at hc; cases hc), fun e => (by rw [e, e3u] at hc; cases hc)⟩
    refine for_tup (K := K) (a := t3) (xs := [.ref t1, .ref t2]) (fun i σ H4 => ∃ (num mi : Int) (o5 o6 o7 o8 o9 o10 : Option V) (X0 X1 : List Nat), σ = [some (.ref a), some (.int (m : Int)), some (.int num), some (.int dl), some (.ref lr), some (.ref lu), some (.int mi), o5, o6, o7, o8, o9, o10, none, none] ∧
      (∀ c o, c ≠ lr → c ≠ lu → H3 c = some o → H4 c = some o) ∧ H4 lr = some (.lst (nv X0)) ∧ H4 lu = some (.lst (nv X1)) ∧ (i = 0 → X0 = []) ∧ (0 < i → Dealt m r X0 n) ∧ (i ≤ 1 → X1 = []) ∧ (1 < i → Dealt m u X1 n)) ?_ ?_ ?_ ?_
    · exact ⟨_, _, _, _, _, _, _, _, [], [], rfl, fun c o _ _ h => h, e3r, e3u, fun _ => rfl, fun z => absurd z (by omega), fun _ => rfl, fun z => absurd z (by omega)⟩
    · rintro i σ H4 hi ⟨num, mi, o5, o6, o7, o8, o9, o10, X0, X1, _, kp, _⟩
      exact SqT.of (kp _ _ (k1 _ _ g3).1 (k1 _ _ g3).2 g3)
    · rintro i x σ H4 hi ⟨num, mi, o5, o6, o7, o8, o9, o10, X0, X1, rfl, kp, h4r, h4u, d1, d2, d3, d4⟩
      obtain ⟨tt, ln, pp, z, rfl, ht, hz, rz, hln, hlnl, hcase⟩ : ∃ tt ln pp z, x = V.ref tt ∧ H3 tt = some (.tup [.ref ln, .ref pp]) ∧ H3 pp = some (.tup (nv z)) ∧ Row n z ∧ H4 ln = some (.lst (nv [])) ∧ (ln = lr ∨ ln = lu) ∧ ((i = 0 ∧ ln = lr ∧ z = r) ∨ (i = 1 ∧ ln = lu ∧ z = u)) := by
        match i, hi with
        | 0, hi =>
          cases hi
          have := d1 rfl
          subst this
          exact ⟨t1, lr, p, r, rfl, g1, s3 _ _ h2, rr, h4r, .inl rfl, .inl ⟨rfl, rfl, rfl⟩⟩
        | 1, hi =>
          cases hi
          have := d3 (by omega)
          subst this
          exact ⟨t2, lu, q, u, rfl, g2, s3 _ _ h3, ru, h4u, .inr rfl, .inr ⟨rfl, rfl, rfl⟩⟩
        | i + 2, hi => cases hi
      have ht4 := kp _ _ (k1 _ _ ht).1 (k1 _ _ ht).2 ht
      refine ⟨tt, _, rfl, SqT.of ht4, rfl, _, _, rfl, _, _, rfl, rfl, ?_⟩
      have h1H3 := s3 _ _ h1
      have h2H3 := s3 _ _ h2
      have h14 := kp _ _ (k1 _ _ h1H3).1 (k1 _ _ h1H3).2 h1H3
      have h24 := kp _ _ (k1 _ _ h2H3).1 (k1 _ _ h2H3).2 h2H3
      refine ⟨_, rfl, a, _, 0, _, rfl, rfl, SqT.of h14, atI_nat (j := 0) rfl, p, _, rfl, .inr (SqT.of h24), (n : Int), by rw [nv_len, rr.len], by omega, by omega, ?_⟩
      rw [Int.toNat_natCast]
      have hz4 := kp _ _ (k1 _ _ hz).1 (k1 _ _ hz).2 hz
      have tl : ∀ c xs, H4 c = some (.tup xs) → c ≠ ln := fun c xs hc e => by rw [e, hln] at hc; cases hc
      have oth : ∀ (H5 : Hp), (∀ c o, c ≠ ln → H4 c = some o → H5 c = some o) → ∀ (L : List Nat), H5 ln = some (.lst (nv L)) → Dealt m z L n → ∃ (X0 X1 : List Nat), (∀ c o, c ≠ lr → c ≠ lu → H3 c = some o → H5 c = some o) ∧ H5 lr = some (.lst (nv X0)) ∧ H5 lu = some (.lst (nv X1)) ∧ (i + 1 = 0 → X0 = []) ∧ (0 < i + 1 → Dealt m r X0 n) ∧ (i + 1 ≤ 1 → X1 = []) ∧ (1 < i + 1 → Dealt m u X1 n) := by
        intro H5 k5 L hL dL
        have kk : ∀ c o, c ≠ lr → c ≠ lu → H3 c = some o → H5 c = some o := fun c o c1 c2 hc => k5 c o (fun e => by rcases hlnl with z | z <;> (rw [z] at e; first | exact c1 e | exact c2 e)) (kp c o c1 c2 hc)
        rcases hcase with ⟨rfl, rfl, rfl⟩ | ⟨rfl, rfl, rfl⟩
        · refine ⟨L, X1, kk, hL, k5 _ _ nru.symm h4u, fun z => absurd z (by omega), fun _ => dL, fun _ => d3 (by omega), fun z => absurd z (by omega)⟩
        · exact ⟨X0, L, kk, k5 _ _ nru h4r, hL, fun z => absurd z (by omega), fun _ => d2 (by omega), fun z => absurd z (by omega), fun _ => dL⟩
      refine for_range (n := n) (fun kk σ H5 => ∃ (num mi : Int) (o7 o8 o9 o10 : Option V) (L : List Nat), σ = [some (.ref a), some (.int (m : Int)), some (.int num), some (.int dl), some (.ref lr), some (.ref lu), some (.int mi), some (.ref ln), some (.ref pp), o7, o8, o9, o10, none, none] ∧ (∀ c o, c ≠ ln → H4 c = some o → H5 c = some o) ∧ H5 ln = some (.lst (nv L)) ∧ Dealt m z L kk) ⟨_, _, _, _, _, _, [], rfl, fun c o _ h => h, hln, Dealt.start m z⟩ ?_ ?_
      · rintro kk σ H5 hkk ⟨num, mi, o7, o8, o9, o10, L, rfl, k5, h5, dL⟩
        rw [show (0 : Int) + (kk : Int) = (kk : Int) from by omega]
        refine ⟨_, rfl, _, _, rfl, rfl, .inr ⟨by decide, by decide⟩, _, _, rfl, rfl, (by show (0 : Int) < 2147483647; decide), ?_⟩
        refine ⟨_, rfl, (m : Int), rfl, fun r0 hr0 => ⟨r0, m, rfl, upd_same, by omega, fun lf hlf => ?_⟩⟩
        have n1 : lf ≠ r0 := fun e => by rw [e, upd_same] at hlf; cases hlf
        have f1 : H5 lf = none := by rwa [upd_ne n1] at hlf
        have s5 := same_upd (o := .lst (nv (List.range m))) (same_upd (o := .rng 0 (m : Int)) (Same.refl H5) hr0) f1
        have e5 : (upd (upd H5 r0 (.rng 0 (m : Int))) lf (.lst (nv (List.range m)))) lf = some (.lst (nv (List.range m))) := upd_same
        revert s5 e5
        generalize (upd (upd H5 r0 (.rng 0 (m : Int))) lf (.lst (nv (List.range m)))) = H6
        intro s5 e5
        refine ⟨_, rfl, lf, List.range m, _, rfl, SqL.of e5, by rw [List.length_range]; omega, fun H7 l7 t s7 f7 h7 pt => ?_⟩
        have s57 := s5.trans s7
        have htl : t.length = m := by rw [pt.length_eq, List.length_range]
        have hLl := dL.len
        have hkm : kk * m ≤ 36 := Nat.le_trans (Nat.mul_le_mul_right m (Nat.le_of_lt hkk)) hN
        have nl7 : ln ≠ l7 := fun e => by rw [e] at h5; have := s5 _ _ h5; rw [f7] at this; cases this
        refine ⟨_, rfl, _, _, rfl, rfl, ⟨by decide, by decide, by decide⟩, _, _, rfl, rfl, _, rfl, ?_⟩
        refine ite2 (fun _ => ?_) (fun _ => ?_)
        · refine ⟨_, rfl, l7, t, rfl, .inl (SqL.of h7), by omega, fun lf S hlf pS _ => ?_⟩
          refine ⟨Nat.zero_le _, fun l9 hl9 => ?_⟩
          have nlnl : l9 ≠ lf := fun e => by rw [e, upd_same] at hl9; cases hl9
          have g9 : H7 l9 = none := by rwa [upd_ne nlnl] at hl9
          have pS2 : S.Perm (List.range m) := pS.trans pt
          have n9 : ln ≠ l9 := fun e => by rw [← e, s57 _ _ h5] at g9; cases g9
          refine while_by (fun σ H9 => ∃ (mi9 : Int) (line left : List Nat), σ = [some (.ref a), some (.int (m : Int)), some (.int (num * 48271 % 2147483647)), some (.int dl), some (.ref lr), some (.ref lu), some (.int mi9), some (.ref ln), some (.ref pp), some (.int (kk : Int)), some (.ref l9), some (.ref lf), o10, none, none] ∧ Same H7 H9 ∧ H9 lf = some (.lst (nv left)) ∧ H9 l9 = some (.lst (nv line)) ∧ (line ++ left).Perm (List.range m))
            (fun _ H9 => match H9 lf with | some (.lst xs) => xs.length | _ => 0) ⟨_, [], S, rfl, same_upd (same_upd (Same.refl H7) hlf) g9, by rw [upd_ne nlnl.symm, upd_same], upd_same, pS2⟩ ?_ ?_
          · rintro σ H9 ⟨mi9, line, left, rfl, s9, hlf2, hln2, hP⟩
            have hlen : line.length + left.length = m := by have := hP.length_eq; rwa [List.length_append, List.length_range] at this
            refine ⟨_, rfl, lf, _, rfl, .inl (SqL.of hlf2), _, _, rfl, rfl, _, rfl, ?_⟩
            rw [nv_len]
            refine ite2 (fun hgt => ?_) (fun hle => ?_)
            · have hgt : (0 : Int) < (left.length : Int) := of_decide_eq_true hgt
              have hpos : 0 < left.length := by omega
              refine ⟨_, rfl, .inl ⟨rfl, _, SqL.of hln2⟩, _, rfl, .inl ⟨rfl, _, SqL.of hlf2⟩, _, rfl, _, rfl, lf, _, rfl, .inl (SqL.of hlf2), _, _, rfl, rfl, ?_, ?_⟩
              · rw [nv_len]; omega
              refine popDraw hlf2 hpos (by omega) fun kx y hy => ?_
              have e3 : (upd H9 lf (.lst (nv (left.eraseIdx kx)))) l9 = some (.lst (nv line)) := by rw [upd_ne nlnl]; exact hln2
              refine ⟨l9, _, _, rfl, rfl, e3, ?_, ?_⟩
              · rw [nv_len]; exact small1000 (by omega)
              have hk := (List.getElem?_eq_some_iff.mp hy).1
              have e4 : (upd (upd H9 lf (.lst (nv (left.eraseIdx kx)))) l9 (.lst (nv line ++ [V.int (y : Int)]))) lf = some (.lst (nv (left.eraseIdx kx))) := by rw [upd_ne nlnl.symm, upd_same]
              refine ⟨_, rfl, _, rfl, lf, _, rfl, .inl (SqL.of e4), _, _, rfl, rfl, _, _, rfl, rfl, ⟨?_, ?_⟩, ?_⟩
              · rw [nv_len]; omega
              · rw [nv_len, List.length_eraseIdx]; split <;> omega
              refine ⟨⟨_, line ++ [y], left.eraseIdx kx, rfl, same_upd (same_upd s9 hlf) g9, e4, by rw [upd_same, nv_snoc], pick_perm hP hy⟩, ?_⟩
              rw [e4, hlf2]
              show (nv (left.eraseIdx kx)).length < (nv left).length
              rw [nv_len, nv_len, List.length_eraseIdx, if_pos hk]
              omega
            · have hle : ¬ (0 : Int) < (left.length : Int) := fun z => hle (decide_eq_true z)
              have hl0 : left = [] := List.length_eq_zero_iff.mp (by omega)
              subst hl0
              rw [List.append_nil] at hP
              have s57 := s57.trans s9
              have htl : line.length = m := by rw [hP.length_eq, List.length_range]
              refine ⟨_, rfl, l9, rfl, ⟨_, SqL.of hln2⟩, for_list (K := K) (a := l9) (xs := nv line) (fun j σ H8 => ∃ (o8 : Option V), σ = [some (.ref a), some (.int (m : Int)), some (.int (num * 48271 % 2147483647)), some (.int dl), some (.ref lr), some (.ref lu), some (.int mi9), some (.ref ln), some (.ref pp), some (.int (kk : Int)), some (.ref l9), some (.ref lf), o8, none, none] ∧ (∀ c o, c ≠ ln → H9 c = some o → H8 c = some o) ∧ H8 ln = some (.lst (nv (L ++ (line.take j).map fun i => nx z kk * m + i)))) ⟨_, rfl, fun c o _ h => h, by simpa using s57 _ _ h5⟩ (fun j σ H8 _ ⟨_, _, k8, _⟩ => SqL.of (k8 _ _ n9.symm hln2)) ?_ ?_⟩
              · rintro j y σ H8 hy ⟨o8, rfl, k8, h8⟩
                obtain ⟨y, ey, rfl⟩ := nv_get' hy
                have hjl : j < line.length := (List.getElem?_eq_some_iff.mp ey).1
                have hzz : H8 pp = some (.tup (nv z)) := k8 _ _ (tl _ _ hz4) (s57 _ _ (k5 _ _ (tl _ _ hz4) hz4))
                have hzk := rz.nlt hkk
                refine ⟨_, rfl, .inl ⟨rfl, _, SqL.of h8⟩, _, rfl, _, rfl, pp, _, _, _, rfl, rfl, SqT.of hzz, atI_nat (nv_get (rz.get hkk)), _, rfl, _, _, rfl, rfl, .inl ⟨by omega, by omega⟩, _, rfl, _, _, rfl, rfl, ln, _, _, rfl, rfl, h8, ?_, ?_⟩
                · rw [nv_len, List.length_append, List.length_map, List.length_take]; exact small1000 (by omega)
                refine ⟨_, rfl, fun c o hc h => by rw [upd_ne hc]; exact k8 c o hc h, ?_⟩
                have ev : (((nx z kk : Nat) : Int) * (m : Int) + (y : Int)) = ((nx z kk * m + y : Nat) : Int) := by simp
                rw [upd_same, List.take_add_one, ey]
                show some (HO.lst (nv (L ++ _) ++ [V.int (((nx z kk : Nat) : Int) * (m : Int) + (y : Int))])) = _
                rw [ev, nv_snoc]
                simp
              · rintro σ H8 ⟨o8, rfl, k8, h8⟩
                rw [nv_len, List.take_length] at h8
                refine ⟨_, _, _, _, _, _, _, rfl, fun c o hc h => k8 c o hc (s57 _ _ (k5 c o hc h)), h8, dL.step hm1 rz hkk hP⟩
          · rintro σ H Q Q' h ⟨v, e1, p, ys, e3, sq, i, j, e4, e5, k, e6, q⟩
            exact ⟨v, e1, p, ys, e3, sq, i, j, e4, e5, k, e6, h _ _ q⟩
        · skip
          refine ⟨_, rfl, l7, rfl, ⟨_, SqL.of h7⟩, for_list (K := K) (a := l7) (xs := nv t) (fun j σ H8 => ∃ (o8 : Option V), σ = [some (.ref a), some (.int (m : Int)), some (.int (num * 48271 % 2147483647)), some (.int dl), some (.ref lr), some (.ref lu), some (.int mi), some (.ref ln), some (.ref pp), some (.int (kk : Int)), some (.ref l7), o9, o8, none, none] ∧ (∀ c o, c ≠ ln → H7 c = some o → H8 c = some o) ∧ H8 ln = some (.lst (nv (L ++ (t.take j).map fun i => nx z kk * m + i)))) ⟨_, rfl, fun c o _ h => h, by simpa using s57 _ _ h5⟩ (fun j σ H8 _ ⟨_, _, k8, _⟩ => SqL.of (k8 _ _ nl7.symm h7)) ?_ ?_⟩
          · rintro j y σ H8 hy ⟨o8, rfl, k8, h8⟩
            obtain ⟨y, ey, rfl⟩ := nv_get' hy
            have hjl : j < t.length := (List.getElem?_eq_some_iff.mp ey).1
            have hzz : H8 pp = some (.tup (nv z)) := k8 _ _ (tl _ _ hz4) (s57 _ _ (k5 _ _ (tl _ _ hz4) hz4))
            have hzk := rz.nlt hkk
            refine ⟨_, rfl, .inl ⟨rfl, _, SqL.of h8⟩, _, rfl, _, rfl, pp, _, _, _, rfl, rfl, SqT.of hzz, atI_nat (nv_get (rz.get hkk)), _, rfl, _, _, rfl, rfl, .inl ⟨by omega, by omega⟩, _, rfl, _, _, rfl, rfl, ln, _, _, rfl, rfl, h8, ?_, ?_⟩
            · rw [nv_len, List.length_append, List.length_map, List.length_take]; exact small1000 (by omega)
            refine ⟨_, rfl, fun c o hc h => by rw [upd_ne hc]; exact k8 c o hc h, ?_⟩
            have ev : (((nx z kk : Nat) : Int) * (m : Int) + (y : Int)) = ((nx z kk * m + y : Nat) : Int) := by simp
            rw [upd_same, List.take_add_one, ey]
            show some (HO.lst (nv (L ++ _) ++ [V.int (((nx z kk : Nat) : Int) * (m : Int) + (y : Int))])) = _
            rw [ev, nv_snoc]
            simp
          · rintro σ H8 ⟨o8, rfl, k8, h8⟩
            rw [nv_len, List.take_length] at h8
            refine ⟨_, _, _, _, _, _, _, rfl, fun c o hc h => k8 c o hc (s57 _ _ (k5 c o hc h)), h8, dL.step hm1 rz hkk pt⟩
      · rintro σ H5 ⟨num, mi, o7, o8, o9, o10, L, rfl, k5, h5, dL⟩
        obtain ⟨X0', X1', w⟩ := oth H5 k5 L h5 dL
        exact ⟨_, _, _, _, _, _, _, _, X0', X1', rfl, w⟩
    · rintro σ H4 ⟨num, mi, o5, o6, o7, o8, o9, o10, X0, X1, rfl, kp, h4r, h4u, _, d2, _, d4⟩
      have cR := (d2 (by show 0 < 2; omega)).cov rr
      have cU := (d4 (by show 1 < 2; omega)).cov ru
      have s4 : Same H H4 := fun c o hc => kp c o (fun e => by rw [e, hlr] at hc; cases hc) (fun e => by rw [e, hlu0] at hc; cases hc) (s3 _ _ hc)
      refine ⟨_, rfl, _, rfl, lr, lu, n * m, X0, X1, 0, rfl, .inl (SqL.of h4r), .inl (SqL.of h4u), cR.row, cU.row, hN1, hN, fun H5 l5 M s5 _ h5 hM => ?_⟩
      have hMl : M.length ≤ n * m := by
        have := sub_len M (List.range (n * m)) hM.nd fun x hx => List.mem_range.mpr (hM.lt x hx)
        simpa using this
      refine ⟨_, rfl, _, _, rfl, rfl, .inr ⟨by decide, by decide⟩, _, _, rfl, rfl, (by show (0 : Int) < 2147483647; decide), _, rfl, two, fun t4 ht4 => ?_⟩
      have u4 := same_upd (o := .lst [.int (num * 69621 % 2147483647), .int dl]) (Same.refl H5) ht4
      have g4 : (upd H5 t4 (.lst [.int (num * 69621 % 2147483647), .int dl])) t4 = some (.lst [.int (num * 69621 % 2147483647), .int dl]) := upd_same
      revert u4 g4
      generalize (upd H5 t4 (.lst [.int (num * 69621 % 2147483647), .int dl])) = H5'
      intro u4 g4
      refine ⟨_, rfl, _, _, rfl, rfl, ⟨by decide, by decide, by decide⟩, _, _, rfl, rfl, .inr ⟨_, rfl, ?_⟩⟩
      obtain ⟨cc, hcc⟩ : ∃ cc : Int, atI [V.int (num * 69621 % 2147483647), V.int dl] (if decide ((10 : Int) ^ (12 : Int).toNat ≤ dl) = true then 1 else 0) = some (.int cc) := by
        by_cases e : (10 : Int) ^ (12 : Int).toNat ≤ dl
        · rw [decide_eq_true e]; exact ⟨_, atI_nat (j := 1) rfl⟩
        · rw [decide_eq_false e]; exact ⟨_, atI_nat (j := 0) rfl⟩
      refine ⟨t4, _, _, _, rfl, rfl, SqL.of g4, hcc, ?_⟩
      have h5 := u4 _ _ h5
      have s5 := s5.trans u4
      refine ⟨l5, M, _, rfl, SqL.of h5, by omega, fun H6 l6 S s6 _ h6 pS => ?_⟩
      have hS := hM.perm pS
      have hSl : S.length ≤ n * m := by rw [pS.length_eq]; exact hMl
      have s56 := s5.trans s6
      refine ⟨_, rfl, _, rfl, _, rfl, lr, lu, l6, n * m, X0, X1, S, rfl, .inl (SqL.of (s56 _ _ h4r)), .inl (SqL.of (s56 _ _ h4u)), SqL.of h6, cR.row, cU.row, hN, hS.nd, fun x hx => ⟨hS.lt x hx, hS.shut x hx⟩, fun H7 sh s7 hsh => ?_⟩
      refine ⟨_, rfl, ?_⟩
      dsimp only [tCons]
      refine compDiv rfl (s7 _ _ h6) rfl hm1 (by omega) fun H8 d s8 hd => ?_
      have s48 := s56.trans (s7.trans s8)
      refine ⟨two, fun x hx => ?_⟩
      have sx := same_upd (o := .tup [.ref sh, .ref d]) (Same.refl H8) hx
      exact k _ x sh d X0 X1 S (s4.trans (s48.trans sx)) upd_same (hsh.same (s8.trans sx)) (sx _ _ hd) cR cU hS
end
end K1
namespace K1
open PySem L2 Sq
def spIsSheet : Sp := fun vs H Q _ => ∃ (a : Addr) (m : Nat) (r u : List Nat), vs = [.ref a, .int (m : Int)] ∧ ShAt H a r u ∧ Sheet m r u ∧ ∀ H' : Hp, Same H H' → Q (.bl true) H'
section
variable {P : Program} {w : World} {K : PySem.W.Frag} {mg : Str → Option Value} {base : Heap}
end
end K1
namespace K1
open PySem L2 Sq
theorem nd_depth : ∀ xs : List Nat, PyData.depthAll (nd xs) = 0
  | [] => rfl
  | x :: xs => by show max 0 (PyData.depthAll (nd xs)) = 0; rw [nd_depth xs]; rfl
theorem unitsD {A : Around} {k : Nat} (hr : Room k A) {d e : PyData} (h : d.depth ≤ 64) : A.units + min d.depth e.depth < cLine :=
  Nat.lt_of_le_of_lt (Nat.add_le_add_left (Nat.le_trans (Nat.min_le_left _ _) h) _) hr.units
end K1
namespace K1
open PySem L2 Sq
section
variable {P : Program} {w : World} {K : PySem.W.Frag} {mg : Str → Option Value} {base : Heap}
theorem scIsSheet : FnScope ["_law_found", "_law_many", "_law_line"] ["_law_found", "_law_many"] (defScope sIsSheet) := ⟨rfl, rfl, rfl, by decide +kernel, rfl, by decide +kernel, by decide +kernel⟩
theorem ndS1 : (["_law_square"] : List Str).Nodup := by decide +kernel
theorem ok_isSheet {f fw fm : Addr} {fd fdw fdm : FuncData} (T : Bi mg) (F : Fn K mg "_law_is_sheet" sIsSheet ["_law_found", "_law_many"] f fd)
    (FW : Fn K mg "_law_whole" sWhole ["_law_found"] fw fdw) (GW : FnOk P w K mg base CX0 1 fw fdw ["_law_found"] spWhole)
    (FM : Fn K mg "_law_met" sMet ["_law_right", "_law_up", "_law_first"] fm fdm) (GM : FnOk P w K mg base CX0 1 fm fdm ["_law_right", "_law_up", "_law_first"] (spMet K)) :
    FnOk P w K mg base CX0 2 f fd ["_law_found", "_law_many"] spIsSheet := by
  refine F.F.ok scIsSheet (fun vs H Q E h => ?_) (fun cdv A outer s H vs Q E hr h => ?_)
  · obtain ⟨a, m, r, u, rfl, _⟩ := h; rfl
  · obtain ⟨a, m, r, u, rfl, hsh, hS, k⟩ := h
    obtain ⟨p, q, h1, h2, h3⟩ := id hsh
    refine ⟨_, pss_cons (ps_if (PW.pt (pw_or (pt_not (pt_val (pe_callB call_isinst rfl T.isin boot_isin (pa_cons (pv 0) (pa_cons (pe_bltn (v := .ty "tuple") rfl T.tuple boot_tuple rfl) pa_nil)))))
          (pw_or1 (pt_cmpR op_ne (pe_callB call_len_seq rfl T.len PySem.boot_len (pa_cons (pv 0) pa_nil)) pe_int (nomark _))))) (pss_one (ps_ret pe_bl)) pss_nil)
      (pss_cons (ps_for PassesOwn.never rfl (pi_tup (pv 0)) (pg_name (i := 2) scIsSheet.nd rfl (Or.inl rfl))
        (pss_cons (ps_if (PW.pt (pw_or (pt_not (pt_val (pe_callB call_isinst rfl T.isin boot_isin (pa_cons (pv 2) (pa_cons (pe_bltn (v := .ty "tuple") rfl T.tuple boot_tuple rfl) pa_nil)))))
          (pw_or1 (pt_cmpR op_ne (pe_callB call_len_seq rfl T.len PySem.boot_len (pa_cons (pv 2) pa_nil)) (pv 1) (nomark _))))) (pss_one (ps_ret pe_bl)) pss_nil)
        (pss_cons (ps_if (pt_not (pt_val (pe_callB (call_all_bools rfl) rfl T.all boot_all (pa_cons
          (pe_comp (N := ["_law_found", "_law_many", "_law_line"]) (names := (defScope sIsSheet).names) (N' := ["_law_square"]) (k := 1) (pull := []) (te := tCall spWhole [] E0 (tCons (tVar 0) tNil)) rfl
            ⟨by rfl, by decide +kernel, by decide +kernel, by rfl, by decide +kernel, by decide +kernel⟩ rfl rfl (pi_tup (pv 2)) (fun _ _ _ _ _ _ => pg_name (i := 0) ndS1 rfl (Or.inl rfl))
            (fun _ _ _ _ _ _ => pe_call GW hr rfl FW.m FW.F.kp FW.b .nil pass0 (pa_cons (pv 0) pa_nil))) pa_nil)))) (pss_one (ps_ret pe_bl)) pss_nil)
        (pss_one (ps_if (pt_cmpR op_neD (pe_callB (call_sorted rfl) rfl T.sorted boot_sorted (pa_cons (pv 2) pa_nil)) (pe_callTy (call_list_rng rfl) rfl T.list boot_list (pa_cons (pe_callTy call_range1 rfl T.range PyProof.Rows.boot_range (pa_cons (pv 1) pa_nil)) pa_nil)) (nomark _)) (pss_one (ps_ret pe_bl)) pss_nil)))))
      (pss_one (ps_ret (pe_cmpR op_eq (pe_callB call_len_seq rfl T.len PySem.boot_len (pa_cons (pe_call GM hr rfl FM.m FM.F.kp FM.b .nil pass0 (pa_cons (pe_ix ix_tup (pv 0) pe_int (fun _ _ => rfl)) (pa_cons (pe_ix ix_tup (pv 0) pe_int (fun _ _ => rfl)) (pa_cons pe_int pa_nil)))) pa_nil)) (pv 1) (nomark _))))), ?_⟩
    refine ⟨_, rfl, _, _, _, _, rfl, .tup h1, kit_tup_tup K, _, rfl, ?_⟩
    refine iteF ?_
    refine ⟨_, rfl, a, _, rfl, .inr (SqT.of h1), rfl, _, rfl, ?_⟩
    refine iteNS rfl ?_
    refine ⟨_, rfl, a, rfl, ⟨_, SqT.of h1⟩, for_tup (K := K) (a := a) (xs := [.ref p, .ref q]) (fun i σ H2 => ∃ o2, σ = [some (.ref a), some (.int (m : Int)), o2] ∧ Same H H2) ⟨_, rfl, Same.refl H⟩ (fun i σ H2 _ ⟨_, _, s2⟩ => SqT.of (s2 _ _ h1)) ?_ ?_⟩
    · rintro i x σ H2 hx ⟨o2, rfl, s2⟩
      obtain ⟨b, row, rfl, hb, rrow⟩ : ∃ b row, x = .ref b ∧ H b = some (.tup (nv row)) ∧ Row m row := by
        match i, hx with
        | 0, hx => cases hx; exact ⟨p, r, rfl, h2, hS.row⟩
        | 1, hx => cases hx; exact ⟨q, u, rfl, h3, hS.col⟩
        | i + 2, hx => cases hx
      have hb2 := s2 _ _ hb
      refine ⟨_, rfl, _, _, _, _, rfl, .tup hb2, kit_tup_tup K, _, rfl, ?_⟩
      refine iteF ?_
      refine ⟨_, rfl, b, _, rfl, .inr (SqT.of hb2), _, rfl, rfl, _, rfl, ?_⟩
      refine iteNS (by rw [nv_len, rrow.len]) ?_
      dsimp only [tNext, tSeq, tIfS, tNot, tB, tCB, tCons]
      refine compWhole rfl (SqT.of hb2) (by rw [rrow.len]; exact hS.most) fun H3 d s3 hd3 => ?_
      refine ⟨d, _, rfl, SqL.of hd3, _, rfl, ?_⟩
      rw [all_rep]
      refine iteF ?_
      have s23 := s2.trans s3
      refine ⟨_, rfl, b, row, rfl, .inr (.inl (SqT.of (s23 _ _ hb))), by rw [rrow.len]; have := hS.most; omega, fun l S hl pS sS => ?_⟩
      have eS : S = List.range m := rrow.sorted pS sS
      subst eS
      refine ⟨_, rfl, (m : Int), rfl, fun r0 hr0 => ⟨r0, m, rfl, upd_same, by have := hS.most; omega, fun l4 hl4 => ?_⟩⟩
      have hlr : l ≠ r0 := ne_of_none upd_same hr0
      have e1 : (upd (upd H3 l (.lst (nv (List.range m)))) r0 (.rng 0 (m : Int))) l = some (.lst (nv (List.range m))) := by rw [upd_ne hlr, upd_same]
      have e2 : (upd (upd (upd H3 l (.lst (nv (List.range m)))) r0 (.rng 0 (m : Int))) l4 (.lst (nv (List.range m)))) l = some (.lst (nv (List.range m))) := by rw [upd_ne (ne_of_none e1 hl4)]; exact e1
      refine ⟨.list (nd (List.range m)), .list (nd (List.range m)), .lst (SqL.of e2) (nd_all _), .lst (SqL.of upd_same) (nd_all _), nd_lay _, nd_lay _, ?_, _, rfl, ?_⟩
      · have hu := hr.units
        show _ + min (PyData.depthAll (nd (List.range m)) + 1) (PyData.depthAll (nd (List.range m)) + 1) < cLine
        rw [nd_depth]
        exact Nat.lt_of_le_of_lt (Nat.add_le_add_left (by decide : min (0 + 1) (0 + 1) ≤ 64) _) hu
      · show if (!PyData.eqvAll (nd (List.range m)) (nd (List.range m))) = true then _ else _
        rw [nd_eqv, decide_eq_true rfl]
        refine iteF ?_
        refine ⟨_, rfl, ?_⟩
        have f1 : H l = none := s23.free hl
        have g1 : (upd H3 l (.lst (nv (List.range m)))) r0 = none := hr0
        have s4 : Same H (upd H3 l (.lst (nv (List.range m)))) := same_upd s23 f1
        have s5 := same_upd (o := .rng 0 (m : Int)) s4 (s4.free hr0)
        exact same_upd s5 (s5.free hl4)
    · rintro σ H2 ⟨o2, rfl, s2⟩
      have h1' := s2 _ _ h1
      refine ⟨_, rfl, a, _, 0, _, rfl, rfl, SqT.of h1', atI_nat (j := 0) rfl, _, rfl, a, _, 1, _, rfl, rfl, SqT.of h1', atI_nat (j := 1) rfl, ?_⟩
      refine ⟨p, q, m, r, u, 0, rfl, .inr (SqT.of (s2 _ _ h2)), .inr (SqT.of (s2 _ _ h3)), hS.row, hS.col, hS.pos, hS.most, fun H3 l M s3 _ hl hM => ?_⟩
      refine ⟨l, _, rfl, .inl (SqL.of hl), _, rfl, rfl, ?_⟩
      rw [nv_len, (hM.full hS).len, decide_eq_true rfl]
      exact k H3 (s2.trans s3)
end
end K1
namespace K1
open PySem L2 Sq
/-- [g(k) for k in range(m)], no heap needed -/
theorem compRange {Hc : Hp} {m : Nat} {ta : TA} {te : TE} {pull : List Nat} {Q : VK} {σ : St} {rest : St} (g : Nat → Nat) (hj : ∀ R : List V → Hp → Prop, R [.int (m : Int)] Hc → ta σ Hc R) (hb : bst 1 pull σ = none :: rest)
    (hte : ∀ (i : Nat) (H : Hp) (R : VK), i < m → Same Hc H → R (.int (g i : Int)) H → te (some (.int (i : Int)) :: rest) H R) (hm : m ≤ 1000)
    (k : ∀ (H' : Hp) (d : Addr), Same Hc H' → Hc d = none → H' d = some (.lst (nv ((List.range m).map g))) → Q (.ref d) H') :
    tComp (iRng1 ta) 1 pull (gName 0) te σ Hc Q := by
  refine hj _ ⟨(m : Int), rfl, by omega, by omega, fun d hd => ?_⟩
  rw [Int.toNat_natCast, hb]
  refine comp_by (J := Itr 0 m) (Q := fun d H' => Q (.ref d) H') m (nv ((List.range m).map g)) (by rw [nv_len]; simp) (fun i σ H9 => (∃ o, σ = o :: rest) ∧ Same Hc H9) ⟨⟨_, rfl⟩, same_upd (Same.refl _) hd⟩ ?_ ?_
  · rintro i σ H9 hi ⟨⟨o, rfl⟩, s9⟩ hd9
    refine ⟨hi, fun x H4 ⟨e1, e2⟩ => ?_⟩
    subst e1 e2
    rw [show (0 : Int) + (i : Int) = (i : Int) from by omega]
    refine hte i _ _ hi s9 ?_
    refine cpost hi (by omega) hd9 (nv_get (by simp [hi])) ⟨⟨_, rfl⟩, same_upd s9 hd⟩
  · rintro σ H9 ⟨⟨o, rfl⟩, s9⟩ hd9
    exact ⟨Nat.le_refl _, k H9 d s9 hd hd9⟩
end K1
namespace K1
open PySem L2 Sq
def keepsB (r rb mm : List Nat) : Bool := (List.range r.length).all fun k => decide (nx mm (nx r k) = nx rb (nx mm k))
def spKr (K : PySem.W.Frag) : Sp := fun vs H Q _ => ∃ (p q l : Addr) (n nb : Nat) (r rb mm : List Nat), vs = [.ref p, .ref q, .ref l] ∧ H p = some (.tup (nv r)) ∧ H q = some (.tup (nv rb)) ∧ H l = some (.lst (nv mm)) ∧ Row n r ∧ Row nb rb ∧ mm.length = n ∧ (∀ x ∈ mm, x < nb) ∧ n ≤ 36 ∧ ∀ H' : Hp, Same H H' → Q (.bl (keepsB r rb mm)) H'
/-- [g(k) for k in range(m)], truths -/
theorem compRangeB {Hc : Hp} {m : Nat} {ta : TA} {te : TE} {pull : List Nat} {Q : VK} {σ : St} {rest : St} (g : Nat → Bool) (hj : ∀ R : List V → Hp → Prop, R [.int (m : Int)] Hc → ta σ Hc R) (hb : bst 1 pull σ = none :: rest)
    (hte : ∀ (i : Nat) (H : Hp) (R : VK), i < m → Same Hc H → R (.bl (g i)) H → te (some (.int (i : Int)) :: rest) H R) (hm : m ≤ 1000)
    (k : ∀ (H' : Hp) (d : Addr), Same Hc H' → Hc d = none → H' d = some (.lst (((List.range m).map g).map V.bl)) → Q (.ref d) H') :
    tComp (iRng1 ta) 1 pull (gName 0) te σ Hc Q := by
  refine hj _ ⟨(m : Int), rfl, by omega, by omega, fun d hd => ?_⟩
  rw [Int.toNat_natCast, hb]
  refine comp_by (J := Itr 0 m) (Q := fun d H' => Q (.ref d) H') m (((List.range m).map g).map V.bl) (by simp) (fun i σ H9 => (∃ o, σ = o :: rest) ∧ Same Hc H9) ⟨⟨_, rfl⟩, same_upd (Same.refl _) hd⟩ ?_ ?_
  · rintro i σ H9 hi ⟨⟨o, rfl⟩, s9⟩ hd9
    refine ⟨hi, fun x H4 ⟨e1, e2⟩ => ?_⟩
    subst e1 e2
    rw [show (0 : Int) + (i : Int) = (i : Int) from by omega]
    refine hte i _ _ hi s9 ?_
    exact cpost hi (by omega) hd9 (by simp [hi]) ⟨⟨_, rfl⟩, same_upd s9 hd⟩
  · rintro σ H9 ⟨⟨o, rfl⟩, s9⟩ hd9
    exact ⟨Nat.le_refl _, k H9 d s9 hd hd9⟩
section
variable {P : Program} {w : World} {K : PySem.W.Frag} {mg : Str → Option Value} {base : Heap}
abbrev n_kr : List Str := ["row", "base_row", "m"]
theorem sc_kr : FnScope n_kr ["row", "base_row", "m"] (defScope sKeepsRow) := ⟨rfl, rfl, rfl, by decide +kernel, rfl, by decide +kernel, by decide +kernel⟩
theorem nd_kr : (["square", "row", "base_row", "m"] : List Str).Nodup := by decide +kernel
theorem ok_kr {f : Addr} {fd : FuncData} (T : Bi mg) (F : Fn K mg "keeps_row" sKeepsRow ["row", "base_row", "m"] f fd) : FnOk P w K mg base CX0 1 f fd ["row", "base_row", "m"] (spKr K) := by
  refine F.F.ok sc_kr (fun vs H Q E h => ?_) (fun cdv A outer s H vs Q E hr h => ?_)
  · obtain ⟨p, q, l, n, nb, r, rb, mm, rfl, _⟩ := h; rfl
  · obtain ⟨p, q, l, n, nb, r, rb, mm, rfl, hp, hq, hl, rr, rbr, hmm, hlt, hn, k⟩ := h
    refine ⟨_, (pss_one (ps_ret (pe_callB (call_all_bools rfl) rfl T.all boot_all (pa_cons (pe_comp (N := n_kr) (names := (defScope sKeepsRow).names) (N' := ["square", "row", "base_row", "m"]) (k := 1) (pull := [0, 1, 2]) (te := (tOp rEq (tOp (rIxL K) (tVar 3) (tOp (rIxT K) (tVar 1) (tVar 0))) (tOp (rIxT K) (tVar 2) (tOp (rIxL K) (tVar 3) (tVar 0))))) rfl ⟨by rfl, by decide +kernel, by decide +kernel, by rfl, by decide +kernel, by decide +kernel⟩ rfl rfl (pi_range1 rfl T.range (pa_cons (pe_callB call_len_seq rfl T.len PySem.boot_len (pa_cons (pv 0) pa_nil)) pa_nil)) (fun _ _ _ _ _ _ => pg_name (i := 0) nd_kr rfl (Or.inl rfl)) (fun _ _ _ _ _ _ => (pe_cmpR op_eq (pe_ix ix_list (pv 3) (pe_ix ix_tup (pv 1) (pv 0) (fun _ _ => rfl)) (fun _ _ => rfl)) (pe_ix ix_tup (pv 2) (pe_ix ix_list (pv 3) (pv 0) (fun _ _ => rfl)) (fun _ _ => rfl)) (by with_unfolding_all rfl)))) pa_nil)))), ?_⟩
    dsimp only [tRet, tCB, tCons]
    refine compRangeB (m := n) (rest := [some (.ref p), some (.ref q), some (.ref l)]) (fun i => decide (nx mm (nx r i) = nx rb (nx mm i))) (fun R hR => ⟨_, rfl, p, _, rfl, .inr (SqT.of hp), by rw [nv_len, rr.len]; exact hR⟩) rfl (fun i H' R hi s' hR => ?_) (by omega) fun H1 d s1 _ hd => ?_
    · have gm : ∀ x, x < n → mm[x]? = some (nx mm x) ∧ nx mm x < nb := fun x hx => by
        have hx' : x < mm.length := by omega
        have e : mm[x]? = some mm[x] := List.getElem?_eq_getElem hx'
        have e2 : nx mm x = mm[x] := by unfold nx; rw [List.getD_eq_getElem?_getD, e]; rfl
        exact ⟨by rw [e, e2], by rw [e2]; exact hlt _ (List.getElem_mem hx')⟩
      obtain ⟨g1, _⟩ := gm (nx r i) (rr.nlt hi)
      obtain ⟨g2, g3⟩ := gm i hi
      refine ⟨_, rfl, _, rfl, _, rfl, p, _, _, _, rfl, rfl, SqT.of (s' _ _ hp), atI_nat (nv_get (rr.get hi)), l, _, _, _, rfl, rfl, SqL.of (s' _ _ hl), atI_nat (nv_get g1), ?_⟩
      refine ⟨_, rfl, _, rfl, _, rfl, l, _, _, _, rfl, rfl, SqL.of (s' _ _ hl), atI_nat (nv_get g2), q, _, _, _, rfl, rfl, SqT.of (s' _ _ hq), atI_nat (nv_get (rbr.get g3)), rfl, ?_⟩
      have e : decide (V.int ((nx mm (nx r i) : Nat) : Int) = V.int ((nx rb (nx mm i) : Nat) : Int)) = decide (nx mm (nx r i) = nx rb (nx mm i)) := by
        rw [decide_eq_decide]
        exact ⟨fun z => by have := V.int.inj z; omega, fun z => by rw [z]⟩
      rw [e]; exact hR
    refine ⟨d, _, rfl, SqL.of hd, ?_⟩
    rw [List.all_map]
    have := k H1 s1
    unfold keepsB at this
    rw [rr.len] at this
    exact this
end
end K1
namespace K1
open PySem L2 Sq
def okSq (n : Nat) (i : Int) : Bool := decide (0 ≤ i ∧ i < (n : Int))
def mapB (n nb : Nat) (r u rb ub : List Nat) (ms : List Int) : Bool := decide (ms.length = n) && ms.all (okSq nb) && keepsB r rb (ms.map Int.toNat) && keepsB u ub (ms.map Int.toNat)
def spIm (K : PySem.W.Frag) : Sp := fun vs H Q _ => ∃ (a b l : Addr) (n nb : Nat) (r u rb ub : List Nat) (ms : List Int), vs = [.ref a, .ref b, .ref l] ∧ ShAt H a r u ∧ ShAt H b rb ub ∧ H l = some (.lst (ms.map V.int)) ∧ Row n r ∧ Row n u ∧ Row nb rb ∧ Row nb ub ∧ n ≤ 36 ∧ ms.length ≤ 1000 ∧ ∀ H' : Hp, Same H H' → Q (.bl (mapB n nb r u rb ub ms)) H'
/-- [g(x) for x in xs], truths of whole numbers in a list in the slot j -/
theorem compListB {K : PySem.W.Frag} {Hc : Hp} {p : Addr} {xs : List Int} {j : Nat} {te : TE} {pull : List Nat} {Q : VK} {σ : St} {rest : St} (g : Int → Bool) (hj : σ[j]? = some (some (.ref p))) (hp : Hc p = some (.lst (xs.map V.int))) (hb : bst 1 pull σ = none :: rest)
    (hte : ∀ (x : Int) (H : Hp) (R : VK), Same Hc H → R (.bl (g x)) H → te (some (.int x) :: rest) H R) (hn : xs.length ≤ 1000)
    (k : ∀ (H' : Hp) (d : Addr), Same Hc H' → H' d = some (.lst ((xs.map g).map V.bl)) → Q (.ref d) H') :
    tComp (iList K (tVar j)) 1 pull (gName 0) te σ Hc Q := by
  refine ⟨_, hj, p, rfl, ⟨_, SqL.of hp⟩, fun d hd => ?_⟩
  rw [hb]
  refine comp_by (Q := fun d H' => Q (.ref d) H') xs.length ((xs.map g).map V.bl) (by simp) (fun i σ H3 => (∃ o, σ = o :: rest) ∧ Same Hc H3) ⟨⟨_, rfl⟩, same_upd (Same.refl _) hd⟩ ?_ ?_
  · rintro i σ H3 hi ⟨⟨o, rfl⟩, s3⟩ hd3
    have hp3 := SqL.of (K := K) (s3 _ _ hp)
    have hg : (xs.map V.int)[i]? = some (.int xs[i]) := by simp [hi]
    refine ⟨⟨_, _, hp3, hg⟩, fun y H4 ⟨e, hy⟩ => ?_⟩
    subst e
    have hy := hy _ hp3
    rw [hg] at hy
    cases hy
    refine hte _ _ _ s3 ?_
    exact cpost hi hn hd3 (by simp [hi]) ⟨⟨_, rfl⟩, same_upd s3 hd⟩
  · rintro σ H3 ⟨⟨o, rfl⟩, s3⟩ hd3
    exact ⟨⟨_, SqL.of (s3 _ _ hp), by rw [List.length_map]; exact Nat.le_refl _⟩, k H3 d s3 hd3⟩
section
variable {P : Program} {w : World} {K : PySem.W.Frag} {mg : Str → Option Value} {base : Heap}
abbrev n_im : List Str := ["sheet", "base", "m"]
theorem sc_im : FnScope n_im ["sheet", "base", "m"] (defScope sIsMap) := ⟨rfl, rfl, rfl, by decide +kernel, rfl, by decide +kernel, by decide +kernel⟩
theorem nd_im : (["number", "base"] : List Str).Nodup := by decide +kernel
theorem ok_im {f fz fq fk : Addr} {fd dz dq dk : FuncData} (T : Bi mg) (F : Fn K mg "is_map" sIsMap ["sheet", "base", "m"] f fd) (FZ : Fn K mg "size" sSize ["sheet"] fz dz) (GZ : FnOk P w K mg base CX0 1 fz dz ["sheet"] spSize)
    (FQ : Fn K mg "is_square" sIsSq ["thing", "squares"] fq dq) (GQ : FnOk P w K mg base CX0 2 fq dq ["thing", "squares"] spIsSq)
    (FK : Fn K mg "keeps_row" sKeepsRow ["row", "base_row", "m"] fk dk) (GK : FnOk P w K mg base CX0 1 fk dk ["row", "base_row", "m"] (spKr K)) : FnOk P w K mg base CX0 3 f fd ["sheet", "base", "m"] (spIm K) := by
  refine F.F.ok sc_im (fun vs H Q E h => ?_) (fun cdv A outer s H vs Q E hr h => ?_)
  · obtain ⟨a, b, l, n, nb, r, u, rb, ub, ms, rfl, _⟩ := h; rfl
  · obtain ⟨a, b, l, n, nb, r, u, rb, ub, ms, rfl, ha, hb, hl, rr, ru, rrb, rub, hn, hms, k⟩ := h
    obtain ⟨p, q, h1, h2, h3⟩ := id ha
    obtain ⟨pb, qb, h1b, h2b, h3b⟩ := id hb
    have hr1 : Room 1 _ := hr.mono (by decide)
    have hr2 : Room 2 _ := hr.mono (by decide)
    refine ⟨_, (pss_cons (ps_if (PW.pt (pw_or (pt_cmpR op_ne (pe_callB call_len_seq rfl T.len PySem.boot_len (pa_cons (pv 2) pa_nil)) (pe_call GZ hr1 rfl FZ.m FZ.F.kp FZ.b .nil pass0 (pa_cons (pv 0) pa_nil)) (nomark _)) (pw_or1 (pt_not (pt_val (pe_callB (call_all_bools rfl) rfl T.all boot_all (pa_cons (pe_comp (N := n_im) (names := (defScope sIsMap).names) (N' := ["number", "base"]) (k := 1) (pull := [1]) (te := (tCall spIsSq [] E0 (tCons (tVar 0) (tCons (tCall spSize [] E0 (tCons (tVar 1) tNil)) tNil)))) rfl ⟨by rfl, by decide +kernel, by decide +kernel, by rfl, by decide +kernel, by decide +kernel⟩ rfl rfl (pi_list (pv 2)) (fun _ _ _ _ _ _ => pg_name (i := 0) nd_im rfl (Or.inl rfl)) (fun _ _ _ _ _ _ => (pe_call GQ hr2 rfl FQ.m FQ.F.kp FQ.b .nil pass0 (pa_cons (pv 0) (pa_cons (pe_call GZ hr1 rfl FZ.m FZ.F.kp FZ.b .nil pass0 (pa_cons (pv 1) pa_nil)) pa_nil))))) pa_nil))))))) (pss_one (ps_ret pe_bl)) pss_nil)
      (pss_one (ps_ret (pe_and (pe_call GK hr1 rfl FK.m FK.F.kp FK.b .nil pass0 (pa_cons (pe_ix ix_tup (pv 0) pe_int (fun _ _ => rfl)) (pa_cons (pe_ix ix_tup (pv 1) pe_int (fun _ _ => rfl)) (pa_cons (pv 2) pa_nil)))) (pe_one (pe_call GK hr1 rfl FK.m FK.F.kp FK.b .nil pass0 (pa_cons (pe_ix ix_tup (pv 0) pe_int (fun _ _ => rfl)) (pa_cons (pe_ix ix_tup (pv 1) pe_int (fun _ _ => rfl)) (pa_cons (pv 2) pa_nil))))))))), ?_⟩
    refine ⟨_, rfl, l, _, rfl, .inl (SqL.of hl), _, rfl, a, r, u, rfl, ha, rfl, _, rfl, ?_⟩
    rw [List.length_map, rr.len]
    by_cases e : ms.length = n
    · refine iteNS (by rw [e]) ?_
      dsimp only [tNext, tSeq, tIfS, tNot, tB, tCB, tCons]
      refine compListB (xs := ms) (rest := [some (.ref b)]) (okSq nb) rfl hl rfl (fun i H' R s' hR => ?_) (by omega) fun H1 d s1 hd => ?_
      · refine ⟨_, rfl, _, rfl, b, rb, ub, rfl, hb.same s', i, _, rfl, ?_⟩
        rw [rrb.len]; exact hR
      refine ⟨d, _, rfl, SqL.of hd, _, rfl, ?_⟩
      have eall : ((ms.map (okSq nb)).all id) = ms.all (okSq nb) := by rw [List.all_map]; rfl
      rw [eall]
      cases hall : ms.all (okSq nb) with
      | false =>
        refine iteT ?_
        have := k H1 s1
        unfold mapB at this
        rw [hall, Bool.and_false, Bool.false_and, Bool.false_and] at this
        exact this
      | true =>
        refine iteF ?_
        have hin : ∀ i ∈ ms, 0 ≤ i ∧ i < (nb : Int) := fun i hi => of_decide_eq_true (List.all_eq_true.mp hall i hi)
        have ems : ms.map V.int = nv (ms.map Int.toNat) := by
          unfold nv
          rw [List.map_map]
          exact List.map_congr_left fun i hi => by show V.int i = V.int ((i.toNat : Nat) : Int); rw [Int.toNat_of_nonneg (hin i hi).1]
        have hl' := s1 _ _ hl
        rw [ems] at hl'
        have hlt : ∀ x ∈ ms.map Int.toNat, x < nb := fun x hx => by
          obtain ⟨i, hi, rfl⟩ := List.mem_map.mp hx
          have := hin i hi
          omega
        have eB : mapB n nb r u rb ub ms = (keepsB r rb (ms.map Int.toNat) && keepsB u ub (ms.map Int.toNat)) := by unfold mapB; rw [hall, decide_eq_true e]; rfl
        refine ⟨_, rfl, a, _, 0, _, rfl, rfl, SqT.of (s1 _ _ h1), atI_nat (j := 0) rfl, _, rfl, b, _, 0, _, rfl, rfl, SqT.of (s1 _ _ h1b), atI_nat (j := 0) rfl, _, rfl, p, pb, l, n, nb, r, rb, ms.map Int.toNat, rfl, s1 _ _ h2, s1 _ _ h2b, hl', rr, rrb, by rw [List.length_map]; exact e, hlt, hn, fun H2 s2 => ⟨_, rfl, ?_⟩⟩
        cases hk1 : keepsB r rb (ms.map Int.toNat) with
        | false =>
          refine iteF ?_
          have := k H2 (s1.trans s2)
          rw [eB, hk1] at this
          exact this
        | true =>
          refine iteT ?_
          have s12 := s1.trans s2
          refine ⟨_, rfl, a, _, 1, _, rfl, rfl, SqT.of (s12 _ _ h1), atI_nat (j := 1) rfl, _, rfl, b, _, 1, _, rfl, rfl, SqT.of (s12 _ _ h1b), atI_nat (j := 1) rfl, _, rfl, q, qb, l, n, nb, u, ub, ms.map Int.toNat, rfl, s12 _ _ h3, s12 _ _ h3b, s2 _ _ hl', ru, rub, by rw [List.length_map]; exact e, hlt, hn, fun H3 s3 => ?_⟩
          have := k H3 (s12.trans s3)
          rw [eB, hk1] at this
          exact this
    · rw [decide_eq_false (fun z => e (by have := V.int.inj z; omega))]
      refine iteT ?_
      have := k H (Same.refl _)
      unfold mapB at this
      rw [decide_eq_false e] at this
      exact this
end
end K1
namespace K1
open PySem L2 Sq
abbrev teWh (K : PySem.W.Frag) : TE := tAndV (tCall spWhole [] E0 (tCons (tVar 0) tNil)) (tChain (rI0 fun i j => .bl (decide (i ≤ j))) (rI0 fun i j => .bl (decide (i < j))) (tC (.int 0)) (tVar 0) (tCB (fun xs H Q => ∃ p ys, xs = [.ref p] ∧ (SqL K H p ys ∨ SqT K H p ys) ∧ Q (.int (ys.length : Int)) H) (tCons (tOp (rIxT K) (tVar 1) (tC (.int 0))) tNil)))
def spMr (K : PySem.W.Frag) : Sp := spIm K
section
variable {P : Program} {w : World} {K : PySem.W.Frag} {mg : Str → Option Value} {base : Heap}
abbrev n_mr : List Str := ["_law_sheet_here", "_law_base", "_law_m", "_law_k", "_law_under"]
theorem sc_mr : FnScope n_mr ["_law_sheet_here", "_law_base", "_law_m"] (defScope sLMapRight) := ⟨rfl, rfl, rfl, by decide +kernel, rfl, by decide +kernel, by decide +kernel⟩
theorem nd_mr : (["_law_square", "_law_base"] : List Str).Nodup := by decide +kernel
set_option maxHeartbeats 2000000 in
theorem ok_mr {f fw : Addr} {fd dw : FuncData} (T : Bi mg) (F : Fn K mg "_law_map_right" sLMapRight ["_law_sheet_here", "_law_base", "_law_m"] f fd) (FW : Fn K mg "_law_whole" sWhole ["_law_found"] fw dw) (GW : FnOk P w K mg base CX0 1 fw dw ["_law_found"] spWhole) : FnOk P w K mg base CX0 2 f fd ["_law_sheet_here", "_law_base", "_law_m"] (spMr K) := by
  refine F.F.ok sc_mr (fun vs H Q E h => ?_) (fun cdv A outer s H vs Q E hr h => ?_)
  · obtain ⟨a, b, l, n, nb, r, u, rb, ub, ms, rfl, _⟩ := h; rfl
  · obtain ⟨a, b, l, n, nb, r, u, rb, ub, ms, rfl, ha, hb, hl, rr, ru, rrb, rub, hn, hms, k⟩ := h
    obtain ⟨p, q, h1, h2, h3⟩ := id ha
    obtain ⟨pb, qb, h1b, h2b, h3b⟩ := id hb
    have hr1 : Room 1 _ := hr.mono (by decide)
    refine ⟨_, (pss_cons (ps_if (PW.pt (pw_or (pt_not (pt_val (pe_callB call_isinst rfl T.isin boot_isin (pa_cons (pv 2) (pa_cons (pe_bltn (v := .ty "list") rfl T.list boot_list rfl) pa_nil))))) (pw_or1 (pt_cmpR op_ne (pe_callB call_len_seq rfl T.len PySem.boot_len (pa_cons (pv 2) pa_nil)) (pe_callB call_len_seq rfl T.len PySem.boot_len (pa_cons (pe_ix ix_tup (pv 0) pe_int (fun _ _ => rfl)) pa_nil)) (nomark _))))) (pss_one (ps_ret pe_bl)) pss_nil)
      (pss_cons (ps_if (pt_not (pt_val (pe_callB (call_all_bools rfl) rfl T.all boot_all (pa_cons (pe_comp (N := n_mr) (names := (defScope sLMapRight).names) (N' := ["_law_square", "_law_base"]) (k := 1) (pull := [1]) (te := (teWh K)) rfl ⟨by rfl, by decide +kernel, by decide +kernel, by rfl, by decide +kernel, by decide +kernel⟩ rfl rfl (pi_list (pv 2)) (fun _ _ _ _ _ _ => pg_name (i := 0) nd_mr rfl (Or.inl rfl)) (fun _ _ _ _ _ _ => (pe_and (pe_call GW hr1 rfl FW.m FW.F.kp FW.b .nil pass0 (pa_cons (pv 0) pa_nil)) (pe_one (pe_chain op_le op_lt pe_int (pv 0) (pe_callB call_len_seq rfl T.len PySem.boot_len (pa_cons (pe_ix ix_tup (pv 1) pe_int (fun _ _ => rfl)) pa_nil))))))) pa_nil)))) (pss_one (ps_ret pe_bl)) pss_nil)
      (pss_cons (ps_for PassesOwn.never rfl (pi_enumL rfl T.enum (pa_cons (pv 2) pa_nil)) (pg_tupE rfl (pgs_cons (pg_name (i := 3) sc_mr.nd rfl (Or.inl rfl)) (pgs_cons (pg_name (i := 4) sc_mr.nd rfl (Or.inl rfl)) pgs_nil))) (pss_one (ps_if (PW.pt (pw_or (pt_cmpR op_ne (pe_ix ix_list (pv 2) (pe_ix ix_tup (pe_ix ix_tup (pv 0) pe_int (fun _ _ => rfl)) (pv 3) (fun _ _ => rfl)) (fun _ _ => rfl)) (pe_ix ix_tup (pe_ix ix_tup (pv 1) pe_int (fun _ _ => rfl)) (pv 4) (fun _ _ => rfl)) (nomark _)) (pw_or1 (pt_cmpR op_ne (pe_ix ix_list (pv 2) (pe_ix ix_tup (pe_ix ix_tup (pv 0) pe_int (fun _ _ => rfl)) (pv 3) (fun _ _ => rfl)) (fun _ _ => rfl)) (pe_ix ix_tup (pe_ix ix_tup (pv 1) pe_int (fun _ _ => rfl)) (pv 4) (fun _ _ => rfl)) (nomark _))))) (pss_one (ps_ret pe_bl)) pss_nil)))
      (pss_one (ps_ret pe_bl))))), ?_⟩
    refine ⟨_, rfl, _, _, _, _, rfl, .lst hl, kit_list_list K, _, rfl, ?_⟩
    refine iteF ?_
    refine ⟨_, rfl, l, _, rfl, .inl (SqL.of hl), _, rfl, a, _, 0, _, rfl, rfl, SqT.of h1, atI_nat (j := 0) rfl, p, _, rfl, .inr (SqT.of h2), rfl, _, rfl, ?_⟩
    rw [List.length_map, nv_len, rr.len]
    by_cases e : ms.length = n
    · refine iteNS (by rw [e]) ?_
      dsimp only [tNext, tSeq, tIfS, tNot, tB, tCB, tCons]
      refine compListB (xs := ms) (rest := [some (.ref b)]) (okSq nb) rfl hl rfl (fun i H' R s' hR => ?_) (by omega) fun H1 d s1 hd => ?_
      · refine ⟨_, rfl, i, rfl, _, rfl, ?_⟩
        refine iteT ?_
        refine ⟨_, rfl, _, _, rfl, rfl, _, rfl, ?_⟩
        refine ite2 (fun h => ?_) (fun h => ?_)
        · have h : 0 ≤ i := of_decide_eq_true h
          refine ⟨_, rfl, b, _, 0, _, rfl, rfl, SqT.of (s' _ _ h1b), atI_nat (j := 0) rfl, pb, _, rfl, .inr (SqT.of (s' _ _ h2b)), _, _, rfl, rfl, ?_⟩
          rw [nv_len, rrb.len]
          have e : okSq nb i = decide (i < (nb : Int)) := by unfold okSq; simp [h]
          rw [e] at hR; exact hR
        · have h : ¬ 0 ≤ i := fun z => h (decide_eq_true z)
          have e : okSq nb i = false := by unfold okSq; simp [h]
          rw [e] at hR; exact hR
      refine ⟨d, _, rfl, SqL.of hd, _, rfl, ?_⟩
      have eall : ((ms.map (okSq nb)).all id) = ms.all (okSq nb) := by rw [List.all_map]; rfl
      rw [eall]
      cases hall : ms.all (okSq nb) with
      | false =>
        refine iteT ?_
        have := k H1 s1
        unfold mapB at this
        rw [hall, Bool.and_false, Bool.false_and, Bool.false_and] at this
        exact this
      | true =>
        refine iteF ?_
        have hin : ∀ i ∈ ms, 0 ≤ i ∧ i < (nb : Int) := fun i hi => of_decide_eq_true (List.all_eq_true.mp hall i hi)
        obtain ⟨mm, emm⟩ : ∃ mm, mm = ms.map Int.toNat := ⟨_, rfl⟩
        have ems : ms.map V.int = nv mm := by
          unfold nv
          rw [emm, List.map_map]
          exact List.map_congr_left fun i hi => by show V.int i = V.int ((i.toNat : Nat) : Int); rw [Int.toNat_of_nonneg (hin i hi).1]
        have hl' := s1 _ _ hl
        rw [ems] at hl'
        have hlt : ∀ x ∈ mm, x < nb := fun x hx => by
          rw [emm] at hx
          obtain ⟨i, hi, rfl⟩ := List.mem_map.mp hx
          have := hin i hi
          omega
        have hml : mm.length = n := by rw [emm, List.length_map]; exact e
        have eB : mapB n nb r u rb ub ms = (keepsB r rb mm && keepsB u ub mm) := by unfold mapB; rw [hall, decide_eq_true e, ← emm]; rfl
        have gm : ∀ x, x < n → mm[x]? = some (nx mm x) ∧ nx mm x < nb := fun x hx => by
          have hx' : x < mm.length := by omega
          have e : mm[x]? = some mm[x] := List.getElem?_eq_getElem hx'
          have e2 : nx mm x = mm[x] := by unfold nx; rw [List.getD_eq_getElem?_getD, e]; rfl
          exact ⟨by rw [e, e2], by rw [e2]; exact hlt _ (List.getElem_mem hx')⟩
        have bad : ∀ (z zb : List Nat), Row n z → ∀ i, i < n → nx mm (nx z i) ≠ nx zb (nx mm i) → keepsB z zb mm = false := fun z zb rz i hi hne => by
          unfold keepsB
          rw [List.all_eq_false]
          exact ⟨i, List.mem_range.mpr (by rw [rz.len]; exact hi), by simpa using hne⟩
        refine ⟨_, rfl, l, rfl, ⟨_, SqL.of hl'⟩, for_en (xs := nv mm) (fun i σ H2 => ∃ o3 o4, σ = [some (.ref a), some (.ref b), some (.ref l), o3, o4] ∧ Same H1 H2 ∧ ∀ x, x < i → nx mm (nx r x) = nx rb (nx mm x) ∧ nx mm (nx u x) = nx ub (nx mm x)) ⟨_, _, rfl, Same.refl _, fun x hx => absurd hx (by omega)⟩ (fun i σ H2 _ ⟨_, _, _, s2, _⟩ => SqL.of (s2 _ _ hl')) ?_ ?_⟩
        · rintro i x σ H2 T' hx hT ⟨o3, o4, rfl, s2, hall2⟩
          obtain ⟨y, hy, rfl⟩ := nv_get' hx
          have hi : i < n := by rw [← hml]; exact (List.getElem?_eq_some_iff.mp hy).1
          obtain ⟨g1, g2⟩ := gm i hi
          have ey : y = nx mm i := by rw [g1] at hy; exact (Option.some.inj hy).symm
          subst ey
          have sT := s2.trans (same_upd (o := tupE T' [.int (i : Int), .int ((nx mm i : Nat) : Int)]) (Same.refl H2) hT)
          refine ⟨T', _, rfl, upd_same, rfl, _, _, rfl, _, _, rfl, rfl, ?_⟩
          revert sT
          generalize (upd H2 T' (tupE T' [.int (i : Int), .int ((nx mm i : Nat) : Int)])) = H3
          intro sT
          have s03 := s1.trans sT
          obtain ⟨g3, _⟩ := gm (nx r i) (rr.nlt hi)
          obtain ⟨g4, _⟩ := gm (nx u i) (ru.nlt hi)
          refine ⟨_, rfl, _, rfl, a, _, 0, _, rfl, rfl, SqT.of (s03 _ _ h1), atI_nat (j := 0) rfl, _, rfl, p, _, _, _, rfl, rfl, SqT.of (s03 _ _ h2), atI_nat (nv_get (rr.get hi)), l, _, _, _, rfl, rfl, SqL.of (sT _ _ hl'), atI_nat (nv_get g3), ?_⟩
          refine ⟨_, rfl, b, _, 0, _, rfl, rfl, SqT.of (s03 _ _ h1b), atI_nat (j := 0) rfl, _, rfl, pb, _, _, _, rfl, rfl, SqT.of (s03 _ _ h2b), atI_nat (nv_get (rrb.get g2)), rfl, _, rfl, ?_⟩
          by_cases c1 : nx mm (nx r i) = nx rb (nx mm i)
          · refine iteNS (by rw [c1]) ?_
            refine ⟨_, rfl, _, rfl, a, _, 1, _, rfl, rfl, SqT.of (s03 _ _ h1), atI_nat (j := 1) rfl, _, rfl, q, _, _, _, rfl, rfl, SqT.of (s03 _ _ h3), atI_nat (nv_get (ru.get hi)), l, _, _, _, rfl, rfl, SqL.of (sT _ _ hl'), atI_nat (nv_get g4), ?_⟩
            refine ⟨_, rfl, b, _, 1, _, rfl, rfl, SqT.of (s03 _ _ h1b), atI_nat (j := 1) rfl, _, rfl, qb, _, _, _, rfl, rfl, SqT.of (s03 _ _ h3b), atI_nat (nv_get (rub.get g2)), rfl, _, rfl, ?_⟩
            by_cases c2 : nx mm (nx u i) = nx ub (nx mm i)
            · refine iteNS (by rw [c2]) ?_
              refine ⟨_, _, rfl, sT, fun x hx => ?_⟩
              rcases Nat.lt_or_ge x i with c | c
              · exact hall2 x c
              · have : x = i := by omega
                subst this; exact ⟨c1, c2⟩
            · rw [decide_eq_false (fun z => c2 (by have := V.int.inj z; omega))]
              refine iteT ?_
              have := k H3 s03
              rw [eB, bad u ub ru i hi c2, Bool.and_false] at this
              exact this
          · rw [decide_eq_false (fun z => c1 (by have := V.int.inj z; omega))]
            refine iteT ?_
            have := k H3 s03
            rw [eB, bad r rb rr i hi c1, Bool.false_and] at this
            exact this
        · rintro σ H2 ⟨o3, o4, rfl, s2, hall2⟩
          rw [nv_len, hml] at hall2
          have := k H2 (s1.trans s2)
          have good : ∀ (z zb : List Nat), Row n z → (∀ i, i < n → nx mm (nx z i) = nx zb (nx mm i)) → keepsB z zb mm = true := fun z zb rz hg => by
            unfold keepsB
            rw [List.all_eq_true]
            intro i hi
            exact decide_eq_true (hg i (by rw [← rz.len]; exact List.mem_range.mp hi))
          rw [eB, good r rb rr fun i hi => (hall2 i hi).1, good u ub ru fun i hi => (hall2 i hi).2] at this
          exact this
    · rw [decide_eq_false (fun z => e (by have := V.int.inj z; omega))]
      refine iteT ?_
      have := k H (Same.refl _)
      unfold mapB at this
      rw [decide_eq_false e] at this
      exact this
end
end K1
namespace K1
open PySem L2 Sq
def spBackRow : Sp := fun vs H Q _ => ∃ (p : Addr) (n : Nat) (r : List Nat), vs = [.ref p] ∧ H p = some (.tup (nv r)) ∧ Row n r ∧ n ≤ 36 ∧ ∀ (H' : Hp) (l : Addr), Same H H' → H' l = some (.tup (nv (back r))) → Q (.ref l) H'
section
variable {P : Program} {w : World} {K : PySem.W.Frag} {mg : Str → Option Value} {base : Heap}
theorem scBackRow : FnScope ["row", "back", "square", "target"] ["row"] (defScope sBackRow) := ⟨rfl, rfl, rfl, by decide +kernel, rfl, by decide +kernel, by decide +kernel⟩
theorem ok_backRow {f : Addr} {fd : FuncData} (T : Bi mg) (F : Fn K mg "back_row" sBackRow ["row"] f fd) : FnOk P w K mg base CX0 1 f fd ["row"] spBackRow := by
  refine F.F.ok scBackRow (fun vs H Q E h => ?_) (fun cdv A outer s H vs Q E hr h => ?_)
  · obtain ⟨p, n, r, rfl, _⟩ := h; rfl
  · obtain ⟨p, n, r, rfl, hp, rr, hn, k⟩ := h
    refine ⟨_, pss_cons (ps_set (i := 1) scBackRow.nd rfl (Or.inl rfl) (pe_callTy call_list_of rfl T.list boot_list (pa_cons (pv 0) pa_nil)))
      (pss_cons (ps_for PassesOwn.never rfl (pi_enumT rfl T.enum (pa_cons (pv 0) pa_nil)) (pg_tupE rfl (pgs_cons (pg_name (i := 2) scBackRow.nd rfl (Or.inl rfl)) (pgs_cons (pg_name (i := 3) scBackRow.nd rfl (Or.inl rfl)) pgs_nil)))
        (pss_one (ps_lput (pv 1) (pv 3) (pv 2) rfl)))
      (pss_one (ps_ret (pe_callTy call_tuple_of rfl T.tuple boot_tuple (pa_cons (pv 1) pa_nil))))), ?_⟩
    refine ⟨_, rfl, p, _, rfl, .inr (SqT.of hp), fun lb hlb => ?_⟩
    have s1 : Same H (upd H lb (.lst (nv r))) := same_upd (Same.refl H) hlb
    refine ⟨_, rfl, p, rfl, ⟨_, SqT.of (s1 _ _ hp)⟩, for_en (xs := nv r) (fun i σ H2 => ∃ o2 o3 bl, σ = [some (.ref p), some (.ref lb), o2, o3] ∧ Same H H2 ∧ H2 lb = some (.lst (nv bl)) ∧ bl.length = n ∧ ∀ k, k < i → bl[nx r k]? = some k)
      ⟨_, _, r, rfl, s1, upd_same, rr.len, fun k hk => absurd hk (Nat.not_lt_zero _)⟩ (fun i σ H2 _ ⟨_, _, _, _, s2, _⟩ => SqT.of (s2 _ _ hp)) ?_ ?_⟩
    · rintro i x σ H2 T' hx hT ⟨o2, o3, bl, rfl, s2, h2, hbl, hall⟩
      obtain ⟨y, hy, rfl⟩ := nv_get' hx
      have hi : i < n := by rw [← rr.len]; exact (List.getElem?_eq_some_iff.mp hy).1
      have ey : y = nx r i := by have := rr.get hi; rw [hy] at this; exact Option.some.inj this
      have hyn : y < n := by rw [ey]; exact rr.nlt hi
      have h2' : (upd H2 T' (tupE T' [.int (i : Int), .int (y : Int)])) lb = some (.lst (nv bl)) := by rw [upd_ne (ne_of_none h2 hT)]; exact h2
      refine ⟨T', _, rfl, upd_same, rfl, _, _, rfl, _, _, rfl, rfl, ?_⟩
      refine ⟨_, rfl, _, rfl, _, rfl, lb, _, _, y, rfl, rfl, h2', ?_, ?_⟩
      · unfold ixN
        rw [if_pos (by omega), if_pos (by rw [nv_len, hbl]; omega)]
        simp
      refine ⟨_, _, bl.set y i, rfl, same_upd (same_upd s2 (s2.free hT)) hlb, by rw [upd_same, nv_set], by rw [List.length_set]; exact hbl, fun k hk => ?_⟩
      rcases Nat.lt_or_ge k i with c | c
      · have hne : y ≠ nx r k := fun z => by
          rw [ey] at z
          have := rr.inj hi (by omega) z
          omega
        rw [List.getElem?_set_ne hne]
        exact hall k c
      · have : k = i := by omega
        subst this
        rw [← ey, List.getElem?_set_self (by rw [hbl]; exact hyn)]
    · rintro σ H2 ⟨o2, o3, bl, rfl, s2, h2, hbl, hall⟩
      rw [nv_len, rr.len] at hall
      have e := back_fill rr hbl hall
      subst e
      refine ⟨_, rfl, lb, _, rfl, .inl ⟨SqL.of h2, fun l hl => k _ l (same_upd s2 (s2.free hl)) upd_same⟩⟩
end
end K1
namespace K1
open PySem L2 Sq
/-- the dict of the four rows -/
def sts (p0 p1 p2 p3 : Addr) : List (Key × V) := [(Sum.inr "r", .ref p0), (Sum.inr "l", .ref p1), (Sum.inr "u", .ref p2), (Sum.inr "d", .ref p3)]
def spSteps : Sp := fun vs H Q _ => ∃ (a : Addr) (n : Nat) (r u : List Nat), vs = [.ref a] ∧ ShAt H a r u ∧ Row n r ∧ Row n u ∧ n ≤ 36 ∧ ∀ (H' : Hp) (d p0 p1 p2 p3 : Addr), Same H H' → H d = none → H' d = some (.dK (sts p0 p1 p2 p3)) →
  H' p0 = some (.tup (nv (rw4 r u 0))) → H' p1 = some (.tup (nv (rw4 r u 1))) → H' p2 = some (.tup (nv (rw4 r u 2))) → H' p3 = some (.tup (nv (rw4 r u 3))) → Q (.ref d) H'
section
variable {P : Program} {w : World} {K : PySem.W.Frag} {mg : Str → Option Value} {base : Heap}
theorem scSteps : FnScope ["rows"] ["rows"] (defScope sSteps) := ⟨rfl, rfl, rfl, by decide +kernel, rfl, by decide +kernel, by decide +kernel⟩
theorem merge4 (p0 p1 p2 p3 : Addr) : mergeK [] (sts p0 p1 p2 p3) = sts p0 p1 p2 p3 := by
  have n1 : ¬ ((Sum.inr ("r" : Str) : Key) = Sum.inr ("l" : Str)) := by decide +kernel
  have n2 : ¬ ((Sum.inr ("r" : Str) : Key) = Sum.inr ("u" : Str)) := by decide +kernel
  have n3 : ¬ ((Sum.inr ("r" : Str) : Key) = Sum.inr ("d" : Str)) := by decide +kernel
  have n4 : ¬ ((Sum.inr ("l" : Str) : Key) = Sum.inr ("u" : Str)) := by decide +kernel
  have n5 : ¬ ((Sum.inr ("l" : Str) : Key) = Sum.inr ("d" : Str)) := by decide +kernel
  have n6 : ¬ ((Sum.inr ("u" : Str) : Key) = Sum.inr ("d" : Str)) := by decide +kernel
  show putK (putK (putK (putK [] (Sum.inr ("r" : Str) : Key) (V.ref p0)) (Sum.inr ("l" : Str) : Key) (V.ref p1)) (Sum.inr ("u" : Str) : Key) (V.ref p2)) (Sum.inr ("d" : Str) : Key) (V.ref p3) = _
  rw [putK_new (kvs := []) _ rfl]
  rw [putK_new (k := (Sum.inr ("l" : Str) : Key)) _ (by show valV [((Sum.inr ("r" : Str) : Key), V.ref p0)] _ = none; rw [valV_neg n1]; rfl)]
  rw [putK_new (k := (Sum.inr ("u" : Str) : Key)) _ (by show valV [((Sum.inr ("r" : Str) : Key), V.ref p0), (Sum.inr ("l" : Str), V.ref p1)] _ = none; rw [valV_neg n2, valV_neg n4]; rfl)]
  rw [putK_new (k := (Sum.inr ("d" : Str) : Key)) _ (by show valV [((Sum.inr ("r" : Str) : Key), V.ref p0), (Sum.inr ("l" : Str), V.ref p1), (Sum.inr ("u" : Str), V.ref p2)] _ = none; rw [valV_neg n3, valV_neg n5, valV_neg n6]; rfl)]
  rfl
theorem ok_steps {f fb : Addr} {fd fdb : FuncData} (F : Fn K mg "step_rows" sSteps ["rows"] f fd) (FB : Fn K mg "back_row" sBackRow ["row"] fb fdb) (GB : FnOk P w K mg base CX0 1 fb fdb ["row"] spBackRow) :
    FnOk P w K mg base CX0 2 f fd ["rows"] spSteps := by
  refine F.F.ok scSteps (fun vs H Q E h => ?_) (fun cdv A outer s H vs Q E hr h => ?_)
  · obtain ⟨a, n, r, u, rfl, _⟩ := h; rfl
  · obtain ⟨a, n, r, u, rfl, ⟨p, q, h1, h2, h3⟩, rr, ru, hn, k⟩ := h
    refine ⟨_, pss_one (ps_ret (pe_disp (pps_cons pe_str (pe_ix ix_tup (pv 0) pe_int (fun _ _ => rfl)) (pps_cons pe_str (pe_call GB hr rfl FB.m FB.F.kp FB.b .nil pass0 (pa_cons (pe_ix ix_tup (pv 0) pe_int (fun _ _ => rfl)) pa_nil))
      (pps_cons pe_str (pe_ix ix_tup (pv 0) pe_int (fun _ _ => rfl)) (pps_cons pe_str (pe_call GB hr rfl FB.m FB.F.kp FB.b .nil pass0 (pa_cons (pe_ix ix_tup (pv 0) pe_int (fun _ _ => rfl)) pa_nil)) pps_nil)))) rfl rfl (by simp) (by decide))), ?_⟩
    intro d hd
    have s0 : Same H (upd H d (.dK [])) := same_upd (Same.refl H) hd
    refine ⟨_, rfl, a, _, 0, _, rfl, rfl, SqT.of (s0 _ _ h1), atI_nat (j := 0) rfl, ?_⟩
    refine ⟨_, rfl, a, _, 0, _, rfl, rfl, SqT.of (s0 _ _ h1), atI_nat (j := 0) rfl, p, n, r, rfl, s0 _ _ h2, rr, hn, fun H1 l1 s1 hl1 => ?_⟩
    have s01 := s0.trans s1
    refine ⟨_, rfl, a, _, 1, _, rfl, rfl, SqT.of (s01 _ _ h1), atI_nat (j := 1) rfl, ?_⟩
    refine ⟨_, rfl, a, _, 1, _, rfl, rfl, SqT.of (s01 _ _ h1), atI_nat (j := 1) rfl, q, n, u, rfl, s01 _ _ h3, ru, hn, fun H2 l2 s2 hl2 => ?_⟩
    have s02 := s01.trans s2
    have hd2 : H2 d = some (.dK []) := s2 _ _ (s1 _ _ upd_same)
    refine ⟨hd2, sts p l1 q l2, rfl, by show 4 ≤ 15; decide, ?_⟩
    rw [merge4]
    have ne : ∀ b ys, H2 b = some (.tup ys) → (upd H2 d (.dK (sts p l1 q l2))) b = some (.tup ys) := fun b ys e => by
      rw [upd_ne (ne_of e hd2 (by intro z; cases z))]; exact e
    exact k _ d p l1 q l2 (same_upd s02 hd) hd upd_same (ne _ _ (s02 _ _ h2)) (ne _ _ (s2 _ _ hl1)) (ne _ _ (s02 _ _ h3)) (ne _ _ hl2)
end
end K1
namespace K1
open PySem L2 Sq
def lcode (c : Nat) : Nat := match c with
  | 0 => 114
  | 1 => 108
  | 2 => 117
  | _ => 100
def pth (p : List Nat) : Str := ⟨(p.map lcode).toArray⟩
theorem pth_nil : ("" : Str) = pth [] := by decide +kernel
theorem ltr0 : ("r" : Str) = pth [0] := by decide +kernel
theorem ltr1 : ("l" : Str) = pth [1] := by decide +kernel
theorem ltr2 : ("u" : Str) = pth [2] := by decide +kernel
theorem ltr3 : ("d" : Str) = pth [3] := by decide +kernel
theorem pth_snoc (p : List Nat) (c : Nat) : pth p ++ pth [c] = pth (p ++ [c]) := by
  show Str.mk ((p.map lcode).toArray ++ ([c].map lcode).toArray) = Str.mk _
  simp
theorem pth_len (p : List Nat) : (pth p).length = p.length := by
  show (p.map lcode).toArray.size = _
  simp
theorem sts_get {p0 p1 p2 p3 : Addr} {i : Nat} {k : Key} {v : V} (h : (sts p0 p1 p2 p3)[i]? = some (k, v)) : i < 4 ∧ k = Sum.inr (pth [i]) ∧ ∃ p, v = .ref p ∧ [p0, p1, p2, p3][i]? = some p := by
  match i, h with
  | 0, h => cases h; exact ⟨by decide, by rw [← ltr0], _, rfl, rfl⟩
  | 1, h => cases h; exact ⟨by decide, by rw [← ltr1], _, rfl, rfl⟩
  | 2, h => cases h; exact ⟨by decide, by rw [← ltr2], _, rfl, rfl⟩
  | 3, h => cases h; exact ⟨by decide, by rw [← ltr3], _, rfl, rfl⟩
  | i + 4, h => cases h
end K1
namespace K1
open PySem L2 Sq
def isSq (n : Nat) (i : Int) : Bool := decide (0 ≤ i ∧ i < (n : Int))
def spNeed (CN : Addr) : Sp := fun vs H Q E => ∃ (a : Addr) (r u : List Nat) (i : Int), vs = [.ref a, .int i] ∧ ShAt H a r u ∧ (isSq r.length i = true → Q .non H) ∧ (isSq r.length i = false → E (.ref CN) none H)
section
variable {P : Program} {w : World} {K : PySem.W.Frag} {mg : Str → Option Value} {base : Heap}
theorem scNeed : FnScope ["sheet", "square"] ["sheet", "square"] (defScope sNeed) := ⟨rfl, rfl, rfl, by decide +kernel, rfl, by decide +kernel, by decide +kernel⟩
theorem ok_need {f fz fq CN : Addr} {fd fdz fdq : FuncData} (hC : ExCls K CN) (hm : mg "NoSquare" = some (.ref CN)) (F : Fn K mg "need_square" sNeed ["sheet", "square"] f fd) (FZ : Fn K mg "size" sSize ["sheet"] fz fdz) (GZ : FnOk P w K mg base CX0 1 fz fdz ["sheet"] spSize)
    (FQ : Fn K mg "is_square" sIsSq ["thing", "squares"] fq fdq) (GQ : FnOk P w K mg base CX0 2 fq fdq ["thing", "squares"] spIsSq) : FnOk P w K mg base (CX1 P w) 3 f fd ["sheet", "square"] (spNeed CN) := by
  refine F.F.ok1 scNeed (fun vs H Q E h => ?_) (fun cdv A outer s H vs Q E hr h => ?_)
  · obtain ⟨a, r, u, i, rfl, _⟩ := h; rfl
  · obtain ⟨a, r, u, i, rfl, hsh, k1, k2⟩ := h
    have hr1 : Room 1 _ := hr.mono (by decide)
    refine ⟨_, pss_one (ps_if (pt_not (pt_val (pe_call GQ hr rfl FQ.m FQ.F.kp FQ.b .nil pass0 (pa_cons (pv 1) (pa_cons (pe_call GZ hr1 rfl FZ.m FZ.F.kp FZ.b .nil pass0 (pa_cons (pv 0) pa_nil)) pa_nil)))))
      (pss_one (ps_raise rfl hC rfl hm throw1 (pa_cons pe_str pa_nil))) pss_nil), ?_⟩
    refine ⟨_, rfl, _, rfl, a, r, u, rfl, hsh, i, _, rfl, ?_⟩
    refine ⟨_, rfl, ?_⟩
    cases hb : decide (0 ≤ i ∧ i < (r.length : Int)) with
    | true =>
      refine iteF ?_
      exact k1 hb
    | false =>
      refine iteT ?_
      exact ⟨by show 1 ≤ sizeLine; decide, k2 hb⟩
end
end K1
namespace Sq
open PySem
def txt (l : List Nat) : Str := ⟨l.toArray⟩
theorem txt_len (l : List Nat) : (txt l).length = l.length := by simp [txt, Str.length]
theorem txt_cps (l : List Nat) : (txt l).cps.toList = l := by simp [txt]
theorem txt_inj {a b : List Nat} (h : txt a = txt b) : a = b := by rw [← txt_cps a, h, txt_cps]
theorem txt_get (l : List Nat) (i : Nat) : (txt l).cps[i]? = l[i]? := by simp [txt]
end Sq
namespace K1
open PySem L2 Sq
def isLt (c : Nat) : Bool := c == 114 || c == 108 || c == 117 || c == 100
theorem key0 : ("r" : Str) = txt [114] := by decide +kernel
theorem key1 : ("l" : Str) = txt [108] := by decide +kernel
theorem key2 : ("u" : Str) = txt [117] := by decide +kernel
theorem key3 : ("d" : Str) = txt [100] := by decide +kernel
theorem txt1 {c d : Nat} : ((Sum.inr (txt [c]) : Key) = Sum.inr (txt [d])) ↔ c = d := by
  constructor
  · intro h
    have := txt_inj (Sum.inr.inj h)
    simpa using this
  · intro h; rw [h]
theorem sts_is (p0 p1 p2 p3 : Addr) (c : Nat) : (valV (sts p0 p1 p2 p3) (Sum.inr (txt [c]) : Key)).isSome = isLt c := by
  unfold sts
  rw [key0, key1, key2, key3]
  unfold isLt
  by_cases h0 : c = 114
  · subst h0; rw [valV_pos rfl]; rfl
  rw [valV_neg (fun z => h0 (txt1.mp z).symm)]
  by_cases h1 : c = 108
  · subst h1; rw [valV_pos rfl]; rfl
  rw [valV_neg (fun z => h1 (txt1.mp z).symm)]
  by_cases h2 : c = 117
  · subst h2; rw [valV_pos rfl]; rfl
  rw [valV_neg (fun z => h2 (txt1.mp z).symm)]
  by_cases h3 : c = 100
  · subst h3; rw [valV_pos rfl]; rfl
  rw [valV_neg (fun z => h3 (txt1.mp z).symm)]
  simp [valV, h0, h1, h2, h3]
theorem sts_at {p0 p1 p2 p3 : Addr} : ∀ {l : Nat}, l < 4 → ∃ p, valV (sts p0 p1 p2 p3) (Sum.inr (txt [lcode l]) : Key) = some (.ref p) ∧ [p0, p1, p2, p3][l]? = some p := by
  intro l hl
  unfold sts
  rw [key0, key1, key2, key3]
  match l, hl with
  | 0, _ => exact ⟨p0, valV_pos rfl, rfl⟩
  | 1, _ => exact ⟨p1, by rw [valV_neg (fun z => absurd (txt1.mp z) (by decide))]; exact valV_pos rfl, rfl⟩
  | 2, _ => exact ⟨p2, by rw [valV_neg (fun z => absurd (txt1.mp z) (by decide)), valV_neg (fun z => absurd (txt1.mp z) (by decide))]; exact valV_pos rfl, rfl⟩
  | 3, _ => exact ⟨p3, by rw [valV_neg (fun z => absurd (txt1.mp z) (by decide)), valV_neg (fun z => absurd (txt1.mp z) (by decide)), valV_neg (fun z => absurd (txt1.mp z) (by decide))]; exact valV_pos rfl, rfl⟩
theorem isLt_code : ∀ {l : Nat}, isLt (lcode l) = true
  | 0 => rfl
  | 1 => rfl
  | 2 => rfl
  | _ + 3 => rfl
theorem all_lt (p : List Nat) : (p.map lcode).all isLt = true := by
  rw [List.all_map, List.all_eq_true]
  intro x _
  exact isLt_code
theorem small100k {n : Nat} (h : n ≤ 100000) : n < sizeLine := Nat.lt_of_le_of_lt h (by decide)
theorem cpostB {n : Nat} {ys : List V} {Pv : Nat → St → Hp → Prop} {d : Addr} {i : Nat} {σ3 : St} {y : V} {H4 : Hp} (hi : i < n) (hn : n ≤ 100000) (hd : H4 d = some (.lst (ys.take i))) (hy : ys[i]? = some y) (hp : Pv (i + 1) σ3 (upd H4 d (.lst (ys.take (i + 1))))) :
    CPost n ys Pv d i σ3 y H4 := by
  have e : ys.take (i + 1) = ys.take i ++ [y] := by rw [List.take_add_one, hy]; rfl
  refine ⟨_, hd, ?_, n - (i + 1), by omega, rfl, hi, by rw [← e]; exact hp, by rw [upd_same, e]⟩
  have : (ys.take i).length ≤ i := by rw [List.length_take]; exact Nat.min_le_left _ _
  exact small100k (by omega)
def spGone (CN CW : Addr) : Sp := fun vs H Q E => ∃ (a : Addr) (n : Nat) (r u : List Nat) (i : Int) (z : List Nat), vs = [.ref a, .int i, .str (txt z)] ∧ ShAt H a r u ∧ Row n r ∧ Row n u ∧ n ≤ 36 ∧ z.length ≤ 100000 ∧
  (isSq n i = false → E (.ref CN) none H) ∧ (∀ x : Nat, i = (x : Int) → x < n → z.all isLt = false → ∀ H' : Hp, Same H H' → E (.ref CW) none H') ∧
  (∀ (x : Nat) (p : List Nat), i = (x : Int) → x < n → (∀ c ∈ p, c < 4) → z = p.map lcode → ∀ H' : Hp, Same H H' → Q (.int (go r u x p : Int)) H')
theorem go_snoc' (r u : List Nat) (x : Nat) (p : List Nat) (c : Nat) : go r u x (p ++ [c]) = nx (rw4 r u c) (go r u x p) := by
  unfold go; rw [List.foldl_append]; rfl
theorem go_lt' {n : Nat} {r u : List Nat} (rr : Row n r) (ru : Row n u) : ∀ (p : List Nat) (x : Nat), x < n → go r u x p < n
  | [], x, h => h
  | c :: p, x, h => by
    show go r u (nx (rw4 r u c) x) p < n
    exact go_lt' rr ru p _ ((rw4_row rr ru c).nlt h)
section
variable {P : Program} {w : World} {K : PySem.W.Frag} {mg : Str → Option Value} {base : Heap}
theorem compLt {Hc : Hp} {d0 p0 p1 p2 p3 : Addr} {z : List Nat} {Q : VK} {σ : St} (hz : z.length ≤ 100000) (h2 : σ[2]? = some (some (.str (txt z)))) (hb : bst 1 [3] σ = [none, some (.ref d0)]) (hd0 : Hc d0 = some (.dK (sts p0 p1 p2 p3)))
    (k : ∀ (H' : Hp) (d : Addr), Same Hc H' → H' d0 = some (.dK (sts p0 p1 p2 p3)) → H' d = some (.lst ((z.map isLt).map V.bl)) → Q (.ref d) H') :
    tComp (iStr (tVar 2)) 1 [3] (gName 0) (tDIn (tVar 0) (tVar 1)) σ Hc Q := by
  refine ⟨_, h2, txt z, rfl, fun d hd => ?_⟩
  rw [hb]
  have hdd : d0 ≠ d := ne_of_none hd0 hd
  refine comp_by (Q := fun d H' => Q (.ref d) H') z.length ((z.map isLt).map V.bl) (by simp) (fun i σ H3 => ∃ o, σ = [o, some (.ref d0)] ∧ Same Hc H3 ∧ H3 d0 = some (.dK (sts p0 p1 p2 p3))) ⟨_, rfl, same_upd (Same.refl _) hd, by rw [upd_ne hdd]; exact hd0⟩ ?_ ?_
  · rintro i σ H3 hi ⟨o, rfl, s3, h3⟩ hd3
    refine ⟨by show i < (txt z).length; rw [txt_len]; exact hi, fun x H4 ⟨e1, c, hc, e2⟩ => ?_⟩
    subst e1 e2
    rw [txt_get] at hc
    refine ⟨_, rfl, _, rfl, d0, _, rfl, DGet.k (k := (Sum.inr (txt [c]) : Key)) h3, ?_⟩
    rw [sts_is]
    exact cpostB hi hz hd3 (by simp [hc]) ⟨_, rfl, same_upd s3 hd, by rw [upd_ne hdd]; exact h3⟩
  · rintro σ H3 ⟨o, rfl, s3, h3⟩ hd3
    exact ⟨by show (txt z).length = z.length; rw [txt_len], k H3 d s3 h3 hd3⟩
abbrev nGone : List Str := ["sheet", "square", "path", "steps", "here", "letter"]
theorem scGone : FnScope nGone ["sheet", "square", "path"] (defScope sGone) := ⟨rfl, rfl, rfl, by decide +kernel, rfl, by decide +kernel, by decide +kernel⟩
theorem ndLS : (["letter", "steps"] : List Str).Nodup := by decide +kernel
theorem ok_gone {f fn fs CN CW : Addr} {fd fdn fds : FuncData} (T : Bi mg) (hC : ExCls K CW) (hm : mg "NoWord" = some (.ref CW)) (F : Fn K mg "gone" sGone ["sheet", "square", "path"] f fd) (FN : Fn K mg "need_square" sNeed ["sheet", "square"] fn fdn) (GN : FnOk P w K mg base (CX1 P w) 3 fn fdn ["sheet", "square"] (spNeed CN))
    (FS : Fn K mg "step_rows" sSteps ["rows"] fs fds) (GS : FnOk P w K mg base CX0 2 fs fds ["rows"] spSteps) : FnOk P w K mg base (CX1 P w) 4 f fd ["sheet", "square", "path"] (spGone CN CW) := by
  refine F.F.ok1 scGone (fun vs H Q E h => ?_) (fun cdv A outer s H vs Q E hr h => ?_)
  · obtain ⟨a, n, r, u, i, z, rfl, _⟩ := h; rfl
  · obtain ⟨a, n, r, u, i, z, rfl, hsh, rr, ru, hn, hz, k1, k2, k3⟩ := h
    have hu := hu_of hr
    have hr2 : Room 2 _ := hr.mono (by decide)
    refine ⟨_, pss_cons (ps_expr (pe_call GN hr rfl FN.m FN.F.kp FN.b .nil (pass1 fun _ _ _ z => z) (pa_cons (pv 0) (pa_cons (pv 1) pa_nil))))
      (pss_cons (ps_set (i := 3) scGone.nd rfl (Or.inr rfl) (pe_call GS hr2 rfl FS.m FS.F.kp FS.b .nil pass0 (pa_cons (pv 0) pa_nil)))
      (pss_cons (ps_if (pt_not (pt_val (pe_callB (call_all_bools rfl) (by rfl) T.all boot_all (pa_cons
          (pe_comp (N := nGone) (names := (defScope sGone).names) (N' := ["letter", "steps"]) (k := 1) (pull := [3]) (te := tDIn (tVar 0) (tVar 1)) rfl
            ⟨by rfl, by decide +kernel, by decide +kernel, by rfl, by decide +kernel, by decide +kernel⟩ rfl rfl (pi_str (pv 2)) (fun _ _ _ _ _ _ => pg_name (i := 0) ndLS rfl (Or.inl rfl))
            (fun _ _ _ _ _ _ => pe_cmp (pc_din hu (pv 0) (pv 1)))) pa_nil)))) (pss_one (ps_raise rfl hC rfl hm throw1 (pa_cons pe_str pa_nil))) pss_nil)
      (PSs.nox (pss_cons (ps_set (i := 4) scGone.nd rfl (Or.inl rfl) (pv 1))
      (pss_cons (ps_for PassesOwn.never rfl (pi_str (pv 2)) (pg_name (i := 5) scGone.nd rfl (Or.inl rfl))
        (pss_one (ps_set (i := 4) scGone.nd rfl (Or.inl rfl) (pe_ix ix_tup (pe_dget hu (pv 3) (pv 5) (fun _ _ => rfl)) (pv 4) (fun _ _ => rfl)))))
      (pss_one (ps_ret (pv 4)))))))), ?_⟩
    refine ⟨_, rfl, _, rfl, a, r, u, i, rfl, hsh, fun hi => ?_, fun hi => k1 (by rw [← rr.len]; exact hi)⟩
    rw [rr.len] at hi
    have hi := of_decide_eq_true hi
    obtain ⟨x, rfl⟩ := Int.eq_ofNat_of_zero_le hi.1
    have hx : x < n := by omega
    refine ⟨_, rfl, a, n, r, u, rfl, hsh, rr, ru, hn, fun H1 d p0 p1 p2 p3 s1 hd hd1 q0 q1 q2 q3 => ?_⟩
    dsimp only [tNext, tSeq, tIfS, tNot, tB, tCB, tCons, gName]
    refine compLt hz rfl rfl hd1 fun H2 l s2 hd2 hl => ?_
    have s12 := s1.trans s2
    refine ⟨l, _, rfl, SqL.of hl, _, rfl, ?_⟩
    have eall : ((z.map isLt).all id) = z.all isLt := by rw [List.all_map]; rfl
    rw [eall]
    cases ha : z.all isLt with
    | false =>
      refine iteT ?_
      exact ⟨by show 1 ≤ sizeLine; decide, k2 x rfl hx ha H2 s12⟩
    | true =>
      refine iteF ?_
      obtain ⟨p, hp4, rfl⟩ : ∃ p : List Nat, (∀ c ∈ p, c < 4) ∧ z = p.map lcode := by
        clear hz k1 k2 k3 hl eall
        induction z with
        | nil => exact ⟨[], by simp, rfl⟩
        | cons c z ih =>
          rw [List.all_cons, Bool.and_eq_true] at ha
          obtain ⟨p, h1, rfl⟩ := ih ha.2
          have : ∃ l, l < 4 ∧ c = lcode l := by
            have h0 := ha.1
            unfold isLt at h0
            simp only [Bool.or_eq_true, beq_iff_eq] at h0
            rcases h0 with ((h0 | h0) | h0) | h0
            · exact ⟨0, by decide, h0⟩
            · exact ⟨1, by decide, h0⟩
            · exact ⟨2, by decide, h0⟩
            · exact ⟨3, by decide, h0⟩
          obtain ⟨l, hl, rfl⟩ := this
          exact ⟨l :: p, by intro y hy; rcases List.mem_cons.mp hy with e | e; exact e ▸ hl; exact h1 y e, rfl⟩
      have tp : ∀ l p', [p0, p1, p2, p3][l]? = some p' → H2 p' = some (.tup (nv (rw4 r u l))) := by
        intro l p' e
        match l, e with
        | 0, e => cases e; exact s2 _ _ q0
        | 1, e => cases e; exact s2 _ _ q1
        | 2, e => cases e; exact s2 _ _ q2
        | 3, e => cases e; exact s2 _ _ q3
        | l + 4, e => cases e
      refine ⟨_, rfl, ?_⟩
      refine ⟨_, rfl, _, rfl, for_str (fun i σ H3 => H3 = H2 ∧ ∃ o5, σ = [some (.ref a), some (.int (x : Int)), some (.str (txt (p.map lcode))), some (.ref d), some (.int (go r u x (p.take i) : Int)), o5]) ⟨rfl, _, rfl⟩ ?_ ?_⟩
      · rintro i c σ H3 hc ⟨rfl, o5, rfl⟩
        rw [txt_get, List.getElem?_map] at hc
        cases e : p[i]? with
        | none => rw [e] at hc; cases hc
        | some l =>
          rw [e] at hc
          have hc : lcode l = c := by simpa using hc
          subst hc
          have hl4 := hp4 l (List.mem_of_getElem? e)
          obtain ⟨p', v1, v2⟩ := sts_at (p0 := p0) (p1 := p1) (p2 := p2) (p3 := p3) hl4
          have hg := DGet.k (k := (Sum.inr (txt [lcode l]) : Key)) hd2
          rw [v1] at hg
          have hlt := go_lt' rr ru (p.take i) x hx
          refine ⟨_, rfl, _, rfl, d, _, rfl, hg, _, rfl, p', _, _, _, rfl, rfl, SqT.of (tp l p' v2), atI_nat (nv_get ((rw4_row rr ru l).get hlt)), rfl, some (.str (txt [lcode l])), ?_⟩
          have : p.take (i + 1) = p.take i ++ [l] := by rw [List.take_add_one, e]; rfl
          rw [this, go_snoc']; rfl
      · rintro σ H3 ⟨rfl, o5, rfl⟩
        rw [txt_len, List.length_map, List.take_length]
        exact ⟨_, rfl, k3 x p rfl hx hp4 rfl H3 s12⟩
end
end K1
namespace K1
open PySem L2 Sq
/-- the dict of the squares found, with their paths -/
def pd (F : List Nat) (P : List (List Nat)) : List (Key × V) := (F.zip P).map fun xp => ((Sum.inl (xp.1 : Int) : Key), V.str (pth xp.2))
theorem pd_len {F : List Nat} {P : List (List Nat)} (h : P.length = F.length) : (pd F P).length = F.length := by simp [pd, h]
theorem pd_snoc {F : List Nat} {P : List (List Nat)} (h : P.length = F.length) (x : Nat) (p : List Nat) : pd (F ++ [x]) (P ++ [p]) = pd F P ++ [(Sum.inl (x : Int), V.str (pth p))] := by
  unfold pd
  rw [List.zip_append h.symm, List.map_append]; rfl
theorem pd_keys : ∀ {F : List Nat} {P : List (List Nat)}, P.length = F.length → (pd F P).map (·.1) = F.map fun (n : Nat) => (Sum.inl (n : Int) : Key)
  | [], _, _ => rfl
  | x :: F, [], h => by simp at h
  | x :: F, p :: P, h => by
    show (Sum.inl (x : Int) : Key) :: (pd F P).map (·.1) = _
    rw [pd_keys (by simpa using h)]; rfl
theorem pd_none {F : List Nat} {P : List (List Nat)} (h : P.length = F.length) {y : Nat} (hy : y ∉ F) : valV (pd F P) (Sum.inl (y : Int) : Key) = none := by
  cases e : valV (pd F P) (Sum.inl (y : Int) : Key) with
  | none => rfl
  | some v =>
    have := valV_in e
    rw [pd_keys h] at this
    obtain ⟨x, hx, ex⟩ := List.mem_map.mp this
    have : x = y := by have := Sum.inl.inj ex; omega
    exact absurd (this ▸ hx) hy
theorem pd_some : ∀ {F : List Nat} {P : List (List Nat)}, F.Nodup → ∀ {i x : Nat} {p : List Nat}, F[i]? = some x → P[i]? = some p → valV (pd F P) (Sum.inl (x : Int) : Key) = some (.str (pth p))
  | [], _, _, i, x, p, hx, _ => by simp at hx
  | y :: F, [], _, i, x, p, _, hp => by simp at hp
  | y :: F, q :: P, nd, 0, x, p, hx, hp => by
    simp at hx hp
    subst hx hp
    exact valV_pos rfl
  | y :: F, q :: P, nd, i + 1, x, p, hx, hp => by
    have nd' := List.nodup_cons.mp nd
    have hx' : F[i]? = some x := by simpa using hx
    have hne : y ≠ x := fun e => nd'.1 (e ▸ List.mem_of_getElem? hx')
    show valV ((((Sum.inl (y : Int) : Key), V.str (pth q))) :: pd F P) _ = _
    rw [valV_neg (fun e => hne (by have := Sum.inl.inj e; omega))]
    exact pd_some nd'.2 hx' (by simpa using hp)
def spPaths : Sp := fun vs H Q _ => ∃ (a : Addr) (n : Nat) (r u : List Nat) (f : Nat), vs = [.ref a, .int (f : Int)] ∧ ShAt H a r u ∧ Row n r ∧ Row n u ∧ n ≤ 36 ∧ f < n ∧
  ∀ (H' : Hp) (d : Addr) (F : List Nat) (P : List (List Nat)), Same H H' → H d = none → H' d = some (.dK (pd F P)) → PthAll n r u f F P → Q (.ref d) H'
/-- the four rows stand -/
def Rows4 (H : Hp) (r u : List Nat) (p0 p1 p2 p3 : Addr) : Prop := ∀ i p, [p0, p1, p2, p3][i]? = some p → H p = some (.tup (nv (rw4 r u i)))
/-- between two letters of a square -/
def PIn (n : Nat) (r u : List Nat) (f : Nat) (a ds dp lf : Addr) (kk x : Nat) (p0 p1 p2 p3 : Addr) (H : Hp) (o : Obj) (i : Nat) (σ : St) (H3 : Hp) : Prop :=
  ∃ (F1 : List Nat) (P1 : List (List Nat)) (o7 o8 : Option V), σ = [some (.ref a), some (.int (f : Int)), some (.ref ds), some (.ref dp), some (.ref lf), some (.int (kk : Int)), some (.int (x : Int)), o7, o8] ∧ Same H H3 ∧ H3 ds = some (.frz o (.dK (sts p0 p1 p2 p3))) ∧ Rows4 H3 r u p0 p1 p2 p3 ∧
    H3 dp = some (.dK (pd F1 P1)) ∧ H3 lf = some (.lst (nv F1)) ∧ Pth n r u f F1 P1 kk i ∧ F1[kk]? = some x
section
variable {P : Program} {w : World} {K : PySem.W.Frag} {mg : Str → Option Value} {base : Heap}
theorem scPaths : FnScope ["rows", "first", "steps", "paths", "found", "done", "here", "letter", "row"] ["rows", "first"] (defScope sPaths) := ⟨rfl, rfl, rfl, by decide +kernel, rfl, by decide +kernel, by decide +kernel⟩
theorem ok_paths {f fs : Addr} {fd fds : FuncData} (T : Bi mg) (F : Fn K mg "paths_from" sPaths ["rows", "first"] f fd) (FS : Fn K mg "step_rows" sSteps ["rows"] fs fds) (GS : FnOk P w K mg base CX0 2 fs fds ["rows"] spSteps) :
    FnOk P w K mg base CX0 3 f fd ["rows", "first"] spPaths := by
  refine F.F.ok scPaths (fun vs H Q E h => ?_) (fun cdv A outer s H vs Q E hr h => ?_)
  · obtain ⟨a, n, r, u, f, rfl, _⟩ := h; rfl
  · obtain ⟨a, n, r, u, f, rfl, hsh, rr, ru, hn, hf, k⟩ := h
    have hu := hu_of hr
    refine ⟨_, pss_cons (ps_set (i := 2) scPaths.nd rfl (Or.inl rfl) (pe_call GS hr rfl FS.m FS.F.kp FS.b .nil pass0 (pa_cons (pv 0) pa_nil)))
      (pss_cons (ps_set (i := 3) scPaths.nd rfl (Or.inl rfl) (pe_disp (pps_cons (pv 1) pe_str pps_nil) rfl rfl (by simp) (by decide)))
      (pss_cons (ps_set (i := 4) scPaths.nd rfl (Or.inl rfl) (pe_lst (pa_cons (pv 1) pa_nil)))
      (pss_cons (ps_set (i := 5) scPaths.nd rfl (Or.inl rfl) pe_int)
      (pss_cons (ps_while PassesOwn.never (pt_cmpR op_lt (pv 5) (pe_callB call_len_seq (by rfl) T.len PySem.boot_len (pa_cons (pv 4) pa_nil)) (nomark _))
        (pss_cons (ps_set (i := 6) scPaths.nd rfl (Or.inl rfl) (pe_ix ix_list (pv 4) (pv 5) (fun _ _ => rfl)))
        (pss_cons (ps_for PassesOwn.never rfl (pi_items (pv 2)) (pg_tup rfl (pgs_cons (pg_name (i := 7) scPaths.nd rfl (Or.inl rfl)) (pgs_cons (pg_name (i := 8) scPaths.nd rfl (Or.inl rfl)) pgs_nil)))
          (pss_one (ps_if (pt_cmp (pc_dnotin hu (pe_ix ix_tup (pv 8) (pv 6) (fun _ _ => rfl)) (pv 3)))
            (pss_cons (ps_dput hu (pv 3) (pe_ix ix_tup (pv 8) (pv 6) (fun _ _ => rfl)) (pe_op op_add_str (pe_dget hu (pv 3) (pv 6) (fun _ _ => rfl)) (pv 7)) rfl)
            (pss_one (ps_expr (pe_bm PySem.F.plainAttrs_list PySem.F.slot_list_append PySem.F.type_list_append mt_append (pv 4) (pa_cons (pe_ix ix_tup (pv 8) (pv 6) (fun _ _ => rfl)) pa_nil))))) pss_nil)))
        (pss_one (ps_aug (i := 5) scPaths.nd rfl (Or.inl rfl) pe_int ip_add)))))
      (pss_one (ps_ret (pv 3))))))), ?_⟩
    refine ⟨_, rfl, a, n, r, u, rfl, hsh, rr, ru, hn, fun H1 ds p0 p1 p2 p3 s1 hds0 hds hp0 hp1 hp2 hp3 => ?_⟩
    have rows1 : Rows4 H1 r u p0 p1 p2 p3 := by
      intro i p hi
      match i, hi with
      | 0, hi => cases hi; exact hp0
      | 1, hi => cases hi; exact hp1
      | 2, hi => cases hi; exact hp2
      | 3, hi => cases hi; exact hp3
      | i + 4, hi => cases hi
    -- paths = {first: ''}
    intro dp hdp
    refine ⟨_, rfl, upd_same, [((Sum.inl (f : Int) : Key), V.str "")], rfl, by show 1 ≤ 15; decide, ?_⟩
    have edp : mergeK [] [((Sum.inl (f : Int) : Key), V.str "")] = pd [f] [[]] := by
      show putK [] (Sum.inl (f : Int) : Key) (V.str "") = _
      rw [putK_new (kvs := []) _ rfl, pth_nil]; rfl
    rw [edp]
    refine ⟨_, rfl, (by show 1 ≤ sizeLine; decide), fun lf hlf => ?_⟩
    have ndp : dp ≠ ds := fun e => by rw [e, hds] at hdp; cases hdp
    have g0 : H1 lf = none := by
      by_cases e : lf = dp
      · rw [e]; exact hdp
      · rw [upd_ne e, upd_ne e] at hlf; exact hlf
    have nlf : lf ≠ dp := fun e => by rw [e, upd_same] at hlf; cases hlf
    have nls : lf ≠ ds := fun e => by rw [e, hds] at g0; cases g0
    have Hdp : H dp = none := s1.free hdp
    have Hlf : H lf = none := s1.free g0
    refine while_by (fun σ H2 => ∃ (F : List Nat) (P : List (List Nat)) (kk : Nat) (o6 o7 o8 : Option V), σ = [some (.ref a), some (.int (f : Int)), some (.ref ds), some (.ref dp), some (.ref lf), some (.int (kk : Int)), o6, o7, o8] ∧ Same H H2 ∧ Rd H2 ds (.dK (sts p0 p1 p2 p3)) ∧ Rows4 H2 r u p0 p1 p2 p3 ∧
      H2 dp = some (.dK (pd F P)) ∧ H2 lf = some (.lst (nv F)) ∧ Pth n r u f F P kk 0) (fun σ _ => mu 5 σ) ?_ ?_ ?_
    · refine ⟨[f], [[]], 0, _, _, _, rfl, same_upd (same_upd (same_upd s1 Hdp) Hdp) Hlf, .inl (by rw [upd_ne nls.symm, upd_ne ndp.symm, upd_ne ndp.symm]; exact hds), fun i p hi => ?_, by rw [upd_ne nlf.symm, upd_same], upd_same, Pth.start hf⟩
      have := rows1 i p hi
      rw [upd_ne (ne_of_none this g0), upd_ne (ne_of_none this hdp), upd_ne (ne_of_none this hdp)]
      exact this
    · rintro σ H2 ⟨F, P', kk, o6, o7, o8, rfl, s2, hst, rows2, h2p, h2l, hP⟩
      refine ⟨_, rfl, _, rfl, lf, _, rfl, .inl (SqL.of h2l), _, _, rfl, rfl, _, rfl, ?_⟩
      rw [nv_len]
      refine ite2 (fun hlt => ?_) (fun hge => ?_)
      · have hlt : (kk : Int) < (F.length : Int) := of_decide_eq_true hlt
        have hk : kk < F.length := by omega
        have hx : F[kk]? = some F[kk] := List.getElem?_eq_getElem hk
        have hxn : F[kk] < n := hP.lt _ (List.getElem_mem hk)
        refine ⟨_, rfl, _, rfl, lf, _, _, _, rfl, rfl, SqL.of h2l, atI_nat (nv_get hx), ?_⟩
        -- for letter, row in steps.items()
        have start : ∀ (o : Obj) (H3 : Hp), Same H H3 → H3 ds = some (.frz o (.dK (sts p0 p1 p2 p3))) → Rows4 H3 r u p0 p1 p2 p3 → H3 dp = some (.dK (pd F P')) → H3 lf = some (.lst (nv F)) → PIn n r u f a ds dp lf kk F[kk] p0 p1 p2 p3 H o 0
            [some (.ref a), some (.int (f : Int)), some (.ref ds), some (.ref dp), some (.ref lf), some (.int (kk : Int)), some (.int (F[kk] : Int)), o7, o8] H3 := fun o H3 e1 e2 e3 e4 e5 => ⟨F, P', _, _, rfl, e1, e2, e3, e4, e5, hP, hx⟩
        have turn : ∀ (o : Obj) (i : Nat) (ky : Key) (v : V) (σ : St) (H3 : Hp) (T' : Addr), (sts p0 p1 p2 p3)[i]? = some (ky, v) → H3 T' = none → PIn n r u f a ds dp lf kk F[kk] p0 p1 p2 p3 H o i σ H3 → ∃ (F1 : List Nat) (P1 : List (List Nat)) (p : Addr), i < 4 ∧ ky = Sum.inr (pth [i]) ∧ v = .ref p ∧
            (∃ o7 o8, σ = [some (.ref a), some (.int (f : Int)), some (.ref ds), some (.ref dp), some (.ref lf), some (.int (kk : Int)), some (.int (F[kk] : Int)), o7, o8]) ∧ Same H (upd H3 T' (.tup [kV ky, v])) ∧ (upd H3 T' (.tup [kV ky, v])) ds = some (.frz o (.dK (sts p0 p1 p2 p3))) ∧
            Rows4 (upd H3 T' (.tup [kV ky, v])) r u p0 p1 p2 p3 ∧ (upd H3 T' (.tup [kV ky, v])) p = some (.tup (nv (rw4 r u i))) ∧ (upd H3 T' (.tup [kV ky, v])) dp = some (.dK (pd F1 P1)) ∧ (upd H3 T' (.tup [kV ky, v])) lf = some (.lst (nv F1)) ∧ Pth n r u f F1 P1 kk i ∧ F1[kk]? = some F[kk] := by
          rintro o i ky v σ H3 T' hi hT ⟨F1, P1, o7, o8, rfl, e1, e2, e3, e4, e5, e6, e7⟩
          obtain ⟨hi4, rfl, p, rfl, hpi⟩ := sts_get hi
          have hp3 := e3 i p hpi
          refine ⟨F1, P1, p, hi4, rfl, rfl, ⟨_, _, rfl⟩, same_upd e1 (e1.free hT), by rw [upd_ne (ne_of_none e2 hT)]; exact e2, fun j q hq => ?_, by rw [upd_ne (ne_of_none hp3 hT)]; exact hp3, by rw [upd_ne (ne_of_none e4 hT)]; exact e4, by rw [upd_ne (ne_of_none e5 hT)]; exact e5, e6, e7⟩
          have := e3 j q hq
          rw [upd_ne (ne_of_none this hT)]; exact this
        refine ⟨_, rfl, ds, sts p0 p1 p2 p3, rfl, hst, fun o H3 h3s h3o => ?_⟩
        have hns : ∀ b w', H2 b = some w' → (∀ o, w' ≠ .frz o (.dK (sts p0 p1 p2 p3))) → w' ≠ .dK (sts p0 p1 p2 p3) → H3 b = some w' := fun b w' e c1 c2 => by
          have hb : b ≠ ds := fun z => by
            subst z
            rcases hst with q | ⟨o', q⟩
            · rw [e] at q; exact c2 (Option.some.inj q)
            · rw [e] at q; exact c1 o' (Option.some.inj q)
          rw [h3o b hb]; exact e
        have e1 : Same H H3 := fun b w' e => by
          rw [h3o b (ne_of_none e hds0)]; exact s2 b w' e
        have e3 : Rows4 H3 r u p0 p1 p2 p3 := fun i p hi => hns _ _ (rows2 i p hi) (fun _ z => nomatch z) (fun z => nomatch z)
        have ndps : dp ≠ ds := ndp
        have e4 : H3 dp = some (.dK (pd F P')) := by rw [h3o dp ndps]; exact h2p
        have e5 : H3 lf = some (.lst (nv F)) := by rw [h3o lf nls]; exact h2l
        refine for_items (a := ds) (kvs := sts p0 p1 p2 p3) (o := o) (PIn n r u f a ds dp lf kk F[kk] p0 p1 p2 p3 H o) (start o H3 e1 h3s e3 e4 e5) (fun i σ H4 _ ⟨_, _, _, _, _, _, e, _⟩ => e) ?_ ?_
        · intro i ky v σ H4 T' hi hT hin
          obtain ⟨F1, P1, p, hi4, rfl, rfl, ⟨q7, q8, rfl⟩, f1, f2, f3, f4, f5, f6, f7, f8⟩ := turn o i ky v σ H4 T' hi hT hin
          generalize hH5 : upd H4 T' (.tup [kV (Sum.inr (pth [i])), .ref p]) = H5 at f1 f2 f3 f4 f5 f6 ⊢
          have f0 : H5 T' = some (.tup [kV (Sum.inr (pth [i])), .ref p]) := by rw [← hH5]; exact upd_same
          have hrow := rw4_row rr ru i
          have hk1 : kk < F1.length := (List.getElem?_eq_some_iff.mp f8).1
          have hFl := f7.flen
          refine ⟨T', _, rfl, SqT.of f0, rfl, _, _, rfl, _, _, rfl, rfl, ?_⟩
          refine ⟨_, rfl, _, rfl, p, _, _, _, rfl, rfl, SqT.of f4, atI_nat (nv_get (hrow.get hxn)), _, rfl, dp, _, rfl, DGet.k (k := (Sum.inl ((nx (rw4 r u i) F[kk] : Nat) : Int) : Key)) f5, _, rfl, ?_⟩
          by_cases hy : nx (rw4 r u i) F[kk] ∈ F1
          · obtain ⟨j, hj, ej⟩ := List.mem_iff_getElem.mp hy
            have hj1 : F1[j]? = some (nx (rw4 r u i) F[kk]) := by rw [List.getElem?_eq_getElem hj, ej]
            have hj2 : j < P1.length := by rw [f7.len]; exact hj
            rw [pd_some f7.nd hj1 (List.getElem?_eq_getElem hj2)]
            refine iteF ?_
            exact ⟨F1, P1, _, _, rfl, f1, f2, f3, f5, f6, f7.old f8 hy, f8⟩
          · rw [pd_none f7.len hy]
            refine iteT ?_
            have hk2 : kk < P1.length := by rw [f7.len]; exact hk1
            obtain ⟨pk, hpk⟩ : ∃ pk, P1[kk]? = some pk := ⟨_, List.getElem?_eq_getElem hk2⟩
            have hlen := (f7.ok kk _ pk f8 hpk).2.1
            have hg := DGet.k (k := (Sum.inl ((F[kk] : Nat) : Int) : Key)) f5
            rw [pd_some f7.nd f8 hpk] at hg
            refine ⟨_, rfl, _, rfl, dp, _, rfl, hg, _, rfl, _, _, rfl, rfl, ?_, ?_⟩
            · rw [pth_len, pth_len]
              exact Nat.le_of_lt (small1000 (by show pk.length + 1 ≤ 1000; omega))
            refine ⟨_, rfl, _, rfl, _, rfl, p, _, _, _, rfl, rfl, SqT.of f4, atI_nat (nv_get (hrow.get hxn)), dp, _, rfl, DPut.k (k := (Sum.inl ((nx (rw4 r u i) F[kk] : Nat) : Int) : Key)) f5 (by rw [pd_len f7.len]; exact small1000 (by omega)), ?_⟩
            rw [putK_new _ (pd_none f7.len hy), pth_snoc, ← pd_snoc f7.len]
            generalize hH6 : upd H5 dp (.dK (pd (F1 ++ [nx (rw4 r u i) F[kk]]) (P1 ++ [pk ++ [i]]))) = H6
            have g1 : Same H H6 := by rw [← hH6]; exact same_upd f1 Hdp
            have g2 : H6 ds = some (.frz o (.dK (sts p0 p1 p2 p3))) := by rw [← hH6, upd_ne ndp.symm]; exact f2
            have g3 : Rows4 H6 r u p0 p1 p2 p3 := fun j q hq => by
              have := f3 j q hq
              rw [← hH6, upd_ne (ne_of this f5 (by intro z; cases z))]; exact this
            have g4 : H6 p = some (.tup (nv (rw4 r u i))) := by rw [← hH6, upd_ne (ne_of f4 f5 (by intro z; cases z))]; exact f4
            have g5 : H6 dp = some (.dK (pd (F1 ++ [nx (rw4 r u i) F[kk]]) (P1 ++ [pk ++ [i]]))) := by rw [← hH6]; exact upd_same
            have g6 : H6 lf = some (.lst (nv F1)) := by rw [← hH6, upd_ne nlf]; exact f6
            refine ⟨_, rfl, .inl ⟨rfl, _, SqL.of g6⟩, _, rfl, _, rfl, p, _, _, _, rfl, rfl, SqT.of g4, atI_nat (nv_get (hrow.get hxn)), lf, _, _, rfl, rfl, g6, ?_, ?_⟩
            · rw [nv_len]; exact small1000 (by omega)
            refine ⟨_, _, _, _, rfl, same_upd g1 Hlf, by rw [upd_ne nls.symm]; exact g2, fun j q hq => ?_, by rw [upd_ne nlf.symm]; exact g5, by rw [upd_same, nv_snoc], f7.new rr ru hi4 f8 hpk hy, ?_⟩
            · have := g3 j q hq
              rw [upd_ne (ne_of this g6 (by intro z; cases z))]; exact this
            · rw [List.getElem?_append_left hk1]; exact f8
        · rintro σ H4 ⟨F1, P1, q7, q8, rfl, f1, f2, f3, f5, f6, f7, f8⟩
          refine ⟨_, rfl, _, _, rfl, rfl, ⟨F1, P1, kk + 1, _, _, _, rfl, f1, .inr ⟨o, f2⟩, f3, f5, f6, f7.next f8⟩, ?_⟩
          show (100 - ((kk : Int) + 1)).toNat < (100 - (kk : Int)).toNat
          have := f7.flen
          have := (List.getElem?_eq_some_iff.mp f8).1
          omega
      · have hge : ¬ (kk : Int) < (F.length : Int) := fun z => hge (decide_eq_true z)
        exact ⟨_, rfl, k H2 dp F P' s2 Hdp h2p (hP.all (by omega))⟩
    · rintro σ H Q Q' h ⟨v, e1, v', e2, p, ys, e3, sq, i, j, e4, e5, k, e6, q⟩
      exact ⟨v, e1, v', e2, p, ys, e3, sq, i, j, e4, e5, k, e6, h _ _ q⟩
end
end K1
namespace Sq
section
variable {n : Nat} {r f : List Nat}
theorem nx_back (hf : Row n f) {i : Nat} (hi : i < n) : nx (back f) (nx f i) = i := by rw [back_nx hf (hf.nlt hi)]; exact hf.idx_nx hi
theorem nx_back' (hf : Row n f) {i : Nat} (hi : i < n) : nx f (nx (back f) i) = i := by rw [back_nx hf hi]; exact hf.nx_idx hi
end
end Sq
namespace Sq
structure MapN (n nb : Nat) (r u rb ub m : List Nat) : Prop where
  len : m.length = n
  lt : ∀ x ∈ m, x < nb
  kr : ∀ k, k < n → nx m (nx r k) = nx rb (nx m k)
  ku : ∀ k, k < n → nx m (nx u k) = nx ub (nx m k)
section
variable {n nb : Nat} {r u rb ub m m' : List Nat}
theorem getD_eq {l : List Nat} {k : Nat} (h : k < l.length) : nx l k = l[k] := by
  show l.getD k 0 = _
  rw [List.getD_eq_getElem?_getD, List.getElem?_eq_getElem h]; rfl
theorem MapN.nlt (h : MapN n nb r u rb ub m) {k : Nat} (hk : k < n) : nx m k < nb := by
  have hk' : k < m.length := by rw [h.len]; exact hk
  rw [getD_eq hk']
  exact h.lt _ (List.getElem_mem hk')
theorem list_ext {l l' : List Nat} (h : l.length = l'.length) (e : ∀ k, k < l.length → nx l k = nx l' k) : l = l' := by
  refine List.ext_getElem h fun k h1 h2 => ?_
  have := e k h1
  rw [getD_eq h1, getD_eq h2] at this
  exact this
theorem MapN.step (rr : Row n r) (ru : Row n u) (rrb : Row nb rb) (rub : Row nb ub) (h : MapN n nb r u rb ub m) {k : Nat} (hk : k < n) (c : Nat) : nx m (nx (rw4 r u c) k) = nx (rw4 rb ub c) (nx m k) := by
  match c with
  | 0 => exact h.kr k hk
  | 1 =>
    show nx m (nx (back r) k) = nx (back rb) (nx m k)
    have h1 := (rr.back).nlt hk
    have e := h.kr _ h1
    rw [nx_back' rr hk] at e
    rw [e, nx_back rrb (h.nlt h1)]
  | 2 => exact h.ku k hk
  | c + 3 =>
    show nx m (nx (back u) k) = nx (back ub) (nx m k)
    have h1 := (ru.back).nlt hk
    have e := h.ku _ h1
    rw [nx_back' ru hk] at e
    rw [e, nx_back rub (h.nlt h1)]
theorem MapN.go (rr : Row n r) (ru : Row n u) (rrb : Row nb rb) (rub : Row nb ub) (h : MapN n nb r u rb ub m) : ∀ (p : List Nat) {k : Nat}, k < n → nx m (go r u k p) = Sq.go rb ub (nx m k) p
  | [], k, _ => rfl
  | c :: p, k, hk => by
    show nx m (Sq.go r u (nx (rw4 r u c) k) p) = Sq.go rb ub (nx (rw4 rb ub c) (nx m k)) p
    rw [MapN.go rr ru rrb rub h p ((rw4_row rr ru c).nlt hk), h.step rr ru rrb rub hk c]
end
end Sq
namespace L2
open PySem PySem.Spec PyProof.Rows
section
variable {X : Cx}
end
section
variable {P : Program} {w : World} {K : PySem.W.Frag} {mg : Str → Option Value} {base : Heap}
end
/-- what is called never raises -/
theorem passE0 {P : Program} {w : World} {X : Cx} : Passes (CX1 P w) X E0 := by rintro _ _ _ _ _ _ _ ⟨_, _, _, _, _, _, z⟩; exact z.elim
end L2
namespace K1
open PySem L2 Sq
theorem nv_ints (m : List Nat) : nv m = (m.map fun (x : Nat) => (x : Int)).map V.int := by rw [List.map_map]; rfl
theorem mapB_iff {n nb : Nat} {r u rb ub m : List Nat} (rr : Row n r) (ru : Row n u) : mapB n nb r u rb ub (m.map fun (x : Nat) => (x : Int)) = true ↔ MapN n nb r u rb ub m := by
  have e : (m.map fun (x : Nat) => (x : Int)).map Int.toNat = m := by rw [List.map_map]; exact (List.map_congr_left fun x _ => rfl).trans (List.map_id _)
  unfold mapB keepsB
  rw [e, rr.len, ru.len, Bool.and_eq_true, Bool.and_eq_true, Bool.and_eq_true, decide_eq_true_iff, List.length_map, List.all_eq_true, List.all_eq_true, List.all_eq_true]
  constructor
  · rintro ⟨⟨⟨h1, h2⟩, h3⟩, h4⟩
    refine ⟨h1, fun x hx => ?_, fun k hk => of_decide_eq_true (h3 k (List.mem_range.mpr hk)), fun k hk => of_decide_eq_true (h4 k (List.mem_range.mpr hk))⟩
    have := of_decide_eq_true (h2 (x : Int) (List.mem_map.mpr ⟨x, hx, rfl⟩))
    omega
  · intro h
    refine ⟨⟨⟨h.len, fun i hi => ?_⟩, fun k hk => decide_eq_true (h.kr k (List.mem_range.mp hk))⟩, fun k hk => decide_eq_true (h.ku k (List.mem_range.mp hk))⟩
    obtain ⟨x, hx, rfl⟩ := List.mem_map.mp hi
    have := h.lt x hx
    exact decide_eq_true ⟨by omega, by omega⟩
theorem lcode_inj0 : ∀ c ∈ List.range 4, ∀ d ∈ List.range 4, lcode c = lcode d → c = d := by decide
theorem lcode_inj : ∀ {p q : List Nat}, (∀ c ∈ p, c < 4) → (∀ c ∈ q, c < 4) → p.map lcode = q.map lcode → p = q
  | [], [], _, _, _ => rfl
  | [], _ :: _, _, _, e => by cases e
  | _ :: _, [], _, _, e => by cases e
  | c :: p, d :: q, h1, h2, e => by
    obtain ⟨e1, e2⟩ := List.cons.inj e
    rw [lcode_inj0 c (List.mem_range.mpr (h1 c (by simp))) d (List.mem_range.mpr (h2 d (by simp))) e1, lcode_inj (fun y hy => h1 y (by simp [hy])) (fun y hy => h2 y (by simp [hy])) e2]
/-- [g(k) for k in range(m)], where g may lay new things -/
theorem compRangeS {Hc : Hp} {m : Nat} {ta : TA} {te : TE} {pull : List Nat} {Q : VK} {σ : St} {rest : St} (g : Nat → Nat) (hj : ∀ R : List V → Hp → Prop, R [.int (m : Int)] Hc → ta σ Hc R) (hb : bst 1 pull σ = none :: rest)
    (hte : ∀ (i : Nat) (H : Hp) (R : VK), i < m → Same Hc H → (∀ H', Same H H' → R (.int (g i : Int)) H') → te (some (.int (i : Int)) :: rest) H R) (hm : m ≤ 1000)
    (k : ∀ (H' : Hp) (d : Addr), Same Hc H' → Hc d = none → H' d = some (.lst (nv ((List.range m).map g))) → Q (.ref d) H') :
    tComp (iRng1 ta) 1 pull (gName 0) te σ Hc Q := by
  refine hj _ ⟨(m : Int), rfl, by omega, by omega, fun d hd => ?_⟩
  rw [Int.toNat_natCast, hb]
  refine comp_by (J := Itr 0 m) (Q := fun d H' => Q (.ref d) H') m (nv ((List.range m).map g)) (by rw [nv_len]; simp) (fun i σ H9 => (∃ o, σ = o :: rest) ∧ Same Hc H9) ⟨⟨_, rfl⟩, same_upd (Same.refl _) hd⟩ ?_ ?_
  · rintro i σ H9 hi ⟨⟨o, rfl⟩, s9⟩ hd9
    refine ⟨hi, fun x H4 ⟨e1, e2⟩ => ?_⟩
    subst e1 e2
    rw [show (0 : Int) + (i : Int) = (i : Int) from by omega]
    refine hte i _ _ hi s9 fun H8 s8 => ?_
    exact cpost hi (by omega) (s8 _ _ hd9) (nv_get (by simp [hi])) ⟨⟨_, rfl⟩, same_upd (s9.trans s8) hd⟩
  · rintro σ H9 ⟨⟨o, rfl⟩, s9⟩ hd9
    exact ⟨Nat.le_refl _, k H9 d s9 hd hd9⟩
/-- the path of a square -/
def pOf (F : List Nat) (P : List (List Nat)) (x : Nat) : List Nat := P.getD (F.idxOf x) []
theorem pOf_ok {n : Nat} {r u F : List Nat} {P : List (List Nat)} (s : Sheet n r u) (h : PthAll n r u 0 F P) {x : Nat} (hx : x < n) : go r u 0 (pOf F P x) = x ∧ (pOf F P x).length ≤ 36 ∧ (∀ c ∈ pOf F P x, c < 4) ∧ valV (pd F P) (Sum.inl (x : Int) : Key) = some (.str (pth (pOf F P x))) := by
  have hF := h.full s
  have hi := hF.idx_lt hx
  have hF' : F[F.idxOf x]? = some x := by rw [hF.get hi, hF.nx_idx hx]
  have hP : P[F.idxOf x]? = some (pOf F P x) := by
    unfold pOf
    rw [List.getD_eq_getElem?_getD, List.getElem?_eq_getElem (by rw [h.len, hF.len]; exact hi)]; rfl
  obtain ⟨e1, e2, e3⟩ := h.ok _ _ _ hF' hP
  have := s.most
  exact ⟨e1, by omega, e3, pd_some h.nd hF' hP⟩
def pMap (n : Nat) (rb ub F : List Nat) (P : List (List Nat)) (f : Nat) : List Nat := (List.range n).map fun x => go rb ub f (pOf F P x)
theorem pMap_is {n nb : Nat} {r u rb ub F m : List Nat} {P : List (List Nat)} (s : Sheet n r u) (rrb : Row nb rb) (rub : Row nb ub) (h : PthAll n r u 0 F P) (hm : MapN n nb r u rb ub m) : pMap n rb ub F P (nx m 0) = m := by
  refine list_ext (by rw [hm.len]; simp [pMap]) fun k hk => ?_
  have hk : k < n := by simpa [pMap] using hk
  have e : nx (pMap n rb ub F P (nx m 0)) k = go rb ub (nx m 0) (pOf F P k) := by
    show ((List.range n).map _).getD k 0 = _
    simp [List.getD_eq_getElem?_getD, hk]
  rw [e, ← hm.go s.row s.col rrb rub _ s.pos, (pOf_ok s h hk).1]
theorem pMap_0 {n : Nat} {r u rb ub F : List Nat} {P : List (List Nat)} {f : Nat} (s : Sheet n r u) (h : PthAll n r u 0 F P) : nx (pMap n rb ub F P f) 0 = f := by
  have hF := h.full s
  have hp := s.pos
  have h0 : F[0]? = some (nx F 0) := hF.get hp
  have hP0 : P[0]? = some (P.getD 0 []) := by
    rw [List.getD_eq_getElem?_getD, List.getElem?_eq_getElem (by rw [h.len, hF.len]; exact hp)]; rfl
  obtain ⟨e1, e2, _⟩ := h.ok 0 _ _ h0 hP0
  have e3 : P.getD 0 [] = [] := List.length_eq_zero_iff.mp (by omega)
  rw [e3] at e1
  have e4 : nx F 0 = 0 := e1.symm
  have e5 : F.idxOf 0 = 0 := by have := hF.idx_nx hp; rw [e4] at this; exact this
  have e6 : pOf F P 0 = [] := by unfold pOf; rw [e5]; exact e3
  have e7 : nx (pMap n rb ub F P f) 0 = go rb ub f (pOf F P 0) := by
    show ((List.range n).map _).getD 0 0 = _
    rw [List.getD_eq_getElem?_getD, List.getElem?_map, List.getElem?_range hp]; rfl
  rw [e7, e6]; rfl
def spLd (K : PySem.W.Frag) : Sp := fun vs H Q _ => ∃ (a b : Addr) (n nb : Nat) (r u rb ub : List Nat), vs = [.ref a, .ref b] ∧ ShAt H a r u ∧ ShAt H b rb ub ∧ Sheet n r u ∧ Row nb rb ∧ Row nb ub ∧ nb ≤ 36 ∧
  ∀ (H' : Hp) (v : V), Same H H' → ((v = .non ∧ ¬ ∃ m, MapN n nb r u rb ub m) ∨ ∃ l m, v = .ref l ∧ H l = none ∧ H' l = some (.lst (nv m)) ∧ MapN n nb r u rb ub m ∧ ∀ m', MapN n nb r u rb ub m' → nx m 0 ≤ nx m' 0) → Q v H'
section
variable {P : Program} {w : World} {K : PySem.W.Frag} {mg : Str → Option Value} {base : Heap}
abbrev n_ld : List Str := ["sheet", "base", "paths", "first", "m"]
theorem sc_ld : FnScope n_ld ["sheet", "base"] (defScope sLaid) := ⟨rfl, rfl, rfl, by decide +kernel, rfl, by decide +kernel, by decide +kernel⟩
theorem nd_ld : (["square", "base", "paths", "first"] : List Str).Nodup := by decide +kernel
set_option maxHeartbeats 4000000 in
theorem ok_ld {f fp fz fg fi : Addr} {fd dp dz dg di : FuncData} {CN CW : Addr} (T : Bi mg) (F : Fn K mg "laid" sLaid ["sheet", "base"] f fd) (FP : Fn K mg "paths_from" sPaths ["rows", "first"] fp dp) (GP : FnOk P w K mg base CX0 3 fp dp ["rows", "first"] spPaths)
    (FZ : Fn K mg "size" sSize ["sheet"] fz dz) (GZ : FnOk P w K mg base CX0 1 fz dz ["sheet"] spSize)
    (FG : Fn K mg "gone" sGone ["sheet", "square", "path"] fg dg) (GG : FnOk P w K mg base (CX1 P w) 4 fg dg ["sheet", "square", "path"] (spGone CN CW))
    (FI : Fn K mg "is_map" sIsMap ["sheet", "base", "m"] fi di) (GI : FnOk P w K mg base CX0 3 fi di ["sheet", "base", "m"] (spIm K)) : FnOk P w K mg base CX0 6 f fd ["sheet", "base"] (spLd K) := by
  refine F.F.ok sc_ld (fun vs H Q E h => ?_) (fun cdv A outer s H vs Q E hr h => ?_)
  · obtain ⟨a, b, n, nb, r, u, rb, ub, rfl, _⟩ := h; rfl
  · obtain ⟨a, b, n, nb, r, u, rb, ub, rfl, ha, hb, hS, rrb, rub, hnb, k⟩ := h
    have hu := hu_of hr
    have hr1 : Room 1 _ := hr.mono (by decide)
    have hr3 : Room 3 _ := hr.mono (by decide)
    have hr4 : Room 4 _ := hr.mono (by decide)
    refine ⟨_, (pss_cons (ps_set (i := 2) sc_ld.nd rfl (Or.inr rfl) (pe_call GP hr3 rfl FP.m FP.F.kp FP.b .nil pass0 (pa_cons (pv 0) (pa_cons pe_int pa_nil))))
      (pss_cons (ps_for PassesOwn.never rfl (pi_range1 rfl T.range (pa_cons (pe_call GZ hr1 rfl FZ.m FZ.F.kp FZ.b .nil pass0 (pa_cons (pv 1) pa_nil)) pa_nil)) (pg_name (i := 3) sc_ld.nd rfl (Or.inr rfl)) (pss_cons (ps_comp (j := 4) (N := n_ld) (names := (defScope sLaid).names) (N' := ["square", "base", "paths", "first"]) (k := 1) (pull := [1, 2, 3]) (te := (tCall (spGone CN CW) [] E0 (tCons (tVar 1) (tCons (tVar 3) (tCons (tDGet (tVar 2) (tVar 0)) tNil))))) rfl sc_ld.nd rfl rfl ⟨by rfl, by decide +kernel, by decide +kernel, by rfl, by decide +kernel, by decide +kernel⟩ rfl rfl (pi_range1 rfl T.range (pa_cons (pe_call GZ hr1 rfl FZ.m FZ.F.kp FZ.b .nil pass0 (pa_cons (pv 0) pa_nil)) pa_nil)) (fun _ _ _ _ _ _ => pg_name (i := 0) nd_ld rfl (Or.inl rfl)) (fun _ _ _ _ _ _ => (pe_call GG hr4 rfl FG.m FG.F.kp FG.b .nil passE0 (pa_cons (pv 1) (pa_cons (pv 3) (pa_cons (pe_dget hu (pv 2) (pv 0) (fun _ _ => rfl)) pa_nil))))))
      (pss_one (ps_if (pt_val (pe_call GI hr3 rfl FI.m FI.F.kp FI.b .nil pass0 (pa_cons (pv 0) (pa_cons (pv 1) (pa_cons (pv 4) pa_nil))))) (pss_one (ps_ret (pv 4))) pss_nil))))
      (pss_one (ps_ret pe_non)))), ?_⟩
    have hnn := hS.most
    refine ⟨_, rfl, a, n, r, u, 0, rfl, ha, hS.row, hS.col, hS.most, hS.pos, fun H1 d F' P' s1 hd0 hd hPA => ?_⟩
    refine ⟨_, rfl, b, rb, ub, rfl, hb.same s1, (nb : Int), by rw [rrb.len], by omega, by omega, ?_⟩
    refine for_range (fun i σ H3 => ∃ o3 o4, σ = [some (.ref a), some (.ref b), some (.ref d), o3, o4] ∧ Same H H3 ∧ H3 d = some (.dK (pd F' P')) ∧ ∀ f, f < i → ¬ ∃ m, MapN n nb r u rb ub m ∧ nx m 0 = f) ⟨_, _, rfl, s1, hd, fun f h => absurd h (Nat.not_lt_zero _)⟩ ?_ ?_
    · rintro i σ H3 hi ⟨o3, o4, rfl, s3, hd3, hno⟩
      have hi : i < nb := by simpa using hi
      rw [Int.zero_add]
      dsimp only [gName, tSeq, tAsg]
      refine compRangeS (m := n) (rest := [some (.ref b), some (.ref d), some (.int (i : Int))]) (fun x => go rb ub i (pOf F' P' x)) (fun R hR => ?_) rfl (fun x H R hx hs hR => ?_) (by omega) fun H5 e s5 he0 he => ?_
      · refine ⟨_, rfl, a, r, u, rfl, ha.same s3, ?_⟩
        rw [hS.row.len]; exact hR
      · obtain ⟨e1, e2, e3, e4⟩ := pOf_ok hS hPA hx
        refine ⟨_, rfl, _, rfl, _, rfl, _, rfl, d, _, rfl, .inl ⟨_, Sum.inl (x : Int), .inl (hs _ _ hd3), rfl, e4.symm⟩, b, nb, rb, ub, (i : Int), (pOf F' P' x).map lcode, rfl, hb.same (s3.trans hs), rrb, rub, hnb, by rw [List.length_map]; omega, fun z => ?_, fun x' hx' _ hz => ?_, fun x' p' hx' hx'n hp' hz H6 s6 => ?_⟩
        · exact absurd z (by unfold isSq; rw [decide_eq_true ⟨by omega, by omega⟩]; decide)
        · exact absurd hz (by rw [all_lt]; decide)
        · have ex : x' = i := by omega
          subst ex
          have ep : p' = pOf F' P' x := lcode_inj hp' e3 hz.symm
          subst ep
          exact hR _ s6
      · have hm' : H5 e = some (.lst (nv (pMap n rb ub F' P' i))) := he
        rw [nv_ints] at hm'
        have s35 := s3.trans s5
        refine ⟨_, rfl, _, rfl, _, rfl, a, b, e, n, nb, r, u, rb, ub, _, rfl, ha.same s35, hb.same s35, hm', hS.row, hS.col, rrb, rub, hnn, by simp [pMap]; omega, fun H6 s6 => ?_⟩
        refine ⟨_, rfl, ?_⟩
        have e0 := pMap_0 (rb := rb) (ub := ub) (f := i) hS hPA
        cases hB : mapB n nb r u rb ub ((pMap n rb ub F' P' i).map fun (x : Nat) => (x : Int)) with
        | true =>
          refine iteT ?_
          have hM := (mapB_iff hS.row hS.col).mp hB
          refine ⟨_, rfl, k _ _ (s35.trans s6) (.inr ⟨e, _, rfl, s3.free he0, ?_, hM, fun m' hm2 => ?_⟩)⟩
          · rw [nv_ints]; exact s6 _ _ hm'
          · rw [e0]
            rcases Nat.lt_or_ge (nx m' 0) i with h | h
            · exact absurd ⟨m', hm2, rfl⟩ (hno _ h)
            · exact h
        | false =>
          refine iteF ?_
          refine ⟨_, _, rfl, s35.trans s6, s6 _ _ (s5 _ _ hd3), fun f hf => ?_⟩
          rcases Nat.lt_or_ge f i with h | h
          · exact hno f h
          · have : f = i := by omega
            subst this
            rintro ⟨m', hm2, e9⟩
            have := pMap_is hS rrb rub hPA hm2
            rw [e9] at this
            rw [this, (mapB_iff hS.row hS.col).mpr hm2] at hB
            cases hB
    · rintro σ H3 ⟨o3, o4, rfl, s3, hd3, hno⟩
      refine k _ _ s3 (.inl ⟨rfl, fun ⟨m, hm⟩ => ?_⟩)
      exact hno (nx m 0) (by simpa using hm.nlt hS.pos) ⟨m, hm, rfl⟩
end
end K1
namespace K1
open PySem L2 Sq
end K1
namespace Sq
/-- in f each p becomes q -/
def mg (f : List Nat) (p q : Nat) : List Nat := f.map fun h => if h = p then q else h
theorem mg_len (f : List Nat) (p q : Nat) : (mg f p q).length = f.length := List.length_map ..
theorem mg_nx {f : List Nat} {p q x : Nat} (hx : x < f.length) : nx (mg f p q) x = if nx f x = p then q else nx f x := by
  show (mg f p q).getD x 0 = if f.getD x 0 = p then q else f.getD x 0
  rw [List.getD_eq_getElem?_getD, List.getD_eq_getElem?_getD]
  unfold mg
  rw [List.getElem?_map, List.getElem?_eq_getElem hx]; rfl
/-- two squares have one name behind p became q -/
theorem mg_eq {f : List Nat} {p q x y : Nat} (hx : x < f.length) (hy : y < f.length) :
    nx (mg f p q) x = nx (mg f p q) y ↔ (nx f x = nx f y ∨ ((nx f x = p ∨ nx f x = q) ∧ (nx f y = p ∨ nx f y = q))) := by
  rw [mg_nx hx, mg_nx hy]
  by_cases h1 : nx f x = p <;> by_cases h2 : nx f y = p
  · rw [if_pos h1, if_pos h2]; omega
  · rw [if_pos h1, if_neg h2]; omega
  · rw [if_neg h1, if_pos h2]; omega
  · rw [if_neg h1, if_neg h2]; omega
/-- how many numbers below n are names -/
def cnt (n : Nat) (f : List Nat) : Nat := ((List.range n).filter fun v => decide (v ∈ f)).length
theorem filter_lt {p q : Nat → Bool} {y : Nat} : ∀ {l : List Nat}, (∀ x ∈ l, p x = true → q x = true) → y ∈ l → p y = false → q y = true → (l.filter p).length < (l.filter q).length
  | [], _, hy, _, _ => absurd hy (by simp)
  | x :: l, h, hy, h1, h2 => by
    have ih : (l.filter p).length ≤ (l.filter q).length := by
      have : ∀ {l : List Nat}, (∀ x ∈ l, p x = true → q x = true) → (l.filter p).length ≤ (l.filter q).length := fun {l} => by
        induction l with
        | nil => intro _; exact Nat.le_refl _
        | cons z l ih =>
          intro h
          have i := ih fun x hx => h x (List.mem_cons_of_mem _ hx)
          have hz := h z (List.mem_cons_self ..)
          rw [List.filter_cons, List.filter_cons]
          by_cases c : p z = true
          · rw [if_pos c, if_pos (hz c), List.length_cons, List.length_cons]; omega
          · rw [if_neg c]; split
            · rw [List.length_cons]; omega
            · exact i
      exact this fun x hx => h x (List.mem_cons_of_mem _ hx)
    rw [List.filter_cons, List.filter_cons]
    by_cases e : x = y
    · subst e
      rw [if_neg (by rw [h1]; decide), if_pos h2, List.length_cons]; omega
    · have hy' : y ∈ l := (List.mem_cons.mp hy).resolve_left fun z => e z.symm
      have i := filter_lt (fun x hx => h x (List.mem_cons_of_mem _ hx)) hy' h1 h2
      by_cases c : p x = true
      · rw [if_pos c, if_pos (h x (List.mem_cons_self ..) c), List.length_cons, List.length_cons]; omega
      · rw [if_neg c]; split
        · rw [List.length_cons]; omega
        · exact i
theorem nx_mem {f : List Nat} {x : Nat} (h : x < f.length) : nx f x ∈ f := by
  show f.getD x 0 ∈ f
  rw [List.getD_eq_getElem?_getD, List.getElem?_eq_getElem h]
  exact List.getElem_mem h
theorem mem_nx {f : List Nat} {v : Nat} (h : v ∈ f) : ∃ x, x < f.length ∧ nx f x = v := by
  obtain ⟨i, hi, e⟩ := List.mem_iff_getElem.mp h
  exact ⟨i, hi, by show f.getD i 0 = v; rw [List.getD_eq_getElem?_getD, List.getElem?_eq_getElem hi]; exact e⟩
theorem cnt_mg {n : Nat} {f : List Nat} {p q : Nat} (hp : p ∈ f) (hq : q ∈ f) (hn : ∀ v ∈ f, v < n) (ne : p ≠ q) : cnt n (mg f p q) < cnt n f := by
  refine filter_lt (y := p) (fun v _ hv => ?_) (List.mem_range.mpr (hn p hp)) ?_ (decide_eq_true hp)
  · obtain ⟨h, hh, e⟩ := List.mem_map.mp (of_decide_eq_true hv)
    refine decide_eq_true ?_
    split at e
    · exact e ▸ hq
    · exact e ▸ hh
  · refine decide_eq_false fun hv => ?_
    obtain ⟨h, hh, e⟩ := List.mem_map.mp hv
    split at e
    · exact ne e.symm
    · next c => exact c e
theorem cnt_le (n : Nat) (f : List Nat) : cnt n f ≤ n := by
  have := List.length_filter_le (fun v => decide (v ∈ f)) (List.range n)
  rwa [List.length_range] at this
theorem mg_lt {n : Nat} {f : List Nat} {p q : Nat} (hn : ∀ v ∈ f, v < n) (hq : q < n) : ∀ v ∈ mg f p q, v < n := fun v hv => by
  obtain ⟨h, hh, e⟩ := List.mem_map.mp hv
  split at e
  · omega
  · exact e ▸ hn h hh
/-- how far the folding has come: names, pairs, how many are done -/
structure Fo (n : Nat) (r u f : List Nat) (qs : List (Nat × Nat)) (d : Nat) : Prop where
  len : f.length = n
  lt : ∀ v ∈ f, v < n
  inn : ∀ p ∈ qs, p.1 < n ∧ p.2 < n
  done : ∀ p ∈ qs.take d, nx f p.1 = nx f p.2
  cong : ∀ φ : Nat → Nat, (∀ p ∈ qs, φ p.1 = φ p.2) → ∀ x y, x < n → y < n → nx f x = nx f y → φ (nx r x) = φ (nx r y) ∧ φ (nx u x) = φ (nx u y)
theorem nx_range {n x : Nat} (h : x < n) : nx (List.range n) x = x := by
  show (List.range n).getD x 0 = x
  rw [List.getD_eq_getElem?_getD, List.getElem?_range h]; rfl
theorem Fo.start {n : Nat} {r u : List Nat} {a b : Nat} (ha : a < n) (hb : b < n) : Fo n r u (List.range n) [(a, b)] 0 where
  len := List.length_range
  lt v hv := List.mem_range.mp hv
  inn p hp := by rw [List.mem_singleton.mp hp]; exact ⟨ha, hb⟩
  done p hp := absurd hp (by simp)
  cong φ _ x y hx hy e := by rw [nx_range hx, nx_range hy] at e; rw [e]; exact ⟨rfl, rfl⟩
theorem Fo.skip {n : Nat} {r u f : List Nat} {qs : List (Nat × Nat)} {d : Nat} {a b : Nat} (h : Fo n r u f qs d) (hd : qs[d]? = some (a, b)) (e : nx f a = nx f b) : Fo n r u f qs (d + 1) where
  len := h.len
  lt := h.lt
  inn := h.inn
  done p hp := by
    rw [List.take_add_one, hd] at hp
    rcases List.mem_append.mp hp with g | g
    · exact h.done p g
    · have g : p = (a, b) := by simpa using g
      rw [g]; exact e
  cong := h.cong
theorem Fo.join {n : Nat} {r u f : List Nat} {qs : List (Nat × Nat)} {d : Nat} {a b : Nat} {p q : Nat} (h : Fo n r u f qs d) (rr : Row n r) (ru : Row n u) (hd : qs[d]? = some (a, b)) (hpq : (p = nx f a ∧ q = nx f b) ∨ (p = nx f b ∧ q = nx f a)) :
    Fo n r u (mg f p q) (qs ++ [(nx r a, nx r b), (nx u a, nx u b)]) (d + 1) := by
  obtain ⟨ha, hb⟩ := h.inn (a, b) (List.mem_of_getElem? hd)
  have hl := h.len
  have hdl : d < qs.length := (List.getElem?_eq_some_iff.mp hd).1
  refine ⟨by rw [mg_len, hl], mg_lt h.lt ?_, ?_, ?_, ?_⟩
  · rcases hpq with ⟨_, e⟩ | ⟨_, e⟩ <;> rw [e] <;> exact h.lt _ (nx_mem (by rw [hl]; assumption))
  · intro z hz
    rcases List.mem_append.mp hz with g | g
    · exact h.inn z g
    · simp only [List.mem_cons, List.not_mem_nil, or_false] at g
      rcases g with g | g <;> rw [g]
      · exact ⟨rr.nlt ha, rr.nlt hb⟩
      · exact ⟨ru.nlt ha, ru.nlt hb⟩
  · intro z hz
    rw [List.take_append_of_le_length (by omega), List.take_add_one, hd] at hz
    rcases List.mem_append.mp hz with g | g
    · obtain ⟨z1, z2⟩ := h.inn z (List.mem_of_mem_take g)
      exact (mg_eq (by omega) (by omega)).mpr (.inl (h.done z g))
    · have g : z = (a, b) := by simpa using g
      rw [g]
      refine (mg_eq (by dsimp only; omega) (by dsimp only; omega)).mpr (.inr ?_)
      dsimp only
      rcases hpq with ⟨e1, e2⟩ | ⟨e1, e2⟩ <;> omega
  · intro φ hφ x y hx hy e
    have hφ' : ∀ z ∈ qs, φ z.1 = φ z.2 := fun z hz => hφ z (List.mem_append_left _ hz)
    have e1 : φ (nx r a) = φ (nx r b) := hφ (nx r a, nx r b) (List.mem_append_right _ (by simp))
    have e2 : φ (nx u a) = φ (nx u b) := hφ (nx u a, nx u b) (List.mem_append_right _ (by simp))
    have c := h.cong φ hφ'
    rcases (mg_eq (by omega) (by omega)).mp e with g | ⟨g1, g2⟩
    · exact c x y hx hy g
    · have gx : nx f x = nx f a ∨ nx f x = nx f b := by rcases hpq with ⟨i1, i2⟩ | ⟨i1, i2⟩ <;> omega
      have gy : nx f y = nx f a ∨ nx f y = nx f b := by rcases hpq with ⟨i1, i2⟩ | ⟨i1, i2⟩ <;> omega
      have cx : φ (nx r x) = φ (nx r a) ∧ φ (nx u x) = φ (nx u a) := by
        rcases gx with g | g
        · exact c x a hx ha g
        · have := c x b hx hb g; omega
      have cy : φ (nx r y) = φ (nx r a) ∧ φ (nx u y) = φ (nx u a) := by
        rcases gy with g | g
        · exact c y a hy ha g
        · have := c y b hy hb g; omega
      omega
/-- at the end the rows go from one name to one name -/
theorem Fo.end_ {n : Nat} {r u f : List Nat} {qs : List (Nat × Nat)} {d : Nat} (h : Fo n r u f qs d) (hd : qs.length ≤ d) : ∀ x y, x < n → y < n → nx f x = nx f y → nx f (nx r x) = nx f (nx r y) ∧ nx f (nx u x) = nx f (nx u y) :=
  h.cong (nx f) fun p hp => h.done p (by rw [List.take_of_length_le hd]; exact hp)
/-- each name is the least square of that name -/
structure Lst (n : Nat) (f : List Nat) : Prop where
  len : f.length = n
  le : ∀ x, x < n → nx f x ≤ x
  idm : ∀ x, x < n → nx f (nx f x) = nx f x
theorem Lst.start (n : Nat) : Lst n (List.range n) where
  len := List.length_range
  le x hx := by rw [nx_range hx]; exact Nat.le_refl _
  idm x hx := by rw [nx_range hx, nx_range hx]
theorem Lst.join {n : Nat} {f : List Nat} {a b p q : Nat} (h : Lst n f) (ha : a < n) (hb : b < n) (hpq : (p = nx f a ∧ q = nx f b) ∨ (p = nx f b ∧ q = nx f a)) (lt : q < p) : Lst n (mg f p q) := by
  have hl := h.len
  have hq : nx f q = q := by rcases hpq with ⟨_, e⟩ | ⟨_, e⟩ <;> rw [e] <;> apply h.idm <;> assumption
  have hqn : q < n := by
    rcases hpq with ⟨_, e⟩ | ⟨_, e⟩
    · have := h.le b hb; omega
    · have := h.le a ha; omega
  refine ⟨by rw [mg_len, hl], fun x hx => ?_, fun x hx => ?_⟩
  · rw [mg_nx (by omega)]
    have := h.le x hx
    split <;> omega
  · have hx' : nx f x < n := by have := h.le x hx; omega
    rw [mg_nx (x := x) (by omega)]
    by_cases c : nx f x = p
    · rw [if_pos c, mg_nx (by omega), hq, if_neg (by omega)]
    · rw [if_neg c, mg_nx (by omega), h.idm x hx, if_neg c]
/-- the least squares, rising -/
def hds (n : Nat) (f : List Nat) : List Nat := (List.range n).filter fun v => decide (nx f v = v)
theorem hds_nd (n : Nat) (f : List Nat) : (hds n f).Nodup := List.nodup_range.filter _
theorem mem_hds {n : Nat} {f : List Nat} {v : Nat} : v ∈ hds n f ↔ v < n ∧ nx f v = v := by
  unfold hds
  rw [List.mem_filter, List.mem_range, decide_eq_true_iff]
theorem Lst.lt {n : Nat} {f : List Nat} (h : Lst n f) {x : Nat} (hx : x < n) : nx f x < n := Nat.lt_of_le_of_lt (h.le x hx) hx
theorem Lst.hd {n : Nat} {f : List Nat} (h : Lst n f) {x : Nat} (hx : x < n) : nx f x ∈ hds n f := mem_hds.mpr ⟨h.lt hx, h.idm x hx⟩
theorem hds_sorted (n : Nat) (f : List Nat) : (hds n f).Pairwise (· ≤ ·) := List.Pairwise.filter _ (List.pairwise_le_range (n := n))
theorem mem_f {n : Nat} {f : List Nat} (h : Lst n f) {v : Nat} : v ∈ f ↔ v ∈ hds n f := by
  constructor
  · intro hv
    obtain ⟨x, hx, e⟩ := mem_nx hv
    rw [← e]; exact h.hd (by rw [← h.len]; exact hx)
  · intro hv
    obtain ⟨h1, h2⟩ := mem_hds.mp hv
    rw [← h2]; exact nx_mem (by rw [h.len]; exact h1)
/-- the number of each square's name among the least squares -/
def fom (n : Nat) (f : List Nat) : List Nat := f.map fun v => (hds n f).idxOf v
theorem fom_nx {n : Nat} {f : List Nat} (h : Lst n f) {x : Nat} (hx : x < n) : nx (fom n f) x = (hds n f).idxOf (nx f x) := by
  have hl : x < f.length := by rw [h.len]; exact hx
  show (fom n f).getD x 0 = (hds n f).idxOf (f.getD x 0)
  rw [List.getD_eq_getElem?_getD, List.getD_eq_getElem?_getD]
  unfold fom
  rw [List.getElem?_map, List.getElem?_eq_getElem hl]; rfl
theorem fom_lt {n : Nat} {f : List Nat} (h : Lst n f) {x : Nat} (hx : x < n) : nx (fom n f) x < (hds n f).length := by
  rw [fom_nx h hx]; exact List.idxOf_lt_length_of_mem (h.hd hx)
theorem hds_fom {n : Nat} {f : List Nat} (h : Lst n f) {x : Nat} (hx : x < n) : nx (hds n f) (nx (fom n f) x) = nx f x := by
  rw [fom_nx h hx]
  have := List.idxOf_lt_length_of_mem (h.hd hx)
  show (hds n f).getD _ 0 = _
  rw [List.getD_eq_getElem?_getD, List.getElem?_eq_getElem this]
  simp
theorem fom_hds {n : Nat} {f : List Nat} (h : Lst n f) {i : Nat} (hi : i < (hds n f).length) : nx (fom n f) (nx (hds n f) i) = i := by
  obtain ⟨h1, h2⟩ := mem_hds.mp (nx_mem hi)
  rw [fom_nx h h1, h2]
  refine nd_inj (hds_nd n f) (List.idxOf_lt_length_of_mem (nx_mem hi)) hi ?_
  rw [List.getElem_idxOf]
  show (hds n f).getD i 0 = _
  rw [List.getD_eq_getElem?_getD, List.getElem?_eq_getElem hi]; rfl
theorem nodup_of : ∀ (l l' : List Nat), l'.Nodup → (∀ x ∈ l', x ∈ l) → l.length ≤ l'.length → l.Nodup
  | [], _, _, _, _ => List.nodup_nil
  | a :: t, l', nd, h, hl => by
    rw [List.length_cons] at hl
    have hn : a ∉ t := fun ha => by
      have := sub_len l' t nd fun x hx => (List.mem_cons.mp (h x hx)).elim (fun e => e ▸ ha) id
      omega
    refine List.nodup_cons.mpr ⟨hn, nodup_of t (l'.erase a) (nd.erase a) (fun x hx => ?_) ?_⟩
    · have hx' := (List.Nodup.mem_erase_iff nd).mp hx
      exact (List.mem_cons.mp (h x hx'.2)).resolve_left hx'.1
    · have := List.length_erase (a := a) (l := l')
      rw [this]; split <;> omega
/-- a row of the folded sheet -/
def fob (n : Nat) (f r : List Nat) : List Nat := (hds n f).map fun h => nx (fom n f) (nx r h)
theorem fob_nx {n : Nat} {f r : List Nat} {i : Nat} (hi : i < (hds n f).length) : nx (fob n f r) i = nx (fom n f) (nx r (nx (hds n f) i)) := by
  show (fob n f r).getD i 0 = nx (fom n f) (nx r ((hds n f).getD i 0))
  rw [List.getD_eq_getElem?_getD, List.getD_eq_getElem?_getD]
  unfold fob
  rw [List.getElem?_map, List.getElem?_eq_getElem hi]; rfl
theorem fob_map {n : Nat} {f r : List Nat} (h : Lst n f) (rr : Row n r) (c : ∀ x y, x < n → y < n → nx f x = nx f y → nx f (nx r x) = nx f (nx r y)) {x : Nat} (hx : x < n) : nx (fom n f) (nx r x) = nx (fob n f r) (nx (fom n f) x) := by
  rw [fob_nx (fom_lt h hx), hds_fom h hx, fom_nx h (rr.nlt hx), fom_nx h (rr.nlt (h.lt hx)), c x (nx f x) hx (h.lt hx) (h.idm x hx).symm]
theorem fob_row {n : Nat} {f r : List Nat} (h : Lst n f) (rr : Row n r) (c : ∀ x y, x < n → y < n → nx f x = nx f y → nx f (nx r x) = nx f (nx r y)) : Row (hds n f).length (fob n f r) := by
  have hl : (fob n f r).length = (hds n f).length := List.length_map ..
  have sub : ∀ x ∈ fob n f r, x ∈ List.range (hds n f).length := fun x hx => by
    obtain ⟨i, hi, e⟩ := mem_nx hx
    rw [hl] at hi
    rw [← e, fob_nx hi]
    exact List.mem_range.mpr (fom_lt h (rr.nlt (mem_hds.mp (nx_mem hi)).1))
  have sup : ∀ x ∈ List.range (hds n f).length, x ∈ fob n f r := fun x hx => by
    have hx := List.mem_range.mp hx
    obtain ⟨h1, h2⟩ := mem_hds.mp (nx_mem hx)
    obtain ⟨y, hy, e⟩ := rr.onto h1
    have := fob_map h rr c hy
    rw [e, fom_hds h hx] at this
    rw [this]
    exact nx_mem (by rw [hl]; exact fom_lt h hy)
  have nd : (fob n f r).Nodup := by
    exact nodup_of _ _ List.nodup_range sup (by rw [hl, List.length_range]; exact Nat.le_refl _)
  exact ⟨hl, nd, fun x hx => List.mem_range.mp (sub x hx)⟩
theorem fo_map {n : Nat} {f r u : List Nat} (h : Lst n f) (rr : Row n r) (ru : Row n u) (c : ∀ x y, x < n → y < n → nx f x = nx f y → nx f (nx r x) = nx f (nx r y) ∧ nx f (nx u x) = nx f (nx u y)) : MapN n (hds n f).length r u (fob n f r) (fob n f u) (fom n f) where
  len := by unfold fom; rw [List.length_map, h.len]
  lt x hx := by
    obtain ⟨i, hi, e⟩ := mem_nx hx
    rw [show (fom n f).length = n by unfold fom; rw [List.length_map, h.len]] at hi
    rw [← e]; exact fom_lt h hi
  kr k hk := fob_map h rr (fun x y hx hy e => (c x y hx hy e).1) hk
  ku k hk := fob_map h ru (fun x y hx hy e => (c x y hx hy e).2) hk
theorem Lst.zero {n : Nat} {f : List Nat} (h : Lst n f) (hn : 1 ≤ n) : nx (fom n f) 0 = 0 := by
  have h0 : nx f 0 = 0 := Nat.le_zero.mp (h.le 0 hn)
  have e : ∃ t, hds n f = 0 :: t := by
    unfold hds
    obtain ⟨m, rfl⟩ : ∃ m, n = m + 1 := ⟨n - 1, by omega⟩
    rw [List.range_succ_eq_map, List.filter_cons, if_pos (by simpa using h0)]
    exact ⟨_, rfl⟩
  obtain ⟨t, e⟩ := e
  rw [fom_nx h hn, h0, e, List.idxOf_cons_self]
theorem fo_sheet {n : Nat} {f r u : List Nat} (hS : Sheet n r u) (h : Lst n f) (c : ∀ x y, x < n → y < n → nx f x = nx f y → nx f (nx r x) = nx f (nx r y) ∧ nx f (nx u x) = nx f (nx u y)) : Sheet (hds n f).length (fob n f r) (fob n f u) where
  pos := Nat.lt_of_le_of_lt (Nat.zero_le _) (fom_lt h (x := 0) hS.pos)
  most := by
    have := List.length_filter_le (fun v => decide (nx f v = v)) (List.range n)
    rw [List.length_range] at this
    exact Nat.le_trans this hS.most
  row := fob_row h hS.row fun x y hx hy e => (c x y hx hy e).1
  col := fob_row h hS.col fun x y hx hy e => (c x y hx hy e).2
  conn T h0 hT := by
    have M := fo_map h hS.row hS.col c
    have : ∀ x, x < n → T (nx (fom n f) x) := hS.conn (fun x => T (nx (fom n f) x)) (by rw [h.zero hS.pos]; exact h0) fun x hx hx' => by
      have := hT _ (fom_lt h hx) hx'
      show T (nx (fom n f) (nx r x)) ∧ T (nx (fom n f) (nx u x))
      rw [M.kr x hx, M.ku x hx]; exact this
    intro i hi
    have g := this _ (mem_hds.mp (nx_mem hi)).1
    rwa [fom_hds h hi] at g
end Sq
namespace Sq
def Kept (n : Nat) (r u : List Nat) (φ : Nat → Nat) : Prop := ∀ x y, x < n → y < n → φ x = φ y → φ (nx r x) = φ (nx r y) ∧ φ (nx u x) = φ (nx u y)
structure Fw (n : Nat) (r u : List Nat) (a b : Nat) (f : List Nat) (qs : List (Nat × Nat)) (d : Nat) : Prop where
  fo : Fo n r u f qs d
  mem : (a, b) ∈ qs
  min : ∀ φ, Kept n r u φ → φ a = φ b → (∀ p ∈ qs, φ p.1 = φ p.2) ∧ ∀ x y, x < n → y < n → nx f x = nx f y → φ x = φ y
  few : qs.length + 2 * cnt n f ≤ 2 * n + 1
  dle : d ≤ qs.length
/-- what the folding comes to -/
structure Cg (n : Nat) (r u : List Nat) (a b : Nat) (f : List Nat) : Prop where
  len : f.length = n
  lt : ∀ v ∈ f, v < n
  one : nx f a = nx f b
  kept : Kept n r u (nx f)
  min : ∀ φ, Kept n r u φ → φ a = φ b → ∀ x y, x < n → y < n → nx f x = nx f y → φ x = φ y
theorem Fw.start {n : Nat} {r u : List Nat} {a b : Nat} (ha : a < n) (hb : b < n) : Fw n r u a b (List.range n) [(a, b)] 0 where
  fo := Fo.start ha hb
  mem := by simp
  min φ _ e := ⟨fun p hp => by rw [List.mem_singleton.mp hp]; exact e, fun x y hx hy e => by rw [nx_range hx, nx_range hy] at e; rw [e]⟩
  few := by have := cnt_le n (List.range n); simp only [List.length_singleton]; omega
  dle := by simp
theorem Fw.skip {n : Nat} {r u f : List Nat} {qs : List (Nat × Nat)} {d a b c e : Nat} (h : Fw n r u a b f qs d) (hd : qs[d]? = some (c, e)) (q : nx f c = nx f e) : Fw n r u a b f qs (d + 1) where
  fo := h.fo.skip hd q
  mem := h.mem
  min := h.min
  few := h.few
  dle := (List.getElem?_eq_some_iff.mp hd).1
theorem Fw.join {n : Nat} {r u f : List Nat} {qs : List (Nat × Nat)} {d a b c e p q : Nat} (h : Fw n r u a b f qs d) (rr : Row n r) (ru : Row n u) (hd : qs[d]? = some (c, e)) (hpq : (p = nx f c ∧ q = nx f e) ∨ (p = nx f e ∧ q = nx f c)) (ne : p ≠ q) :
    Fw n r u a b (mg f p q) (qs ++ [(nx r c, nx r e), (nx u c, nx u e)]) (d + 1) ∧ cnt n (mg f p q) < cnt n f := by
  have hm := List.mem_of_getElem? hd
  obtain ⟨hc, he⟩ := h.fo.inn (c, e) hm
  have hc : c < n := hc
  have he : e < n := he
  have hl := h.fo.len
  have mc : nx f c ∈ f := nx_mem (by omega)
  have me : nx f e ∈ f := nx_mem (by omega)
  have lt : cnt n (mg f p q) < cnt n f := by
    rcases hpq with ⟨e1, e2⟩ | ⟨e1, e2⟩
    · exact cnt_mg (e1 ▸ mc) (e2 ▸ me) h.fo.lt ne
    · exact cnt_mg (e1 ▸ me) (e2 ▸ mc) h.fo.lt ne
  refine ⟨⟨h.fo.join rr ru hd hpq, List.mem_append_left _ h.mem, fun φ hφ hab => ?_, ?_, ?_⟩, lt⟩
  · obtain ⟨m1, m2⟩ := h.min φ hφ hab
    have ece : φ c = φ e := m1 (c, e) hm
    obtain ⟨k1, k2⟩ := hφ c e hc he ece
    refine ⟨fun z hz => ?_, fun x y hx hy exy => ?_⟩
    · rcases List.mem_append.mp hz with g | g
      · exact m1 z g
      · simp only [List.mem_cons, List.not_mem_nil, or_false] at g
        rcases g with g | g <;> rw [g]
        · exact k1
        · exact k2
    · rcases (mg_eq (by omega) (by omega)).mp exy with g | ⟨g1, g2⟩
      · exact m2 x y hx hy g
      · have ax : nx f x = nx f c ∨ nx f x = nx f e := by rcases hpq with ⟨i1, i2⟩ | ⟨i1, i2⟩ <;> omega
        have ay : nx f y = nx f c ∨ nx f y = nx f e := by rcases hpq with ⟨i1, i2⟩ | ⟨i1, i2⟩ <;> omega
        have bx : φ x = φ c := by
          rcases ax with g | g
          · exact m2 x c hx hc g
          · rw [m2 x e hx he g, ece]
        have by_ : φ y = φ c := by
          rcases ay with g | g
          · exact m2 y c hy hc g
          · rw [m2 y e hy he g, ece]
        rw [bx, by_]
  · have := h.few
    simp only [List.length_append, List.length_cons, List.length_nil]; omega
  · have := (List.getElem?_eq_some_iff.mp hd).1
    simp only [List.length_append, List.length_cons, List.length_nil]; omega
theorem Fw.end_ {n : Nat} {r u f : List Nat} {qs : List (Nat × Nat)} {d a b : Nat} (h : Fw n r u a b f qs d) (hd : qs.length ≤ d) : Cg n r u a b f where
  len := h.fo.len
  lt := h.fo.lt
  one := h.fo.done (a, b) (by rw [List.take_of_length_le hd]; exact h.mem)
  kept := h.fo.end_ hd
  min φ hφ e := (h.min φ hφ e).2
/-- two ordered numbers -/
theorem sort2 {x y : Nat} {S : List Nat} (p : S.Perm [x, y]) (o : S.Pairwise (· ≤ ·)) : ∃ i j, S = [i, j] ∧ i ≤ j ∧ ((j = x ∧ i = y) ∨ (j = y ∧ i = x)) := by
  match S, p.length_eq, p, o with
  | [i, j], _, p, o =>
    have ij : i ≤ j := by simpa using o
    have mi : i = x ∨ i = y := by simpa using p.mem_iff.mp (show i ∈ [i, j] by simp)
    have mj : j = x ∨ j = y := by simpa using p.mem_iff.mp (show j ∈ [i, j] by simp)
    have mx : x = i ∨ x = j := by simpa using p.mem_iff.mpr (show x ∈ [x, y] by simp)
    have my : y = i ∨ y = j := by simpa using p.mem_iff.mpr (show y ∈ [x, y] by simp)
    exact ⟨i, j, rfl, ij, by omega⟩
/-- the greatest number of the folded map -/
theorem fom_max {n : Nat} {f : List Nat} (h : Lst n f) (hn : 1 ≤ n) {m : Nat} (hm : m ∈ fom n f) (hx : ∀ y ∈ fom n f, y ≤ m) : 1 + m = (hds n f).length := by
  have hlen : (fom n f).length = n := by unfold fom; rw [List.length_map, h.len]
  obtain ⟨i, hi, e⟩ := mem_nx hm
  have h1 : m < (hds n f).length := e ▸ fom_lt h (by omega)
  have hp : 0 < (hds n f).length := by omega
  have h2 := fom_hds h (i := (hds n f).length - 1) (by omega)
  have h3 := mem_hds.mp (nx_mem (f := hds n f) (x := (hds n f).length - 1) (by omega))
  have := hx _ (nx_mem (f := fom n f) (x := nx (hds n f) ((hds n f).length - 1)) (by omega))
  omega
end Sq
namespace L2
open PySem PySem.Spec PyProof.Rows
section
variable {X : Cx}
end
end L2
namespace L2
open PySem PySem.Spec PyProof.Rows
section
variable {X : Cx}
end
end L2
namespace K1
open PySem L2 Sq
/-- a list of pairs of numbers -/
def Prs (H : Hp) (ps : List Addr) (qs : List (Nat × Nat)) : Prop := ps.length = qs.length ∧ ∀ (i : Nat) (p : Addr) (q : Nat × Nat), ps[i]? = some p → qs[i]? = some q → H p = some (.tup [.int (q.1 : Int), .int (q.2 : Int)])
theorem Prs.same {H H' : Hp} {ps qs} (h : Prs H ps qs) (s : Same H H') : Prs H' ps qs := ⟨h.1, fun i p q h1 h2 => s _ _ (h.2 i p q h1 h2)⟩
theorem Prs.updL {H : Hp} {ps qs} {l : Addr} {xs ys : List V} (h : Prs H ps qs) (hl : H l = some (.lst xs)) : Prs (upd H l (.lst ys)) ps qs := ⟨h.1, fun i p q h1 h2 => by
  have := h.2 i p q h1 h2
  rw [upd_ne (fun e => by rw [e, hl] at this; cases this)]; exact this⟩
theorem Prs.push {H : Hp} {ps qs} {t : Addr} {q : Nat × Nat} (h : Prs H ps qs) (ht : H t = some (.tup [.int (q.1 : Int), .int (q.2 : Int)])) : Prs H (ps ++ [t]) (qs ++ [q]) := by
  refine ⟨by simp [h.1], fun i p q' h1 h2 => ?_⟩
  by_cases c : i < ps.length
  · rw [List.getElem?_append_left c] at h1
    rw [List.getElem?_append_left (by rw [← h.1]; exact c)] at h2
    exact h.2 i p q' h1 h2
  · rw [List.getElem?_append_right (by omega)] at h1
    rw [List.getElem?_append_right (by rw [← h.1]; omega), ← h.1] at h2
    have e : i - ps.length = 0 := by
      have := (List.getElem?_eq_some_iff.mp h1).1
      simpa using this
    rw [e] at h1 h2
    cases h1; cases h2; exact ht
theorem Prs.one {H : Hp} {t : Addr} {q : Nat × Nat} (ht : H t = some (.tup [.int (q.1 : Int), .int (q.2 : Int)])) : Prs H [t] [q] := Prs.push (ps := []) (qs := []) ⟨rfl, fun i p q h => by simp at h⟩ ht
theorem dec_nn (x y : Nat) : decide (V.int (x : Int) = V.int (y : Int)) = decide (x = y) := by
  rw [decide_eq_decide]; exact ⟨fun z => by have := V.int.inj z; omega, fun z => by rw [z]⟩
section
variable {P : Program} {w : World} {K : PySem.W.Frag} {mg : Str → Option Value} {base : Heap}
end
end K1
namespace K1
open PySem L2 Sq
section
variable {P : Program} {w : World} {K : PySem.W.Frag} {mg : Str → Option Value} {base : Heap}
end
/-- [g(x) for x in xs], xs a list of numbers in the slot j -/
theorem compLstN {K : PySem.W.Frag} {Hc : Hp} {p : Addr} {r : List Nat} {j : Nat} {te : TE} {pull : List Nat} {Q : VK} {σ : St} {rest : St} (g : Nat → Nat) (hj : σ[j]? = some (some (.ref p))) (hp : Hc p = some (.lst (nv r))) (hb : bst 1 pull σ = none :: rest)
    (hte : ∀ (x : Nat) (H : Hp) (R : VK), x ∈ r → Same Hc H → R (.int (g x : Int)) H → te (some (.int (x : Int)) :: rest) H R) (hn : r.length ≤ 1000)
    (k : ∀ (H' : Hp) (d : Addr), Same Hc H' → Hc d = none → H' d = some (.lst (nv (r.map g))) → Q (.ref d) H') :
    tComp (iList K (tVar j)) 1 pull (gName 0) te σ Hc Q := by
  refine ⟨_, hj, p, rfl, ⟨_, SqL.of hp⟩, fun d hd => ?_⟩
  rw [hb]
  refine comp_by (Q := fun d H' => Q (.ref d) H') r.length (nv (r.map g)) (by rw [nv_len]; simp) (fun i σ H3 => (∃ o, σ = o :: rest) ∧ Same Hc H3) ⟨⟨_, rfl⟩, same_upd (Same.refl _) hd⟩ ?_ ?_
  · rintro i σ H3 hi ⟨⟨o, rfl⟩, s3⟩ hd3
    have hp3 := SqL.of (K := K) (s3 _ _ hp)
    have hg := nv_get (List.getElem?_eq_getElem hi)
    refine ⟨⟨_, _, hp3, hg⟩, fun y H4 ⟨e, hy⟩ => ?_⟩
    subst e
    have hy := hy _ hp3
    rw [hg] at hy
    cases hy
    refine hte _ _ _ (List.getElem_mem hi) s3 ?_
    exact cpost hi hn hd3 (nv_get (by simp [hi])) ⟨⟨_, rfl⟩, same_upd s3 hd⟩
  · rintro σ H3 ⟨⟨o, rfl⟩, s3⟩ hd3
    exact ⟨⟨_, SqL.of (s3 _ _ hp), by rw [nv_len]; exact Nat.le_refl _⟩, k H3 d s3 hd hd3⟩
section
end
end K1
namespace L2
open PySem PySem.Spec PyProof.Rows
theorem best_gt (val : Nat → Int) : ∀ n : Nat, argBest (fun i j => decide (val i > val j)) n ≤ n ∧ ∀ j, j ≤ n → val (argBest (fun i j => decide (val i > val j)) n) ≥ val j
  | 0 => ⟨Nat.le_refl _, fun j hj => by have : j = 0 := by omega
                                        subst this; exact Int.le_refl _⟩
  | n + 1 => by
    obtain ⟨h1, h2⟩ := best_gt val n
    show (if decide (val (n + 1) > val (argBest (fun i j => decide (val i > val j)) n)) = true then n + 1 else argBest (fun i j => decide (val i > val j)) n) ≤ n + 1 ∧ _
    show _ ∧ ∀ j, j ≤ n + 1 → val (if decide (val (n + 1) > val (argBest (fun i j => decide (val i > val j)) n)) = true then n + 1 else argBest (fun i j => decide (val i > val j)) n) ≥ val j
    by_cases c : val (n + 1) > val (argBest (fun i j => decide (val i > val j)) n)
    · rw [if_pos (decide_eq_true c)]
      refine ⟨Nat.le_refl _, fun j hj => ?_⟩
      rcases Nat.lt_or_ge j (n + 1) with d | d
      · have := h2 j (by omega); omega
      · have : j = n + 1 := by omega
        subst this; exact Int.le_refl _
    · rw [if_neg (by rw [decide_eq_true_iff]; exact c)]
      refine ⟨by omega, fun j hj => ?_⟩
      rcases Nat.lt_or_ge j (n + 1) with d | d
      · exact h2 j (by omega)
      · have : j = n + 1 := by omega
        subst this; omega
section
variable {X : Cx}
theorem boot_max : bootBuiltins "max" = some (.builtin "max") := by decide +kernel
theorem call_maxL (hc : X.calm = true) : CallR X (.builtin "max") (fun xs H Q => ∃ (p : Addr) (ns : List Int), xs = [.ref p] ∧ SqL X.K H p (ns.map V.int) ∧ ns ≠ [] ∧ ∀ m, m ∈ ns → (∀ y ∈ ns, y ≤ m) → Q (.int m) H) := by
  intro pins s σ H xs us Q I r h
  obtain ⟨p, ns, rfl, hq, hne, q⟩ := h
  obtain ⟨u, rfl, ru⟩ := vals1 r
  obtain rfl : u = Value.ref p := ru
  obtain ⟨its, rv, pl, hz⟩ := I.list hq
  have hL := pl.isList
  have hlt : p < s.heap.objs.size := by obtain ⟨o, ho, _⟩ := id hL; exact Heap.lt_size ho
  have hlen : its.length = ns.length := by rw [← rv.length]; simp
  have hpos : 0 < ns.length := List.length_pos_iff.mpr hne
  have hval : ∀ i v, its.toArray[i]? = some v → ∃ t, v = Value.int (ns.getD i 0) t := fun i v hP => by
    have hv : its[i]? = some v := by simpa using hP
    have hi : i < ns.length := by rw [← hlen]; exact (List.getElem?_eq_some_iff.mp hv).1
    have hb : (ns.map V.int)[i]? = some (.int ns[i]) := by simp [hi]
    obtain ⟨u, hu, t, rfl⟩ := rv.get hb
    rw [hv] at hu; cases hu
    exact ⟨t, by simp [List.getD_eq_getElem?_getD, hi]⟩
  refine call_max_walk (wpAny_pyIter_list hL ⟨s.heap.objs.size, _, _, its.toArray.size, _, _, _, rfl, Walks.list (A := X.A.in1) (I.ok.hd hc) s.heap.objs.size p (Nat.ne_of_lt hlt) its.toArray, ⟨⟨_, Heap.get?_push_size _ rfl, rfl, rfl⟩, hL.push _⟩, fun b hb => ?_, by rw [List.size_toArray]; omega, CmpOf.ints_gt (fun i => ns.getD i 0) hval, fun v h' tk hP hk => ?_⟩)
  · rw [Heap.size_push]
    simp at hb
    rcases hb with rfl | rfl
    · exact Nat.lt_succ_self _
    · exact Nat.lt_succ_of_lt hlt
  · obtain ⟨t, rfl⟩ := hval _ v hP
    obtain ⟨b1, b2⟩ := best_gt (fun i => ns.getD i 0) (its.toArray.size - 1)
    rw [List.size_toArray, hlen] at b1 b2 hP ⊢
    generalize argBest (fun i j => decide (ns.getD i 0 > ns.getD j 0)) (ns.length - 1) = k at b1 b2 hP ⊢
    have hk' : k < ns.length := by omega
    refine ⟨.int (ns.getD k 0), H, ?_, ⟨t, rfl⟩, q _ ?_ fun y hy => ?_⟩
    · refine I.kept fun b o e => hk b o (fun hb => ?_) (Heap.get?_push_of_some _ e)
      have := Heap.lt_size e
      simp at hb
      rw [hb] at this
      exact Nat.lt_irrefl _ this
    · simp [List.getD_eq_getElem?_getD, hk']
    · obtain ⟨j, hj, rfl⟩ := List.mem_iff_getElem.mp hy
      have := b2 j (by omega)
      simpa [List.getD_eq_getElem?_getD, hj] using this
end
end L2
namespace L2
open PySem PySem.Spec PyProof.Rows
/-- while, by a word that bears its own measure -/
theorem while_nat {c : TT} {tb : TS} {D : Ends} {σ : St} {H : Hp} (Pv : Nat → St → Hp → Prop) (h0 : ∃ m, Pv m σ H)
    (hs : ∀ m σ H, Pv m σ H → c σ H fun b H1 => if b = true then tb { D with nx := fun σ' H' => ∃ m', m' < m ∧ Pv m' σ' H', ct := fun σ' H' => ∃ m', m' < m ∧ Pv m' σ' H', bk := D.nx } σ H1 else D.nx σ H1)
    (mono : ∀ σ H Q Q', (∀ b H1, Q b H1 → Q' b H1) → c σ H Q → c σ H Q') : tWhile c tb D σ H := by
  refine ⟨Pv, h0, ?_⟩
  rintro m σ H p
  refine mono σ H _ _ (fun b H1 q => ?_) (hs m σ H p)
  cases b with
  | true => exact ⟨_, fun σ' H' z => z, q⟩
  | false => exact q
end L2
namespace K1
open PySem L2 Sq
def spLf : Sp := fun vs H Q _ => ∃ (a : Addr) (n : Nat) (r u : List Nat) (x y : Nat), vs = [.ref a, .int (x : Int), .int (y : Int)] ∧ ShAt H a r u ∧ Sheet n r u ∧ x < n ∧ y < n ∧
  ∀ (H' : Hp) (l : Addr) (f : List Nat), Same H H' → H' l = some (.lst (nv f)) → Lst n f → Cg n r u x y f → Q (.ref l) H'
section
variable {P : Program} {w : World} {K : PySem.W.Frag} {mg : Str → Option Value} {base : Heap}
abbrev n_lf : List Str := ["sheet", "one", "other", "least", "pairs", "done", "pair", "heads", "row"]
theorem sc_lf : FnScope n_lf ["sheet", "one", "other"] (defScope sLeastFolded) := ⟨rfl, rfl, rfl, by decide +kernel, rfl, by decide +kernel, by decide +kernel⟩
theorem nd_lf : (["head", "heads"] : List Str).Nodup := by decide +kernel
set_option maxHeartbeats 4000000 in
theorem ok_lf {f fz : Addr} {fd dz : FuncData} (T : Bi mg) (F : Fn K mg "least_folded" sLeastFolded ["sheet", "one", "other"] f fd) (FZ : Fn K mg "size" sSize ["sheet"] fz dz) (GZ : FnOk P w K mg base CX0 1 fz dz ["sheet"] spSize) : FnOk P w K mg base CX0 2 f fd ["sheet", "one", "other"] spLf := by
  refine F.F.ok sc_lf (fun vs H Q E h => ?_) (fun cdv A outer s H vs Q E hr h => ?_)
  · obtain ⟨a, n, r, u, x, y, rfl, _⟩ := h; rfl
  · obtain ⟨a, n, r, u, x, y, rfl, hsh, hS, hx, hy, k⟩ := h
    have hr1 : Room 1 _ := hr.mono (by decide)
    refine ⟨_, (pss_cons (ps_set (i := 3) sc_lf.nd rfl (Or.inl rfl) (pe_callTy (call_list_rng rfl) rfl T.list boot_list (pa_cons (pe_callTy call_range1 rfl T.range PyProof.Rows.boot_range (pa_cons (pe_call GZ hr1 rfl FZ.m FZ.F.kp FZ.b .nil pass0 (pa_cons (pv 0) pa_nil)) pa_nil)) pa_nil)))
      (pss_cons (ps_set (i := 4) sc_lf.nd rfl (Or.inl rfl) (pe_lst (pa_cons (pe_tup (pa_cons (pv 1) (pa_cons (pv 2) pa_nil))) pa_nil)))
      (pss_cons (ps_set (i := 5) sc_lf.nd rfl (Or.inl rfl) pe_int)
      (pss_cons (ps_while PassesOwn.never (pt_cmpR op_lt (pv 5) (pe_callB call_len_seq rfl T.len PySem.boot_len (pa_cons (pv 4) pa_nil)) (nomark _)) (pss_cons (ps_set (i := 6) sc_lf.nd rfl (Or.inl rfl) (pe_ix ix_list (pv 4) (pv 5) (fun _ _ => rfl)))
      (pss_cons (ps_set (i := 7) sc_lf.nd rfl (Or.inr rfl) (pe_callB (call_sorted rfl) rfl T.sorted boot_sorted (pa_cons (pe_lst (pa_cons (pe_ix ix_list (pv 3) (pe_ix ix_tup (pv 6) pe_int (fun _ _ => rfl)) (fun _ _ => rfl)) (pa_cons (pe_ix ix_list (pv 3) (pe_ix ix_tup (pv 6) pe_int (fun _ _ => rfl)) (fun _ _ => rfl)) pa_nil))) pa_nil)))
      (pss_cons (ps_if (pt_cmpR op_ne (pe_ix ix_list (pv 7) pe_int (fun _ _ => rfl)) (pe_ix ix_list (pv 7) pe_int (fun _ _ => rfl)) (nomark _)) (pss_cons (ps_comp (j := 3) (N := n_lf) (names := (defScope sLeastFolded).names) (N' := ["head", "heads"]) (k := 1) (pull := [7]) (te := (tIf (tTest (tOp rEq (tVar 0) (tOp (rIxL K) (tVar 1) (tC (.int 1))))) (tOp (rIxL K) (tVar 1) (tC (.int 0))) (tVar 0))) rfl sc_lf.nd rfl rfl ⟨by rfl, by decide +kernel, by decide +kernel, by rfl, by decide +kernel, by decide +kernel⟩ rfl rfl (pi_list (pv 3)) (fun _ _ _ _ _ _ => pg_name (i := 0) nd_lf rfl (Or.inl rfl)) (fun _ _ _ _ _ _ => (pe_ifExp (pt_cmpR op_eq (pv 0) (pe_ix ix_list (pv 1) pe_int (fun _ _ => rfl)) (nomark _)) (pe_ix ix_list (pv 1) pe_int (fun _ _ => rfl)) (pv 0))))
      (pss_one (ps_for PassesOwn.never rfl (pi_tup (pv 0)) (pg_name (i := 8) sc_lf.nd rfl (Or.inl rfl)) (pss_one (ps_expr (pe_bm PySem.F.plainAttrs_list PySem.F.slot_list_append PySem.F.type_list_append mt_append (pv 4) (pa_cons (pe_tup (pa_cons (pe_ix ix_tup (pv 8) (pe_ix ix_tup (pv 6) pe_int (fun _ _ => rfl)) (fun _ _ => rfl)) (pa_cons (pe_ix ix_tup (pv 8) (pe_ix ix_tup (pv 6) pe_int (fun _ _ => rfl)) (fun _ _ => rfl)) pa_nil))) pa_nil))))))) pss_nil)
      (pss_one (ps_aug (i := 5) sc_lf.nd rfl (Or.inl rfl) pe_int ip_add))))))
      (pss_one (ps_ret (pv 3))))))), ?_⟩
    obtain ⟨p, q, h1, h2, h3⟩ := id hsh
    have hm := hS.most
    have two : 2 ≤ sizeLine := by decide
    have one1 : 1 ≤ sizeLine := by decide
    refine ⟨_, rfl, a, r, u, rfl, hsh, _, rfl, fun rg hrg => ?_⟩
    rw [hS.row.len]
    refine ⟨rg, n, rfl, upd_same, by omega, fun lf hlf => ?_⟩
    have s0 : Same H (upd (upd H rg (.rng 0 (n : Int))) lf (.lst (nv (List.range n)))) := (same_upd (Same.refl H) hrg).trans (same_upd (Same.refl _) hlf)
    have e0 : (upd (upd H rg (.rng 0 (n : Int))) lf (.lst (nv (List.range n)))) lf = some (.lst (nv (List.range n))) := upd_same
    have lf0 : H lf = none := Classical.byContradiction fun z => by
      obtain ⟨o, ho⟩ := Option.ne_none_iff_exists'.mp z
      have := same_upd (o := .rng 0 (n : Int)) (Same.refl H) hrg _ _ ho
      rw [hlf] at this; cases this
    revert s0 e0
    generalize (upd (upd H rg (.rng 0 (n : Int))) lf (.lst (nv (List.range n)))) = H0
    intro s0 e0
    refine ⟨_, rfl, _, rfl, two, fun t0 ht0 => ⟨one1, fun l hl => ?_⟩⟩
    have s1 : Same H0 (upd H0 t0 (.tup [.int (x : Int), .int (y : Int)])) := same_upd (Same.refl _) ht0
    have e1 : (upd H0 t0 (.tup [.int (x : Int), .int (y : Int)])) t0 = some (.tup [.int (x : Int), .int (y : Int)]) := upd_same
    revert hl s1 e1
    generalize (upd H0 t0 (.tup [.int (x : Int), .int (y : Int)])) = H1
    intro hl s1 e1
    have l0 : H l = none := Classical.byContradiction fun z => by
      obtain ⟨o, ho⟩ := Option.ne_none_iff_exists'.mp z
      rw [s1 _ _ (s0 _ _ ho)] at hl; cases hl
    have s2 : Same H1 (upd H1 l (.lst [.ref t0])) := same_upd (Same.refl _) hl
    have e2 : (upd H1 l (.lst [.ref t0])) l = some (.lst ([t0].map V.ref)) := upd_same
    revert s2 e2
    generalize (upd H1 l (.lst [.ref t0])) = H2
    intro s2 e2
    dsimp only [tSeq, tAsg, gName]
    refine while_nat (fun m σ H3 => ∃ (f : List Nat) (qs : List (Nat × Nat)) (d : Nat) (ps : List Addr) (lf : Addr) (o6 o7 o8 : Option V), m = 2 * cnt n f + (qs.length - d) ∧ σ = [some (.ref a), some (.int (x : Int)), some (.int (y : Int)), some (.ref lf), some (.ref l), some (.int (d : Int)), o6, o7, o8] ∧ Same H H3 ∧ H3 l = some (.lst (ps.map V.ref)) ∧ H3 lf = some (.lst (nv f)) ∧ lf ≠ l ∧ Prs H3 ps qs ∧ Lst n f ∧ Fw n r u x y f qs d) ?_ ?_ ?_
    · exact ⟨_, List.range n, [(x, y)], 0, [t0], lf, _, _, _, rfl, rfl, s0.trans (s1.trans s2), e2, s2 _ _ (s1 _ _ e0), (fun e => by rw [← e, s1 _ _ e0] at hl; cases hl), Prs.one (q := (x, y)) (s2 _ _ e1), Lst.start n, Fw.start hx hy⟩
    · rintro m σ H3 ⟨f, qs, d, ps, lf, o6, o7, o8, em, rfl, s3, hl3, hlf3, nl, hP, hL, hF⟩
      refine ⟨_, rfl, _, rfl, l, _, rfl, .inl (SqL.of hl3), _, _, rfl, rfl, _, rfl, ?_⟩
      rw [List.length_map, hP.1]
      refine ite2 (fun hlt => ?_) (fun hge => ?_)
      · have hlt : (d : Int) < (qs.length : Int) := of_decide_eq_true hlt
        have hd : d < qs.length := by omega
        have hqd : qs[d]? = some qs[d] := List.getElem?_eq_getElem hd
        have hpd : ps[d]? = some (ps[d]'(by rw [hP.1]; exact hd)) := List.getElem?_eq_getElem _
        have hpp := hP.2 d _ _ hpd hqd
        obtain ⟨hc, he⟩ := hF.fo.inn _ (List.mem_of_getElem? hqd)
        revert hpp hqd hc he
        generalize qs[d] = qd
        obtain ⟨c, e⟩ := qd
        intro hqd hpp hc he
        have hc : c < n := hc
        have he : e < n := he
        dsimp only at hpp
        revert hpd hpp
        generalize (ps[d]'(by rw [hP.1]; exact hd)) = pp
        intro hpd hpp
        have hfl := hF.fo.len
        have gc : (nv f)[c]? = some (.int (nx f c : Int)) := nv_get (by show f[c]? = some (f.getD c 0); rw [List.getD_eq_getElem?_getD, List.getElem?_eq_getElem (by omega)]; rfl)
        have ge : (nv f)[e]? = some (.int (nx f e : Int)) := nv_get (by show f[e]? = some (f.getD e 0); rw [List.getD_eq_getElem?_getD, List.getElem?_eq_getElem (by omega)]; rfl)
        refine ⟨_, rfl, _, rfl, l, _, d, _, rfl, rfl, SqL.of hl3, atI_nat (by rw [List.getElem?_map, hpd]; rfl), ?_⟩
        dsimp only
        refine ⟨_, rfl, _, rfl, pp, _, 0, _, rfl, rfl, SqT.of hpp, atI_nat (j := 0) rfl, lf, _, c, _, rfl, rfl, SqL.of hlf3, atI_nat gc, ?_⟩
        refine ⟨_, rfl, _, rfl, pp, _, 1, _, rfl, rfl, SqT.of hpp, atI_nat (j := 1) rfl, lf, _, e, _, rfl, rfl, SqL.of hlf3, atI_nat ge, ?_⟩
        refine ⟨two, fun t1 ht1 => ?_⟩
        have s4 : Same H3 (upd H3 t1 (.lst [.int (nx f c : Int), .int (nx f e : Int)])) := same_upd (Same.refl _) ht1
        have e4 : (upd H3 t1 (.lst [.int (nx f c : Int), .int (nx f e : Int)])) t1 = some (.lst (nv [nx f c, nx f e])) := upd_same
        revert s4 e4
        generalize (upd H3 t1 (.lst [.int (nx f c : Int), .int (nx f e : Int)])) = H4
        intro s4 e4
        refine ⟨t1, [nx f c, nx f e], rfl, (.inl (SqL.of e4)), (by show 2 < 64; decide), fun hh S hhh pS oS => ?_⟩
        obtain ⟨i0, j, rfl, hij, hcase⟩ := sort2 pS oS
        have s5 : Same H4 (upd H4 hh (.lst (nv [i0, j]))) := same_upd (Same.refl _) hhh
        have e5 : (upd H4 hh (.lst (nv [i0, j]))) hh = some (.lst (nv [i0, j])) := upd_same
        revert s5 e5
        generalize (upd H4 hh (.lst (nv [i0, j]))) = H5
        intro s5 e5
        have s35 := s4.trans s5
        dsimp only
        refine ⟨_, rfl, hh, _, 0, _, rfl, rfl, SqL.of e5, atI_nat (j := 0) rfl, _, rfl, hh, _, 1, _, rfl, rfl, SqL.of e5, atI_nat (j := 1) rfl, rfl, _, rfl, ?_⟩
        rw [dec_nn]
        by_cases eij : i0 = j
        · rw [decide_eq_true eij]
          refine iteF ?_
          refine ⟨_, rfl, _, _, rfl, rfl, ?_⟩
          have hF' := hF.skip hqd (by omega)
          exact ⟨_, by omega, f, qs, d + 1, ps, lf, _, _, _, rfl, rfl, s3.trans s35, s35 _ _ hl3, s35 _ _ hlf3, nl, hP.same s35, hL, hF'⟩
        · rw [decide_eq_false eij]
          refine iteT ?_
          dsimp only [tSeq, tAsg]
          refine compLstN (r := f) (fun h => if h = j then i0 else h) rfl (s35 _ _ hlf3) rfl (fun z Hz R hz sz hR => ?_) (by omega) fun H6 lf6 s6 hlf60 hlf6 => ?_
          · have ez := sz _ _ e5
            refine ⟨_, rfl, _, rfl, hh, _, 1, _, rfl, rfl, SqL.of ez, atI_nat (j := 1) rfl, rfl, _, rfl, ?_⟩
            rw [dec_nn]
            by_cases ezj : z = j
            · rw [decide_eq_true ezj]
              refine iteT ?_
              rw [if_pos ezj] at hR
              exact ⟨_, rfl, hh, _, 0, _, rfl, rfl, SqL.of ez, atI_nat (j := 0) rfl, hR⟩
            · rw [decide_eq_false ezj]
              refine iteF ?_
              rw [if_neg ezj] at hR
              exact ⟨_, rfl, hR⟩
          dsimp only [tSeq, tAsg, gName]
          have s36 := s35.trans s6
          have hpp6 := s36 _ _ hpp
          have hF' := hF.join hS.row hS.col hqd (p := j) (q := i0) (by omega) (by omega)
          have hL' := hL.join (a := c) (b := e) (p := j) (q := i0) hc he (by omega) (by omega)
          have nl6 : lf6 ≠ l := fun z => by rw [z, s35 _ _ hl3] at hlf60; cases hlf60
          have hSq := s3.trans s36
          have few := hF.few
          refine ⟨_, rfl, a, rfl, ⟨_, SqT.of (hSq _ _ h1)⟩, for_tup (K := K) (a := a) (xs := [.ref p, .ref q]) (fun i σ H7 => ∃ (ps' : List Addr) (o8 : Option V), σ = [some (.ref a), some (.int (x : Int)), some (.int (y : Int)), some (.ref lf6), some (.ref l), some (.int (d : Int)), some (.ref pp), some (.ref hh), o8] ∧ Same H H7 ∧ H7 l = some (.lst (ps'.map V.ref)) ∧ H7 lf6 = some (.lst (nv (Sq.mg f j i0))) ∧ H7 pp = some (.tup [.int (c : Int), .int (e : Int)]) ∧ Prs H7 ps' (qs ++ [(nx r c, nx r e), (nx u c, nx u e)].take i)) ⟨ps, _, rfl, hSq, s36 _ _ hl3, hlf6, hpp6, by rw [List.take_zero, List.append_nil]; exact hP.same s36⟩ (fun i σ H7 _ ⟨_, _, _, s7, _⟩ => SqT.of (s7 _ _ h1)) ?_ ?_⟩
          · rintro i v σ H7 hv ⟨ps', o8, rfl, s7, h7l, h7f, h7p, hP7⟩
            obtain ⟨b, row, rfl, hb, rb, hi2, etk⟩ : ∃ b row, v = .ref b ∧ H b = some (.tup (nv row)) ∧ Row n row ∧ i < 2 ∧ [(nx r c, nx r e), (nx u c, nx u e)].take (i + 1) = [(nx r c, nx r e), (nx u c, nx u e)].take i ++ [(nx row c, nx row e)] := by
              match i, hv with
              | 0, hv => cases hv; exact ⟨p, r, rfl, h2, hS.row, by omega, rfl⟩
              | 1, hv => cases hv; exact ⟨q, u, rfl, h3, hS.col, by omega, rfl⟩
            have hb7 := s7 _ _ hb
            refine ⟨_, rfl, (.inl ⟨rfl, _, SqL.of h7l⟩), _, rfl, _, rfl, pp, _, 0, _, rfl, rfl, SqT.of h7p, atI_nat (j := 0) rfl, b, _, c, _, rfl, rfl, SqT.of hb7, atI_nat (nv_get (rb.get hc)), ?_⟩
            refine ⟨_, rfl, _, rfl, pp, _, 1, _, rfl, rfl, SqT.of h7p, atI_nat (j := 1) rfl, b, _, e, _, rfl, rfl, SqT.of hb7, atI_nat (nv_get (rb.get he)), ?_⟩
            refine ⟨two, fun t ht => ?_⟩
            have s8 : Same H7 (upd H7 t (.tup [.int (nx row c : Int), .int (nx row e : Int)])) := same_upd (Same.refl _) ht
            have e8 : (upd H7 t (.tup [.int (nx row c : Int), .int (nx row e : Int)])) t = some (.tup [.int (nx row c : Int), .int (nx row e : Int)]) := upd_same
            revert s8 e8
            generalize (upd H7 t (.tup [.int (nx row c : Int), .int (nx row e : Int)])) = H8
            intro s8 e8
            have hlen : ps'.length ≤ 75 := by rw [hP7.1, List.length_append, List.length_take]; have := cnt_le n f; simp only [List.length_cons, List.length_nil]; omega
            refine ⟨l, _, _, rfl, rfl, s8 _ _ h7l, by rw [List.length_map]; exact Nat.lt_of_le_of_lt hlen (by decide), ?_⟩
            refine ⟨ps' ++ [t], _, rfl, same_upd (s7.trans s8) l0, by rw [upd_same, List.map_append]; rfl, by rw [upd_ne nl6]; exact s8 _ _ h7f, ?_, ?_⟩
            · rw [upd_ne (fun z => by rw [z, h7l] at h7p; cases h7p)]; exact s8 _ _ h7p
            · rw [etk, ← List.append_assoc]
              exact ((hP7.same s8).push (q := (nx row c, nx row e)) e8).updL (s8 _ _ h7l)
          · rintro σ H7 ⟨ps', o8, rfl, s7, h7l, h7f, h7p, hP7⟩
            refine ⟨_, rfl, _, _, rfl, rfl, ?_⟩
            have hlt2 := hF'.2
            have el : (qs ++ [(nx r c, nx r e), (nx u c, nx u e)]).length = qs.length + 2 := by simp
            exact ⟨_, by rw [em, show ([(nx r c, nx r e), (nx u c, nx u e)].take ([V.ref p, V.ref q] : List V).length) = [(nx r c, nx r e), (nx u c, nx u e)] from rfl, el]; omega, _, _, d + 1, ps', lf6, _, _, _, rfl, rfl, s7, h7l, h7f, nl6, hP7, hL', hF'.1⟩
      · have hge : ¬ (d : Int) < (qs.length : Int) := fun z => hge (decide_eq_true z)
        exact ⟨_, rfl, k H3 lf f s3 hlf3 hL (hF.end_ (by omega))⟩
    · rintro σ H Q Q' hQ ⟨v, e1, w, e2, l, xs, e3, e4, h⟩
      exact ⟨v, e1, w, e2, l, xs, e3, e4, h.elim fun i hh => hh.elim fun j z => ⟨i, j, z.1, z.2.1, z.2.2.elim fun b zz => ⟨b, zz.1, hQ _ _ zz.2⟩⟩⟩
end
end K1
namespace K1
open PySem L2 Sq
def spFrw : Sp := fun vs H Q _ => ∃ (p ph pm : Addr) (n : Nat) (r hs ms : List Nat), vs = [.ref p, .ref ph, .ref pm] ∧ H p = some (.tup (nv r)) ∧ H ph = some (.lst (nv hs)) ∧ H pm = some (.lst (nv ms)) ∧ Row n r ∧ (∀ x ∈ hs, x < n) ∧ ms.length = n ∧ n ≤ 36 ∧ hs.length ≤ 36 ∧
  ∀ (H' : Hp) (t : Addr), Same H H' → H' t = some (.tup (nv (hs.map fun h => nx ms (nx r h)))) → Q (.ref t) H'
section
variable {P : Program} {w : World} {K : PySem.W.Frag} {mg : Str → Option Value} {base : Heap}
abbrev n_frw : List Str := ["row", "heads", "m"]
theorem sc_frw : FnScope n_frw ["row", "heads", "m"] (defScope sFoldedRow) := ⟨rfl, rfl, rfl, by decide +kernel, rfl, by decide +kernel, by decide +kernel⟩
theorem nd_frw : (["head", "row", "m"] : List Str).Nodup := by decide +kernel
theorem ok_frw {f : Addr} {fd : FuncData} (T : Bi mg) (F : Fn K mg "folded_row" sFoldedRow ["row", "heads", "m"] f fd) : FnOk P w K mg base CX0 1 f fd ["row", "heads", "m"] spFrw := by
  refine F.F.ok sc_frw (fun vs H Q E h => ?_) (fun cdv A outer s H vs Q E hr h => ?_)
  · obtain ⟨p, ph, pm, n, r, hs, ms, rfl, _⟩ := h; rfl
  · obtain ⟨p, ph, pm, n, r, hs, ms, rfl, hp, hh, hm, rr, hhs, hms, hn, hl, k⟩ := h
    refine ⟨_, (pss_one (ps_ret (pe_callTy call_tuple_of rfl T.tuple boot_tuple (pa_cons (pe_comp (N := n_frw) (names := (defScope sFoldedRow).names) (N' := ["head", "row", "m"]) (k := 1) (pull := [0, 2]) (te := (tOp (rIxL K) (tVar 2) (tOp (rIxT K) (tVar 1) (tVar 0)))) rfl ⟨by rfl, by decide +kernel, by decide +kernel, by rfl, by decide +kernel, by decide +kernel⟩ rfl rfl (pi_list (pv 1)) (fun _ _ _ _ _ _ => pg_name (i := 0) nd_frw rfl (Or.inl rfl)) (fun _ _ _ _ _ _ => (pe_ix ix_list (pv 2) (pe_ix ix_tup (pv 1) (pv 0) (fun _ _ => rfl)) (fun _ _ => rfl)))) pa_nil)))), ?_⟩
    dsimp only [tCB, tCons, tRet]
    refine compLstN (r := hs) (fun h => nx ms (nx r h)) rfl hh rfl (fun z Hz R hz sz hR => ?_) (by omega) fun H1 d s1 hd0 hd => ?_
    · exact ⟨_, rfl, _, rfl, _, rfl, p, _, z, _, rfl, rfl, SqT.of (sz _ _ hp), atI_nat (nv_get (rr.get (hhs z hz))), pm, _, _, _, rfl, rfl, SqL.of (sz _ _ hm), atI_nat (nv_get (by show ms[nx r z]? = some (ms.getD (nx r z) 0); rw [List.getD_eq_getElem?_getD, List.getElem?_eq_getElem (by rw [hms]; exact rr.nlt (hhs z hz))]; rfl)), hR⟩
    · refine ⟨d, _, rfl, .inl ⟨SqL.of hd, fun t ht => ?_⟩⟩
      exact k _ t (s1.trans (same_upd (Same.refl _) ht)) upd_same
end
end K1
namespace L2
open PySem PySem.Spec PyProof.Rows
theorem count_at {j : Nat} : ∀ {l : List Nat}, l.Pairwise (· < ·) → ∀ (i : Nat) (hi : i < l.length), l[i] < j ↔ i < l.countP (· < j)
  | [], _, i, hi => absurd hi (by simp)
  | a :: t, h, i, hi => by
    obtain ⟨h1, h2⟩ := List.pairwise_cons.mp h
    by_cases c : a < j
    · rw [List.countP_cons_of_pos (by simpa using c)]
      cases i with
      | zero => simp [c]
      | succ i =>
        have := count_at (j := j) h2 i (by simpa using hi)
        simp only [List.getElem_cons_succ]
        omega
    · rw [List.countP_cons_of_neg (by simpa using c)]
      have z : t.countP (· < j) = 0 := by
        rw [List.countP_eq_zero]
        intro x hx
        have := h1 x hx
        simp; omega
      rw [z]
      cases i with
      | zero => simp only [List.getElem_cons_zero]; omega
      | succ i =>
        simp only [List.getElem_cons_succ]
        have := h1 _ (List.getElem_mem (by simpa using hi : i < t.length))
        omega
theorem below_go {xs : Array Nat} (h : xs.toList.Pairwise (· < ·)) (j : Nat) : ∀ (fuel lo hi : Nat), hi ≤ xs.size → hi - lo ≤ fuel → lo ≤ xs.toList.countP (· < j) → xs.toList.countP (· < j) ≤ hi → SetTable.below.go xs j fuel lo hi = xs.toList.countP (· < j)
  | 0, lo, hi, _, hf, h1, h2 => by unfold SetTable.below.go; omega
  | fuel + 1, lo, hi, hs, hf, h1, h2 => by
    unfold SetTable.below.go
    by_cases c : lo < hi
    · rw [if_pos c]
      dsimp only
      have hm : (lo + hi) / 2 < xs.size := by omega
      have e : xs.getD ((lo + hi) / 2) j = xs.toList[(lo + hi) / 2]'(by simpa using hm) := by
        rw [Array.getD_eq_getD_getElem?, Array.getElem?_eq_getElem hm]; simp
      rw [e]
      have k := count_at (j := j) h ((lo + hi) / 2) (by simpa using hm)
      by_cases d : xs.toList[(lo + hi) / 2]'(by simpa using hm) < j
      · rw [if_pos d]
        exact below_go h j fuel _ _ hs (by omega) (by have := k.mp d; omega) h2
      · rw [if_neg d]
        exact below_go h j fuel _ _ (by omega) (by omega) h1 (by have := fun z => d (k.mpr z); omega)
    · rw [if_neg c]; omega
theorem below_is {xs : Array Nat} (h : xs.toList.Pairwise (· < ·)) (j : Nat) : SetTable.below xs j = xs.toList.countP (· < j) :=
  below_go h j _ _ _ (Nat.le_refl _) (by omega) (Nat.zero_le _) (by simpa using List.countP_le_length (p := fun x => decide (x < j)) (l := xs.toList))
/-- behind a place stands the next one -/
theorem below_next {xs : Array Nat} (h : xs.toList.Pairwise (· < ·)) {i : Nat} (hi : i < xs.size) : SetTable.below xs (xs[i] + 1) = i + 1 := by
  rw [below_is h]
  have hl : i < xs.toList.length := by simpa using hi
  have k1 := (count_at (j := xs[i] + 1) h i hl).mp (by simp)
  have : ¬ i + 1 < xs.toList.countP (· < xs[i] + 1) := fun z => by
    have z2 : i + 1 < xs.toList.length := Nat.lt_of_lt_of_le z (List.countP_le_length)
    have := (count_at (j := xs[i] + 1) h (i + 1) z2).mpr z
    have := List.pairwise_iff_getElem.mp h i (i + 1) hl z2 (by omega)
    simp at *
    omega
  omega
theorem below_zero {xs : Array Nat} (h : xs.toList.Pairwise (· < ·)) : SetTable.below xs 0 = 0 := by
  rw [below_is h, List.countP_eq_zero]
  intro x _; simp
structure TOk (t : SetTable) (b : Bool) : Prop where
  ris : t.place.toList.Pairwise (· < ·)
  dum : t.dummies = #[]
  led : t.led = b
theorem insert_list {α : Type} (xs : Array α) (p : Nat) (x : α) : (SetTable.insertAt xs p x).toList = xs.toList.take p ++ x :: xs.toList.drop p := by
  unfold SetTable.insertAt
  simp [Array.toList_append, Array.toList_push, Array.toList_extract, List.extract_eq_take_drop]
  exact List.take_of_length_le (by simp)
theorem TOk.stand {t : SetTable} {b : Bool} (h : TOk t b) (n : Nat) : TOk (t.standIn n) b := ⟨by show (Array.range n).toList.Pairwise (· < ·); rw [Array.toList_range]; exact List.pairwise_lt_range, rfl, h.led⟩
theorem TOk.plain {t : SetTable} {b : Bool} (h : TOk t b) : TOk { t with plain := false } b := ⟨h.ris, h.dum, h.led⟩
theorem has_nil (j : Nat) : SetTable.has #[] j = false := by unfold SetTable.has; simp
theorem TOk.put {t : SetTable} {b : Bool} (h : TOk t b) {j : Nat} (he : t.slot j = .empty) : TOk (t.put j).1 b := by
  have hp : t.place[SetTable.below t.place j]? ≠ some j := fun z => by
    unfold SetTable.slot at he
    dsimp only at he
    rw [if_pos (by simpa using z)] at he
    cases he
  rw [below_is h.ris] at hp
  generalize hc : t.place.toList.countP (· < j) = c at hp
  refine ⟨?_, ?_, h.led⟩
  · show (SetTable.insertAt t.place (SetTable.below t.place j) j).toList.Pairwise (· < ·)
    rw [insert_list, below_is h.ris, hc]
    have key : ∀ i (hi : i < t.place.toList.length), t.place.toList[i] < j ↔ i < c := fun i hi => by rw [← hc]; exact count_at h.ris i hi
    refine List.pairwise_append.mpr ⟨h.ris.sublist (List.take_sublist _ _), List.pairwise_cons.mpr ⟨fun y hy => ?_, h.ris.sublist (List.drop_sublist _ _)⟩, fun x hx y hy => ?_⟩
    · obtain ⟨i, hi, e⟩ := List.mem_iff_getElem.mp hy
      rw [List.getElem_drop] at e
      have hi2 : c + i < t.place.toList.length := by rw [List.length_drop] at hi; omega
      have h1 := fun z => (key (c + i) hi2).mp z
      rw [e] at h1
      have h2 : y ≠ j := fun z => by
        by_cases i0 : i = 0
        · subst i0
          apply hp
          rw [← z, ← e]
          simp [hi2]
        · have := List.pairwise_iff_getElem.mp h.ris c (c + i) (by omega) hi2 (by omega)
          have q : ¬ t.place.toList[c]'(by omega) < j := fun z' => by have := (key c (by omega)).mp z'; omega
          omega
      omega
    · have hxj : x < j := by
        obtain ⟨i, hi, e⟩ := List.mem_iff_getElem.mp hx
        rw [List.length_take] at hi
        rw [List.getElem_take] at e
        rw [← e]; exact (key i (by omega)).mpr (by omega)
      rcases List.mem_cons.mp hy with e | e
      · omega
      · obtain ⟨i, hi, e⟩ := List.mem_iff_getElem.mp e
        rw [List.getElem_drop] at e
        have hi2 : c + i < t.place.toList.length := by rw [List.length_drop] at hi; omega
        have h1 := fun z => (key (c + i) hi2).mp z
        rw [e] at h1
        omega
  · show (if SetTable.has t.dummies j then _ else t.dummies) = #[]
    rw [h.dum, has_nil, if_neg (by decide)]
theorem probe_empty {t : SetTable} (hd : t.dummies = #[]) {f : Nat → Int} {x : Int} : ∀ (fuel : Nat) (p : SetTable.Probe) (j : Nat) (d : Option Nat), p.dummy = none → SetTable.probe.go t f x fuel p = some (.empty j d) → t.slot j = .empty ∧ d = none
  | 0, p, j, d, _, h => by unfold SetTable.probe.go at h; cases h
  | fuel + 1, p, j, d, hp, h => by
    unfold SetTable.probe.go at h
    have adv : (t.advance p).dummy = none := by
      unfold SetTable.advance
      split
      · exact hp
      · exact hp
    split at h
    · rename_i e
      cases h
      exact ⟨e, hp⟩
    · rename_i e
      exfalso
      unfold SetTable.slot at e
      dsimp only at e
      split at e
      · cases e
      · rw [hd, has_nil] at e
        cases e
    · split at h
      · cases h
      · exact probe_empty hd fuel _ j d adv h
theorem TOk.layNew {t : SetTable} {b : Bool} (h : TOk t b) (es : Array (Int × Value)) (x : Int) (v : Value) : TOk (layNew t es x v).2.1 b := by
  unfold PySem.layNew
  split
  · rename_i slot wd hs
    dsimp only
    unfold SetTable.freeSlot at hs
    split at hs
    · rename_i j d hp
      cases hs
      obtain ⟨h1, h2⟩ := probe_empty h.dum _ _ j d rfl (by unfold SetTable.probe at hp; exact hp)
      subst h2
      unfold SetTable.orStandIn
      split
      · exact h.put h1
      · exact (h.put h1).stand _
    · cases hs
  · exact h.stand _
theorem map_sub {β : Type} (g : Nat → Option β) : ∀ l : List Nat, List.Sublist ((l.filterMap fun j => (g j).map (j, ·)).map (·.1)) l
  | [] => List.Sublist.refl _
  | a :: l => by
    rw [List.filterMap_cons]
    cases g a with
    | none => exact (map_sub g l).cons a
    | some y => exact (map_sub g l).cons₂ a
theorem TOk.relay {t : SetTable} {b : Bool} (h : TOk t b) (es : Array (Int × Value)) (wanted : Nat) : TOk (relayAll t es wanted).2.1 b := by
  unfold relayAll
  split
  · rename_i t' order hr
    dsimp only
    split
    · unfold SetTable.relaid SetTable.laid at hr
      obtain ⟨owner, _, hr⟩ := Option.bind_eq_some_iff.mp hr
      cases hr
      exact ⟨by
        show (List.toArray _).toList.Pairwise _
        rw [List.toList_toArray]
        exact List.pairwise_lt_range.sublist (map_sub _ _), rfl, h.led⟩
    · exact h.stand _
  · exact h.stand _
end L2
namespace L2
open PySem PySem.Spec PyProof.Rows
def kI (e : Int × Value) : Int := match e.2 with | .int k _ => k | _ => 0
def SetI (h : Heap) (a : Addr) (l : List Int) (b : Bool) : Prop :=
  ∃ o es ep t, h.get? a = some o ∧ o.ExactSet ∧ o.data = .set es ep t ∧ (∀ e ∈ es.toList, ∃ k tk, e = (hashInt k, .int k tk)) ∧ (es.toList.map kI).Perm l ∧ es.size < scanBound ∧ t.fits es.size = true ∧ TOk t b
theorem elems_of {prog : Program} {w : World} {es : List (Int × Value)} (h : ∀ e ∈ es, ∃ k tk, e = (hashInt k, .int k tk)) : ElemsOf (intKind prog w) es := fun e he => by
  obtain ⟨k, tk, rfl⟩ := h e he
  exact ⟨⟨k, intKind_is _ _ _ _, rfl⟩, rfl⟩
section
variable {prog : Program} {w : World} {A : Around} {E : Value → Shared → Prop} {s : Shared}
theorem tail_ok {g : Bool → Sem Unit} (hg : ∀ (c : Bool) (s1 : Shared) (Q' : Unit → Shared → Prop), Q' () s1 → wpAny (model prog w) A (g c) Q' E s1) {a : Addr} {o : Obj} {es : Array (Int × Value)} {ep : Nat} {t : SetTable} {b : Bool} {l : List Int} (ho : s.heap.get? a = some o) (hex : o.ExactSet) (hd : o.data = .set es ep t)
    {fs : Array (Int × Value)} {t2 : SetTable} (hel : ∀ e ∈ fs.toList, ∃ k tk, e = (hashInt k, .int k tk)) (hp : (fs.toList.map kI).Perm l) (hb : fs.size < scanBound) (hf : t2.fits fs.size = true) (ht : TOk t2 b) {wd : Bool} {R : Option Bool → Shared → Prop}
    (h : ∀ h', Heap.SameBut a s.heap h' → SetI h' a l b → R (some true) { s with heap := h' }) :
    wpAny (model prog w) A (do storeSet a fs t2; if (!wd && t2.tooFull) = true then do g (relayAll t2 fs (SetTable.grown fs.size)).2.2; storeSet a (relayAll t2 fs (SetTable.grown fs.size)).1 (relayAll t2 fs (SetTable.grown fs.size)).2.1; pure (some true) else pure (some true)) R E s := by
  refine wpAny_bind (wpAny_storeSet_of ho hd ?_ (fits_of_scanBound hb))
  have g1 : (s.heap.update a (Obj.putSet fs t2)).get? a = some { o with data := .set fs (ep + 1) t2 } := by
    have z := Heap.get?_update_self (Obj.putSet fs t2) ho (by rw [putSet_of fs t2 hd]; rfl)
    rw [putSet_of fs t2 hd] at z; exact z
  have sb := Heap.SameBut.update s.heap a (Obj.putSet fs t2)
  split
  · have hp2 := relayAll_perm t2 fs (SetTable.grown fs.size)
    have hf2 := relayAll_fits t2 fs (SetTable.grown fs.size)
    have ht2 := ht.relay fs (SetTable.grown fs.size)
    generalize relayAll t2 fs (SetTable.grown fs.size) = Z at hp2 hf2 ht2 ⊢
    obtain ⟨gs, t3, gv⟩ := Z
    dsimp only at hp2 hf2 ht2 ⊢
    have sz : gs.size = fs.size := by rw [← Array.length_toList, hp2.length_eq, Array.length_toList]
    refine wpAny_bind (hg _ _ _ (wpAny_bind (wpAny_storeSet_of g1 rfl ?_ (fits_of_scanBound (by rw [sz]; exact hb)))))
    have g2 : ((s.heap.update a (Obj.putSet fs t2)).update a (Obj.putSet gs t3)).get? a = some { o with data := .set gs (ep + 1 + 1) t3 } := by
      have z := Heap.get?_update_self (Obj.putSet gs t3) g1 (by rw [putSet_of gs t3 rfl]; rfl)
      rw [putSet_of gs t3 rfl] at z; exact z
    exact wpAny_pure (h _ (sb.trans (Heap.SameBut.update _ a _)) ⟨_, gs, _, t3, g2, hex, rfl, fun e he => hel e (hp2.mem_iff.mp he), (hp2.map kI).trans hp, by rw [sz]; exact hb, hf2, ht2⟩)
  · exact wpAny_pure (h _ sb ⟨_, fs, _, t2, g1, hex, rfl, hel, hp, hb, hf, ht⟩)
theorem add_ok {a : Addr} {l : List Int} {b : Bool} {k : Int} {tk : Tok} {Q : Bool → Shared → Prop} (hS : SetI s.heap a l b) (hroom : l.length + 1 < scanBound)
    (h : ∀ (r : Bool) h', Heap.SameBut a s.heap h' → SetI h' a (step_dedup l k) b → Q r { s with heap := h' }) : wpAny (model prog w) A (setAddHashed a (.int k tk) (hashInt k)) Q E s := by
  obtain ⟨o, es, ep, t, ho, hex, hd, hel, hp, hb, hf, ht⟩ := hS
  have hE := elems_of (prog := prog) (w := w) hel
  have hlen : es.size = l.length := by rw [← hp.length_eq, List.length_map, Array.length_toList]
  have hmem : (∃ e ∈ es.toList, (intKind prog w).is k e.2 = true) ↔ k ∈ l := by
    rw [← hp.mem_iff, List.mem_map]
    constructor
    · rintro ⟨e, he, q⟩
      obtain ⟨k', tk', rfl⟩ := hel e he
      exact ⟨_, he, by obtain ⟨_, z⟩ := Value.isInt_shape (show Value.isInt k (.int k' tk') = true from q); cases z; rfl⟩
    · rintro ⟨e, he, q⟩
      obtain ⟨k', tk', rfl⟩ := hel e he
      exact ⟨_, he, by rw [← q]; exact intKind_is _ _ _ _⟩
  unfold setAddHashed setAddHashedIn
  refine wpAny_holding (wpAny_bind (wpAny_setState_of ho hd hf ?_))
  dsimp only
  rw [byScan_of (knd := intKind prog w) rfl hb hE]
  simp only [↓reduceIte]
  unfold setAddByScan
  refine wpAny_bind (wpAny_bind (wpAny_rule (wpAny_bind (wpAny_setScan_of (knd := intKind prog w) (k := k) (intKind_is _ _ _ _) ho hd hf hE ?_))))
  cases hr : List.findIdx? (fun e => (intKind prog w).is k e.2) es.toList with
  | some j =>
    dsimp only
    obtain ⟨hj, hpj, _⟩ := List.findIdx?_eq_some_iff_getElem.mp hr
    have hk : k ∈ l := hmem.mp ⟨es.toList[j], List.getElem_mem hj, hpj⟩
    refine wpAny_pure (wpAny_pure ?_)
    have z := h false s.heap (Heap.SameBut.refl a s.heap) ⟨o, es, ep, t, ho, hex, hd, hel, by unfold step_dedup; rw [if_pos (by rw [List.any_eq_true]; exact ⟨k, hk, by simp⟩)]; exact hp, hb, hf, ht⟩
    exact z
  | none =>
    dsimp only
    have hk : k ∉ l := fun z => by
      obtain ⟨e, he, q⟩ := hmem.mpr z
      have := List.findIdx?_eq_none_iff.mp hr e he
      rw [q] at this; cases this
    have hst : step_dedup l k = l ++ [k] := by
      unfold step_dedup
      rw [if_neg]
      intro z
      rw [List.any_eq_true] at z
      obtain ⟨y, hy, e⟩ := z
      exact hk (by rw [← beq_iff_eq.mp e]; exact hy)
    rw [hst] at h
    have hperm := layNew_perm t es (hashInt k) (.int k tk)
    have hfits := layNew_fits t es (hashInt k) (.int k tk)
    have htn := ht.layNew es (hashInt k) (.int k tk)
    show wpAny _ _ (let L := layNew t es (hashInt k) (.int k tk); _) _ _ _
    have hgw : ∀ (c : Bool) {s1 : Shared} {Q' : Unit → Shared → Prop}, Q' () s1 → wpAny (model prog w) A (match c with | true => rule "set.scan.the-table-gave-way" | false => pure ()) Q' E s1 :=
      fun c s1 Q' hq => by cases c <;> first | exact wpAny_pure hq | exact wpAny_rule hq
    generalize layNew t es (hashInt k) (.int k tk) = Z at hperm hfits htn ⊢
    obtain ⟨fs, t1, wd, gv⟩ := Z
    dsimp only at hperm hfits htn ⊢
    rw [Array.toList_push] at hperm
    have hel1 : ∀ e ∈ fs.toList, ∃ k tk, e = (hashInt k, .int k tk) := fun e he => by
      rcases List.mem_append.mp (hperm.mem_iff.mp he) with q | q
      · exact hel e q
      · rw [List.mem_singleton.mp q]; exact ⟨k, tk, rfl⟩
    have hp1 : (fs.toList.map kI).Perm (l ++ [k]) := by
      refine (hperm.map kI).trans ?_
      rw [List.map_append]
      exact hp.append (List.Perm.refl _)
    have sz1 : fs.size = l.length + 1 := by rw [← Array.length_toList, hperm.length_eq, List.length_append, Array.length_toList, hlen]; rfl
    refine wpAny_bind (hgw _ ?_)
    split
    · refine wpAny_bind ?_
      rw [hashByValue_scannable 8 rfl]
      refine wpAny_pure (tail_ok (b := b) (l := l ++ [k]) ?_ ho hex hd hel1 hp1 (by omega) ?_ ?_ ?_)
      · intro c s1 Q' hq; cases c <;> first | exact wpAny_pure hq | exact wpAny_rule hq
      · split
        · exact hfits
        · exact SetTable.fits_plain_off hfits
      · split
        · exact htn
        · exact htn.plain
      · intro h' sb' hS'; dsimp only; exact wpAny_pure (h true h' sb' hS')
    · refine wpAny_bind (wpAny_pure ?_)
      simp only [↓reduceIte]
      refine tail_ok (b := b) (l := l ++ [k]) ?_ ho hex hd hel1 hp1 (by omega) hfits htn ?_
      · intro c s1 Q' hq; cases c <;> first | exact wpAny_pure hq | exact wpAny_rule hq
      · intro h' sb' hS'; dsimp only; exact wpAny_pure (h true h' sb' hS')
end
end L2
namespace L2
open PySem PySem.Spec PyProof.Rows
/-- each once, in the order of the first places -/
def dd1 (ns : List Int) : List Int := ns.foldl step_dedup []
theorem first_dd (ns : List Int) : firstMet (fun i => ns.getD i 0) ns.length = dd1 ns := by
  unfold firstMet dd1
  congr 1
  refine List.ext_getElem (by simp) fun i h1 h2 => ?_
  simp [List.getD_eq_getElem?_getD, List.getElem?_eq_getElem h2]
section
variable {prog : Program} {w : World} {A : Around} {R : Result → Shared → Prop} {I : Addr} {fp wr : List Addr} {G : Array GenState → Array GenState → Prop} {n : Nat} {P : Nat → Value → Prop} {St : Nat → Shared → Prop}
theorem SetI.at {h h' : Heap} {a : Addr} {l : List Int} {b : Bool} (x : SetI h a l b) (k : ∀ o, h.get? a = some o → h'.get? a = some o) : SetI h' a l b := by
  obtain ⟨o, es, ep, t, ho, r⟩ := x
  exact ⟨o, es, ep, t, k o ho, r⟩
theorem loop_ok {b : Bool} (W : WalksS prog w A.in1 I fp wr G n P St) (S : Addr) (hSf : S ∉ fp) (val : Nat → Int) (hval : ∀ i v, P i v → ∃ t, v = .int (val i) t) (hb : n + 1 < scanBound) : ∀ (k i : Nat) (s : Shared), n - i = k → i ≤ n → St i s → SetI s.heap S (firstMet val i) b →
    (∀ s', Moved (S :: wr) G s s' → SetI s'.heap S (firstMet val n) b → R (.ok (.ret .none)) s') → codeAny (model prog w) A (.builtin "set.update.loop" ⟨[.ref S, .ref I], []⟩) R s := by
  have nw : S ∉ wr := fun z => hSf (W.sub _ z)
  have up : ∀ c ∈ wr, c ∈ S :: wr := fun c z => List.mem_cons_of_mem _ z
  intro k
  induction k with
  | zero =>
    intro i s hk hi hst hS hR
    obtain rfl : i = n := by omega
    refine codeAny_builtin PyProof.Rows.F.entry_set_update_loop (by
      rw [Around.under_plainId PyProof.Rows.F.plain_set_update_loop _]
      show wpAny _ A.in1 (pyNext (.ref I) >>= _) _ _ s
      exact wpAny_bind (W.done s _ _ hst fun s' hm => wpAny_pure (hR s' (hm.mono up) (hS.at fun o z => hm.heap S _ nw z))))
  | succ k ih =>
    intro i s hk hi hst hS hR
    have hlt : i < n := by omega
    refine codeAny_builtin PyProof.Rows.F.entry_set_update_loop (by
      rw [Around.under_plainId PyProof.Rows.F.plain_set_update_loop _]
      show wpAny _ A.in1 (pyNext (.ref I) >>= _) _ _ s
      refine wpAny_bind (W.item i s _ _ hlt hst fun v s' hP hst' hm => ?_)
      obtain ⟨t, rfl⟩ := hval i v hP
      have hS' : SetI s'.heap S (firstMet val i) b := hS.at fun o z => hm.heap S _ nw z
      show wpAny _ A.in1 (holding [Value.int (val i) t] (setAdd S (.int (val i) t)) >>= _) _ _ s'
      refine wpAny_bind (wpAny_holding ?_)
      unfold setAdd
      refine wpAny_holding (wpAny_bind ((intKind prog w).pyHash (k := val i) (intKind_is _ _ _ _) ?_))
      have room : (firstMet val i).length + 1 < scanBound := by have := firstMet_length_le val i; omega
      refine add_ok (s := { s' with toks := s'.toks + 1 }) (k := val i) (tk := t) hS' room fun r h' sb hS2 => ?_
      have hSi : SetI h' S (firstMet val (i + 1)) b := by rw [firstMet_succ]; exact hS2
      refine wpAny_pure ⟨plainId_quiet PyProof.Rows.F.plain_set_update_loop _, ih (i + 1) _ (by omega) hlt (W.frame _ s' _ _ hst' (Nat.le_succ _) fun c hc o e => ?_) hSi fun s2 hm2 hS3 => ?_⟩
      · rw [sb.2 c (fun z : c = S => hSf (by rw [← z]; exact hc))]; exact e
      · refine hR s2 (Moved.trans W.gtrans ((hm.mono up).then_heap (Nat.le_succ _) fun c o hc e => ?_) hm2) hS3
        rw [sb.2 c (fun z : c = S => hc (by rw [z]; exact List.mem_cons_self))]; exact e)
end
section
variable {prog : Program} {w : World} {A : Around} {E : Value → Shared → Prop} {s : Shared}
theorem new_ok (a : Value) {Q1 : Value → Shared → Prop} (h : Q1 (.ref s.heap.objs.size) { s with heap := s.heap.push { cls := .type "set", dict := none, data := .set #[] 0 (.fresh 0 0 (!w.params.followText "set-order")) } }) :
    codeAny (model prog w) A (.call (.builtin "set.__new__") ⟨[.type "set", a], []⟩) (wants Q1 E) s := by
  refine codeAny_of_tree (by
    show wpAny _ A.in1 (do checkBuiltinCall "set.__new__" ⟨[.type "set", a], []⟩; again (.builtin "set.__new__" ⟨[.type "set", a], []⟩)) _ _ s
    refine wpAny_bind (wpAny_of_eq (PySem.F.newCall_set_1 a) (wpAny_pure ⟨plainId_quiet PySem.F.plain_set_new _, codeAny_builtin PySem.F.entry_set_new ?_⟩))
    rw [Around.under_plainId PySem.F.plain_set_new _]
    unfold Builtin.«set.__new__» Builtin.Frozenset.newClass
    have hsub := sub_set_self
    obtain ⟨hp, g, d, tk, os⟩ := s
    dsimp only at h ⊢
    wp_walk
    refine wpAny_askSetting (wpAny_pure ?_)
    dsimp only
    simp only [newObj]
    exact wpAny_bind (wpAny_alloc (wpAny_pure (wpAny_pure h))))
theorem setI_fresh (h : Heap) (b : Bool) : SetI (h.push { cls := .type "set", dict := none, data := .set #[] 0 (.fresh 0 0 b) }) h.objs.size [] b :=
  ⟨_, #[], 0, _, Heap.get?_push_size _ rfl, ⟨rfl, rfl, rfl⟩, rfl, fun e he => by simp at he, List.Perm.refl _, by unfold scanBound; decide, rfl, ⟨List.Pairwise.nil, rfl, rfl⟩⟩
set_option maxHeartbeats 3200000 in
theorem setL_ok {l : Addr} {items : Array Value} {ns : List Int} {Q : Value → Shared → Prop} (hh : A.handled = none) (hl : s.heap.IsList l items) (hi : IntsAre items.toList ns) (hb : items.size + 1 < scanBound)
    (h : ∀ (h' : Heap) (tk : Nat), SetI h' s.heap.objs.size (dd1 ns) (!w.params.followText "set-order") → (∀ c o, s.heap.get? c = some o → h'.get? c = some o) → Q (.ref s.heap.objs.size) { s with heap := h', toks := tk }) :
    wpAny (model prog w) A (call (.type "set") [.ref l]) Q E s := by
  obtain ⟨c0, tl, hmro⟩ := PySem.F.called_set.mro
  have hmade := PySem.F.called_set.made
  have hsub := PySem.F.called_set.sub
  have hns : ns.length = items.size := by rw [← hi.length, Array.length_toList]
  refine wpAny_call (codeAny_of_tree ?_)
  show wpAny _ _ (callAny (.type "set") _) _ _ _
  refine wpAny_pure ⟨Code.quiet_builtin _ (by decide +kernel), codeAny_builtin PySem.F.entry_type_call ?_⟩
  rw [Around.under_plain (weight_type_call_type "set" [.ref l] []) rfl]
  have h1 := PySem.F.called_set.notType
  have h2 := PySem.F.called_set.canCreate
  have hct := PySem.F.typeCall_set_1 (.ref l)
  repeat (any_goals (first | assumption | wp_step))
  generalize hbb : (!w.params.followText "set-order") = bb at h
  refine codeAny_mono (new_ok (.ref l) (E := E) (Q1 := fun obj s1 => obj = .ref s.heap.objs.size ∧ s1 = { s with heap := s.heap.push { cls := .type "set", dict := none, data := .set #[] 0 (.fresh 0 0 bb) } }) (by rw [hbb]; exact ⟨rfl, rfl⟩)) fun r s1 hr => ?_
  cases r with
  | error e => exact hr
  | ok fl =>
    cases fl with
    | next => exact hr.elim
    | brk => exact hr.elim
    | cont => exact hr.elim
    | ret obj =>
      obtain ⟨rfl, rfl⟩ := hr
      have hS : (s.heap.push { cls := .type "set", dict := none, data := .set #[] 0 (.fresh 0 0 bb) }).get? s.heap.objs.size = some { cls := .type "set", dict := none, data := .set #[] 0 (.fresh 0 0 bb) } := Heap.get?_push_size _ rfl
      have hT : Shared.TypeIs { s with heap := s.heap.push { cls := .type "set", dict := none, data := .set #[] 0 (.fresh 0 0 bb) } } (.ref s.heap.objs.size) "set" := ⟨_, hS, rfl⟩
      have hli := PySem.F.called_set.init.lookup
      have hbi := PySem.F.called_set.init.bind (.ref s.heap.objs.size)
      repeat (any_goals (first | assumption | wp_step))
      refine codeAny_mono (codeAny_call_builtin (R := wants (fun r s2 => r = .none ∧ ∃ h' tk, s2 = { s with heap := h', toks := tk } ∧ SetI h' s.heap.objs.size (dd1 ns) bb ∧ (∀ c o, s.heap.get? c = some o → h'.get? c = some o)) E) PySem.F.called_set.init.plain PySem.F.entry_set_init (check_set_init_1 hT ?_)) fun r2 s2 hr2 => ?_
      · obtain ⟨ol, hol, hcl, nl, hdl⟩ := hl
        obtain ⟨ocls, odict, odata, oslots⟩ := ol
        simp only at hcl hdl
        subst hcl; subst hdl
        have hol' : (s.heap.push { cls := .type "set", dict := none, data := .set #[] 0 (.fresh 0 0 bb) }).get? l = some { cls := .type "list", dict := odict, data := .seq items nl, slots := oslots } := Heap.get?_push_of_some _ hol
        have hsls := PySem.F.sub_list_set
        have hslf := PySem.F.sub_list_frozenset
        have hne : (Value.type "list" == Value.type "dict") = false := by decide
        have hl1 : (s.heap.push { cls := .type "set", dict := none, data := .set #[] 0 (.fresh 0 0 bb) }).IsList l items := ⟨_, hol', rfl, nl, rfl⟩
        unfold Builtin.«set.__init__» noKeywords Builtin.Frozenset.updateFrom
        generalize hPI : pyIter = PI
        wp_walk
        subst hPI
        refine wpAny_pyIter_list hl1 ?_; refine wpAny_bind (wpAny_runValue ?_)
        have hlS : l < s.heap.objs.size := Heap.lt_size hol
        have hh3 : A.in1.in1.in1.handled = none := by simp [hh]
        have hneI : l ≠ (s.heap.push { cls := .type "set", dict := none, data := .set #[] 0 (.fresh 0 0 bb) }).objs.size := by
          rw [Heap.size_push]; exact Nat.ne_of_lt (Nat.lt_succ_of_lt hlS)
        have hSf : s.heap.objs.size ∉ [(s.heap.push { cls := .type "set", dict := none, data := .set #[] 0 (.fresh 0 0 bb) }).objs.size, l] := by
          rw [Heap.size_push]; simp only [List.mem_cons, List.not_mem_nil, or_false, not_or]
          exact ⟨Nat.ne_of_lt (Nat.lt_succ_self _), Nat.ne_of_gt hlS⟩
        have hval : ∀ (i : Nat) (v : Value), items[i]? = some v → ∃ t, v = .int ((fun i => ns.getD i 0) i) t := fun i v hv => hi.int_at i v (by rw [Array.getElem?_toList]; exact hv)
        refine loop_ok (b := bb) ((Walks.list hh3 _ l hneI items).toS) s.heap.objs.size hSf (fun i => ns.getD i 0) hval hb (items.size - 0) 0 _ (by omega) (Nat.zero_le _) ⟨⟨_, Heap.get?_push_size _ rfl, rfl, rfl⟩, (hl1.push _)⟩ ?hS0 ?hR
        case hS0 => exact (setI_fresh s.heap bb).at fun o z => Heap.get?_push_of_some _ z
        case hR =>
          intro s' hm hS'
          obtain ⟨h', g', d', tk', os'⟩ := s'
          obtain rfl : g' = s.gens := hm.gens
          obtain rfl : d' = s.drawn := hm.drawn
          obtain rfl : os' = s.os := hm.os
          show wpAny _ _ _ _ _ _
          refine wpAny_pure ?_
          show wpAny _ _ (ret Value.none) _ _ _
          refine wpAny_pure ⟨rfl, h', tk', rfl, by rw [← first_dd, hns]; exact hS', fun c o e => ?_⟩
          have hlt := Heap.lt_size e
          refine hm.heap c o ?_ (Heap.get?_push_of_some _ (Heap.get?_push_of_some _ e))
          simp only [List.mem_cons, List.not_mem_nil, or_false, not_or]
          exact ⟨Nat.ne_of_lt hlt, by rw [Heap.size_push]; exact Nat.ne_of_lt (Nat.lt_succ_of_lt hlt)⟩
      · cases r2 with
        | error e => exact hr2
        | ok fl2 =>
          cases fl2 with
          | next => exact hr2.elim
          | brk => exact hr2.elim
          | cont => exact hr2.elim
          | ret r =>
            obtain ⟨rfl, h', tk, rfl, hS', hk'⟩ := hr2
            repeat (any_goals (first | assumption | wp_step))
            exact h _ _ hS' hk'
end
end L2
namespace L2
open PySem PySem.Spec PyProof.Rows
namespace SF
theorem sit_next : Slot "set_iterator" "__next__" "set_iterator.__next__" := Slot.of (owner := "set_iterator") (n := "__next__") (by rw [typeLookup_type, builtinLookup_eq_fast]; kernel_rfl) (by decide +kernel) (by decide +kernel) (by decide +kernel) (by first | exact .inl (by decide +kernel) | exact .inr (by decide +kernel)) (by rw [isSubtype_type]; kernel_rfl)
theorem sit_iter : Slot "set_iterator" "__iter__" "set_iterator.__iter__" := Slot.of (owner := "set_iterator") (n := "__iter__") (by rw [typeLookup_type, builtinLookup_eq_fast]; kernel_rfl) (by decide +kernel) (by decide +kernel) (by decide +kernel) (by first | exact .inl (by decide +kernel) | exact .inr (by decide +kernel)) (by rw [isSubtype_type]; kernel_rfl)
theorem e_next : entryFor table "set_iterator.__next__" = some Builtin.«set_iterator.__next__» := entryFor_of_tree (by kernel_rfl)
theorem e_iter : entryFor table "set_iterator.__iter__" = some Builtin.«dict_keyiterator.__iter__» := entryFor_alias (id' := "dict_keyiterator.__iter__") (by kernel_rfl) rfl (by decide +kernel) (by kernel_rfl)
theorem e_set : entryFor table "set.__iter__" = some Builtin.«frozenset.__iter__» := entryFor_alias (id' := "frozenset.__iter__") (by kernel_rfl) rfl (by decide +kernel) (by kernel_rfl)
theorem a_next (a : Value) : argsOk "set_iterator.__next__" ⟨[a], []⟩ := by unfold argsOk; kernel_rfl
theorem a_iter (a : Value) : argsOk "set_iterator.__iter__" ⟨[a], []⟩ := by unfold argsOk; kernel_rfl
end SF
def SIt (h : Heap) (it a : Addr) (first : Value) (i n ep : Nat) : Prop := ∃ o, h.get? it = some o ∧ o.cls = .type "set_iterator" ∧ o.data = .fields #[first, rawInt i, .ref a, rawInt n, rawInt ep]
def SOb (h : Heap) (a : Addr) (es : Array (Int × Value)) (ep : Nat) (t : SetTable) : Prop := ∃ o, h.get? a = some o ∧ o.ExactSet ∧ o.data = .set es ep t
theorem SIt.ty {s : Shared} {it a : Addr} {f : Value} {i n ep : Nat} (x : SIt s.heap it a f i n ep) : s.TypeIs (.ref it) "set_iterator" := let ⟨o, ho, hc, _⟩ := x; ⟨o, ho, hc⟩
theorem SIt.at {h h' : Heap} {it a : Addr} {f : Value} {i n ep : Nat} (x : SIt h it a f i n ep) (k : ∀ o, h.get? it = some o → h'.get? it = some o) : SIt h' it a f i n ep := let ⟨o, ho, r⟩ := x; ⟨o, k o ho, r⟩
theorem SOb.at {h h' : Heap} {a : Addr} {es : Array (Int × Value)} {ep : Nat} {t : SetTable} (x : SOb h a es ep t) (k : ∀ o, h.get? a = some o → h'.get? a = some o) : SOb h' a es ep t := let ⟨o, ho, r⟩ := x; ⟨o, k o ho, r⟩
section
variable {prog : Program} {w : World} {A : Around} {E : Value → Shared → Prop} {s : Shared} {it a : Addr} {es : Array (Int × Value)} {ep : Nat} {t : SetTable}
theorem si_self {f : Value} {i n : Nat} {Q : Value → Shared → Prop} (hit : SIt s.heap it a f i n ep) (h : Q (.ref it) s) : wpAny (model prog w) A (pyIter (.ref it)) Q E s := by
  refine wpAny_pyIter_slot hit.ty SF.sit_iter (wpAny_call_entry SF.sit_iter hit.ty SF.e_iter ?_ (SF.a_iter _))
  show wpAny _ _ (ret (.ref it)) _ _ s
  exact wpAny_pure ⟨_, rfl, "set_iterator", _, hit.ty, SF.sit_next.lookup, h⟩
/-- what the iterator does, with the set as it stands -/
def nextTail (it a : Addr) (first : Value) (i ep : Nat) : Sem Fin := do
  if let .int slot _ := first then
    match ← setNext a slot.toNat i ep with
    | some (x, next) =>
      setField (.ref it) 0 (rawInt next)
      setField (.ref it) 1 (rawInt ((i : Int) + 1))
      ret x
    | none => setField (.ref it) 2 .none; raiseNew (← newExc (.type "StopIteration") [])
  else
    let some places ← seqItems? first | unsupported "internal:set_iterator"
    match places[i]? with
    | some (.int place _) =>
      let x ← setNextDrawn a place.toNat ep
      setField (.ref it) 1 (rawInt ((i : Int) + 1))
      ret x
    | some _ => unsupported "internal:set_iterator"
    | none => setField (.ref it) 0 (rawInt 0); setField (.ref it) 2 .none; raiseNew (← newExc (.type "StopIteration") [])
theorem si_next {f : Value} {i : Nat} {Q : Option Value → Shared → Prop} (hit : SIt s.heap it a f i es.size ep) (hs : SOb s.heap a es ep t) (hf : t.fits es.size = true)
    (h : wpAny (model prog w) A.in1 (nextTail it a f i ep) (fun fin s' => match fin with | .done (.ret v) => Q (some v) s' | _ => False) (fun e s' => ∃ o, e = .ref o ∧ s'.TypeIs (.ref o) "StopIteration" ∧ Q none s') s) : wpAny (model prog w) A (pyNext (.ref it)) Q E s := by
  obtain ⟨o, ho, hc, hd⟩ := id hit
  obtain ⟨os, hos, hex, hds⟩ := id hs
  unfold pyNext
  refine wpAny_bind (wpAny_attempt (wpAny_callSpecial?_slot (name := Str.ofString "__next__") hit.ty SF.sit_next (wpAny_call_entry SF.sit_next hit.ty SF.e_next ?_ (SF.a_next _))))
  unfold Builtin.«set_iterator.__next__»
  refine wpAny_bind (wpAny_pure (wpAny_bind (wpAny_fieldsOf ho hd ?_)))
  dsimp only [rawInt]
  refine wpAny_bind ?_
  unfold setEntries
  refine wpAny_bind (wpAny_setState_of hos hds hf (wpAny_pure ?_))
  rw [if_neg (by simp)]
  refine wpAny_mono h (fun fin s' hq => ?_) fun e s' hq => ?_
  · rcases fin with (_ | _ | _ | v) | _
    · exact hq.elim
    · exact hq.elim
    · exact hq.elim
    · exact ⟨v, rfl, wpAny_pure hq⟩
    · exact hq.elim
  · obtain ⟨x, rfl, hT, hq⟩ := hq
    refine wpAny_bind (wpAny_isInstance (T := "StopIteration") (b := true) hT isSubtype_stop ?_)
    exact wpAny_pure hq
/-- a StopIteration made and thrown -/
theorem stop_ok {Q : Fin → Shared → Prop} (hh : A.handled = none) {E' : Value → Shared → Prop} (h : ∀ h' x, (∀ c o, s.heap.get? c = some o → h'.get? c = some o) → Shared.TypeIs { s with heap := h' } (.ref x) "StopIteration" → E' (.ref x) { s with heap := h' }) :
    wpAny (model prog w) A (do raiseNew (← newExc (.type "StopIteration") [])) Q E' s := by
  refine wpAny_bind ?_
  simp only [newExc, newTuple]
  refine wpAny_bind (wpAny_newObj_type ?_ (by size_fits))
  refine wpAny_bind (m := firstArgMember _ _) (wpAny_of_eq (a := Value.none) (by first | rfl | (simp only [firstArgMember]; rfl)) ?_)
  refine wpAny_newObj_type ?_ (by size_fits)
  simp only [raiseNew]
  refine wpAny_bind (wpAny_handled ?_)
  rw [hh]
  refine wpAny_bind (wpAny_pure (wpAny_throw ?_))
  exact h _ _ (fun c o e => Heap.get?_push_of_some _ (Heap.get?_push_of_some _ e)) ⟨_, Heap.get?_push_size _ rfl, rfl⟩
theorem si_put {f v : Value} {i n j : Nat} (hit : SIt s.heap it a f i n ep) {Q : Unit → Shared → Prop} (hj : j < 5) (h : ∀ h', h'.get? it = (s.heap.update it (Obj.mapFields (·.setIfInBounds j v))).get? it → Heap.SameBut it s.heap h' → Q () { s with heap := h' }) : wpAny (model prog w) A (setField (.ref it) j v) Q E s := by
  obtain ⟨o, ho, hc, hd⟩ := hit
  exact wpAny_setField ho hd (by simpa using hj) (h _ rfl (Heap.SameBut.update ..))
theorem si_upd {h : Heap} {f v : Value} {i n j : Nat} (hit : SIt h it a f i n ep) : ∃ o, (h.update it (Obj.mapFields (·.setIfInBounds j v))).get? it = some o ∧ o.cls = .type "set_iterator" ∧ o.data = .fields (#[f, rawInt i, .ref a, rawInt n, rawInt ep].setIfInBounds j v) := by
  obtain ⟨o, ho, hc, hd⟩ := hit
  exact ⟨_, Heap.get?_update_self _ ho (Obj.isFreed_of_fields (Obj.data_mapFields hd _)), (Obj.cls_mapFields ..).trans hc, by rw [Obj.data_mapFields hd]⟩
def PoI (ord : List (Int × Value)) (i : Nat) (v : Value) : Prop := ∃ e, ord[i]? = some e ∧ v = e.2
/-- by the table or by the text: the slot is a number -/
theorem walk_num (hh : A.handled = none) (hne : a ≠ it) (hf : t.fits es.size = true) (ord : List (Int × Value)) (hl : ord.length = es.size) (sl : Nat → Nat)
    (hn : ∀ (B : Around) (i : Nat) (s : Shared) (Q : Option (Value × Nat) → Shared → Prop) (E : Value → Shared → Prop), i ≤ es.size → SOb s.heap a es ep t → Q ((ord[i]?).map fun e => (e.2, sl (i + 1))) s → wpAny (model prog w) B (setNext a (sl i) i ep) Q E s) :
    Walks prog w A it [it, a] [it] es.size (PoI ord) (fun i h => SIt h it a (rawInt (sl i)) i es.size ep ∧ SOb h a es ep t) where
  sub := fun c hc => by simp at hc; simp [hc]
  frame := fun _ _ _ st hk => ⟨st.1.at fun o e => hk it (by simp) o e, st.2.at fun o e => hk a (by simp) o e⟩
  item := fun i s Q E hi st hQ => by
    have hio : i < ord.length := by rw [hl]; exact hi
    refine si_next st.1 st.2 hf ?_
    unfold nextTail
    dsimp only [rawInt]
    refine wpAny_bind ?_
    rw [show (sl i : Int).toNat = sl i from Int.toNat_natCast _]
    refine hn _ i s _ _ (Nat.le_of_lt hi) st.2 ?_
    rw [List.getElem?_eq_getElem hio]
    dsimp only [Option.map_some]
    refine wpAny_bind (si_put st.1 (by decide) fun h1 e1 b1 => ?_)
    obtain ⟨o1, ho1, hc1, hd1⟩ := si_upd (j := 0) (v := rawInt (sl (i + 1))) st.1
    have it1 : SIt h1 it a (rawInt (sl (i + 1))) i es.size ep := ⟨o1, e1.trans ho1, hc1, hd1⟩
    refine wpAny_bind (si_put (s := { s with heap := h1 }) it1 (by decide) fun h2 e2 b2 => ?_)
    obtain ⟨o2, ho2, hc2, hd2⟩ := si_upd (j := 1) (v := rawInt ((i : Int) + 1)) it1
    have it2 : SIt h2 it a (rawInt (sl (i + 1))) (i + 1) es.size ep := ⟨o2, e2.trans ho2, hc2, hd2⟩
    have kp : ∀ c o, c ≠ it → s.heap.get? c = some o → h2.get? c = some o := fun c o hc e => (b2.2 c hc).trans ((b1.2 c hc).trans e)
    exact wpAny_pure (hQ _ h2 s.toks ⟨_, List.getElem?_eq_getElem hio, rfl⟩ ⟨it2, st.2.at fun o e => kp a o hne e⟩ fun c o hc e => kp c o (fun z => hc (by simp [z])) e)
  done := fun s Q E st hQ => by
    refine si_next st.1 st.2 hf ?_
    unfold nextTail
    dsimp only [rawInt]
    refine wpAny_bind ?_
    rw [show (sl es.size : Int).toNat = sl es.size from Int.toNat_natCast _]
    refine hn _ es.size s _ _ (Nat.le_refl _) st.2 ?_
    rw [List.getElem?_eq_none (by rw [hl]; exact Nat.le_refl _)]
    dsimp only [Option.map_none]
    refine wpAny_bind (si_put st.1 (by decide) fun h1 e1 b1 => ?_)
    refine stop_ok (A := A.in1) (s := { s with heap := h1 }) hh fun h2 x k hT => ⟨x, rfl, hT, ?_⟩
    exact hQ h2 s.toks fun c o hc e => k c o ((b1.2 c (fun z => hc (by simp [z]))).trans e)
  self := fun _ _ _ _ st hQ => si_self st.1 hQ
end
end L2
namespace L2
open PySem PySem.Spec PyProof.Rows
theorem erase_perm {α : Type} : ∀ (l : List α) (i : Nat) (h : i < l.length), (l[i] :: l.eraseIdx i).Perm l
  | a :: l, 0, _ => List.Perm.refl _
  | a :: l, i + 1, h => by
    have := erase_perm l i (by simpa using h)
    simp only [List.getElem_cons_succ, List.eraseIdx_cons_succ]
    exact (List.Perm.swap _ _ _).trans (this.cons a)
theorem pick_go {α : Type} (next : Nat → Nat) : ∀ (fuel k : Nat) (left : List α) (out : Array α), left.length ≤ fuel → (pickOrder.go next fuel k left out).toList.Perm (out.toList ++ left)
  | 0, k, left, out, h => by
    have : left = [] := List.length_eq_zero_iff.mp (by omega)
    subst this
    unfold pickOrder.go
    simp
  | fuel + 1, k, left, out, h => by
    unfold pickOrder.go
    split
    · rename_i x hx
      obtain ⟨hi, e⟩ := List.getElem?_eq_some_iff.mp hx
      refine (pick_go next fuel (k + 1) _ (out.push x) (by rw [List.length_eraseIdx]; split <;> omega)).trans ?_
      rw [Array.toList_push, List.append_assoc]
      refine List.Perm.append_left _ ?_
      have := erase_perm left _ hi
      rw [e] at this
      exact this
    · rename_i hx
      have : left = [] := by
        cases left with
        | nil => rfl
        | cons a l =>
          exfalso
          rw [List.getElem?_eq_getElem (Nat.mod_lt _ (by simp))] at hx
          cases hx
      subst this
      simp
theorem pick_perm {α : Type} (next : Nat → Nat) (xs : Array α) : (pickOrder next xs).toList.Perm xs.toList := by
  unfold pickOrder
  have := pick_go next xs.size 0 xs.toList #[] (by simp)
  simpa using this
section
variable {prog : Program} {w : World} {A : Around} {E : Value → Shared → Prop} {s : Shared} {it a : Addr} {es : Array (Int × Value)} {ep : Nat} {t : SetTable}
theorem next_text (hb : w.params.followText "set-order" = true) (hf : t.fits es.size = true) (i : Nat) {Q : Option (Value × Nat) → Shared → Prop} (hs : SOb s.heap a es ep t) (q : Q (((pickOrder (w.params.setOrder a ep) es).toList[i]?).map fun e => (e.2, 0)) s) : wpAny (model prog w) A (setNext a 0 i ep) Q E s := by
  obtain ⟨o, ho, hex, hd⟩ := hs
  unfold setNext
  refine wpAny_bind (wpAny_setState_of ho hd hf ?_)
  dsimp only
  unfold setsByText
  refine wpAny_bind (wpAny_bind (wpAny_askSetting (wpAny_pure ?_)))
  show wpAny _ _ (if w.params.followText "set-order" = true then _ else _) _ _ _
  rw [if_pos hb]
  rw [if_neg (by simp)]
  unfold setWalk
  refine wpAny_bind (wpAny_bind (wpAny_setState_of ho hd hf ?_))
  dsimp only
  unfold setsByText
  refine wpAny_bind (wpAny_bind (wpAny_askSetting (wpAny_pure ?_)))
  show wpAny _ _ (if w.params.followText "set-order" = true then _ else _) _ _ _
  rw [if_pos hb]
  refine wpAny_bind (wpAny_askSetting (wpAny_pure (wpAny_pure ?_)))
  rw [Array.getElem?_toList] at q
  exact q
/-- the place ahead of which the next one is sought -/
def slT (t : SetTable) (i : Nat) : Nat := match i with | 0 => 0 | i + 1 => t.place.getD i 0 + 1
theorem below_slT {t : SetTable} {b : Bool} (h : TOk t b) {i : Nat} (hi : i ≤ t.place.size) : SetTable.below t.place (slT t i) = i := by
  cases i with
  | zero => exact below_zero h.ris
  | succ i =>
    show SetTable.below t.place (t.place.getD i 0 + 1) = i + 1
    rw [Array.getD_eq_getD_getElem?, Array.getElem?_eq_getElem (by omega)]
    exact below_next h.ris (by omega)
theorem next_table (hb : w.params.followText "set-order" = false) (hf : t.fits es.size = true) (ht : TOk t true) (hp : (!t.plain && decide (es.size > 1)) = false) (i : Nat) (hi : i ≤ es.size) {Q : Option (Value × Nat) → Shared → Prop} (hs : SOb s.heap a es ep t) (q : Q ((es.toList[i]?).map fun e => (e.2, slT t (i + 1))) s) : wpAny (model prog w) A (setNext a (slT t i) i ep) Q E s := by
  obtain ⟨o, ho, hex, hd⟩ := hs
  have hsz : t.place.size = es.size := by
    unfold SetTable.fits at hf
    simp only [Bool.and_eq_true, beq_iff_eq] at hf
    exact hf.1
  unfold setNext
  refine wpAny_bind (wpAny_setState_of ho hd hf ?_)
  dsimp only
  unfold setsByText
  refine wpAny_bind (wpAny_bind (wpAny_askSetting (wpAny_pure ?_)))
  show wpAny _ _ (if w.params.followText "set-order" = true then _ else _) _ _ _
  rw [hb, if_neg (by decide)]
  show wpAny _ _ (if (!t.plain && decide (es.size > 1)) = true then _ else _) _ _ _
  rw [hp, if_neg (by decide)]
  refine wpAny_bind ?_
  show wpAny _ _ (if (!t.led && !es.isEmpty) = true then _ else _) _ _ _
  rw [ht.led, if_neg (by simp)]
  refine wpAny_pure (wpAny_pure ?_)
  rw [below_slT ht (by rw [hsz]; exact hi)]
  rcases Nat.lt_or_ge i es.size with c | c
  · rw [Array.getElem?_eq_getElem c, Array.getElem?_eq_getElem (show i < t.place.size by omega)]
    rw [Array.getElem?_toList, Array.getElem?_eq_getElem c] at q
    have e : slT t (i + 1) = t.place[i]'(by omega) + 1 := by
      show t.place.getD i 0 + 1 = _
      rw [Array.getD_eq_getD_getElem?, Array.getElem?_eq_getElem (by omega)]; rfl
    show Q (some (es[i].2, t.place[i]'(by omega) + 1)) s
    rw [← e]
    exact q
  · rw [Array.getElem?_eq_none c]
    rw [Array.getElem?_toList, Array.getElem?_eq_none c] at q
    exact q
/-- the draws -/
theorem draw_ok {α : Type} : ∀ (n : Nat) (xs : List α) {s : Shared} {Q : List α → Shared → Prop}, xs.length ≤ n → (∀ ys d, ys.Perm xs → Q ys { s with drawn := d }) → wpAny (model prog w) A (drawOrder n xs) Q E s
  | 0, xs, s, Q, h, q => by
    have : xs = [] := List.length_eq_zero_iff.mp (by omega)
    subst this
    unfold drawOrder
    exact wpAny_pure (q [] s.drawn (List.Perm.refl _))
  | n + 1, [], s, Q, h, q => by
    unfold drawOrder
    exact wpAny_pure (q [] s.drawn (List.Perm.refl _))
  | n + 1, x :: xs, s, Q, h, q => by
    unfold drawOrder
    refine wpAny_bind ?_
    intro Γ p hΓ
    show (x :: xs).length ≠ 0 ∧ _
    refine ⟨by simp, ?_⟩
    have lt : (model prog w).w.draws .order (s.drawn.get .order) % (x :: xs).length < (x :: xs).length := Nat.mod_lt _ (by simp)
    generalize (model prog w).w.draws .order (s.drawn.get .order) % (x :: xs).length = i at lt
    have key : wpAny (model prog w) A (match (x :: xs)[i]? with | some y => (do return y :: (← drawOrder n ((x :: xs).eraseIdx i))) | none => unsupported "internal:drawOrder") Q E { s with drawn := s.drawn.bump .order } := by
      rw [List.getElem?_eq_getElem lt]
      refine wpAny_bind (draw_ok n _ (s := { s with drawn := s.drawn.bump .order }) (by rw [List.length_eraseIdx, if_pos lt]; simp at h ⊢; omega) fun ys d hp => wpAny_pure (q _ d ?_))
      exact (List.Perm.cons _ hp).trans (erase_perm _ _ lt)
    exact key
end
end L2
namespace L2
open PySem PySem.Spec PyProof.Rows
section
variable {prog : Program} {w : World} {A : Around} {E : Value → Shared → Prop} {s : Shared} {it a : Addr} {es : Array (Int × Value)} {ep : Nat} {t : SetTable}
def TPl (h : Heap) (pt : Addr) (pl : List Nat) : Prop := ∃ o n, h.get? pt = some o ∧ o.data = .seq (pl.map fun (i : Nat) => rawInt i).toArray n
theorem TPl.at {h h' : Heap} {pt : Addr} {pl : List Nat} (x : TPl h pt pl) (k : ∀ o, h.get? pt = some o → h'.get? pt = some o) : TPl h' pt pl := let ⟨o, n, ho, r⟩ := x; ⟨o, n, k o ho, r⟩
theorem walk_drawn {pt : Addr} (hh : A.handled = none) (hne : a ≠ it) (hnp : pt ≠ it) (hf : t.fits es.size = true) (pl : List Nat) (hl : pl.length = es.size) (hp : ∀ i ∈ pl, i < es.size) :
    Walks prog w A it [it, a, pt] [it] es.size (PoI (pl.map fun i => es.getD i (0, .none))) (fun i h => SIt h it a (.ref pt) i es.size ep ∧ SOb h a es ep t ∧ TPl h pt pl) where
  sub := fun c hc => by simp at hc; simp [hc]
  frame := fun _ _ _ st hk => ⟨st.1.at fun o e => hk it (by simp) o e, st.2.1.at fun o e => hk a (by simp) o e, st.2.2.at fun o e => hk pt (by simp) o e⟩
  item := fun i s Q E hi st hQ => by
    have hio : i < pl.length := by rw [hl]; exact hi
    obtain ⟨op, np, hop, hdp⟩ := id st.2.2
    obtain ⟨os, hos, hex, hds⟩ := id st.2.1
    refine si_next st.1 st.2.1 hf ?_
    unfold nextTail
    dsimp only
    refine wpAny_bind ?_
    unfold seqItems?
    refine wpAny_bind (wpAny_load hop ?_)
    rw [hdp]
    refine wpAny_pure ?_
    have e0 : ((pl.map fun (i : Nat) => rawInt i).toArray)[i]? = some (.int (pl[i] : Int) 0) := by simp [hio, rawInt]
    dsimp only
    rw [e0]
    dsimp only
    have hpi := hp pl[i] (List.getElem_mem hio)
    refine wpAny_bind ?_
    unfold setNextDrawn
    refine wpAny_bind (wpAny_setState_of hos hds hf ?_)
    dsimp only
    rw [if_neg (by simp), show (pl[i] : Int).toNat = pl[i] from Int.toNat_natCast _, Array.getElem?_eq_getElem hpi]
    refine wpAny_pure ?_
    refine wpAny_bind (si_put st.1 (by decide) fun h2 e2 b2 => ?_)
    obtain ⟨o2, ho2, hc2, hd2⟩ := si_upd (j := 1) (v := rawInt ((i : Int) + 1)) st.1
    have it2 : SIt h2 it a (.ref pt) (i + 1) es.size ep := ⟨o2, e2.trans ho2, hc2, hd2⟩
    have kp : ∀ c o, c ≠ it → s.heap.get? c = some o → h2.get? c = some o := fun c o hc e => (b2.2 c hc).trans e
    refine wpAny_pure (hQ _ h2 s.toks ⟨es[pl[i]], ?_, rfl⟩ ⟨it2, st.2.1.at fun o e => kp a o hne e, st.2.2.at fun o e => kp pt o hnp e⟩ fun c o hc e => kp c o (fun z => hc (by simp [z])) e)
    rw [List.getElem?_map, List.getElem?_eq_getElem hio]
    simp [hpi]
  done := fun s Q E st hQ => by
    obtain ⟨op, np, hop, hdp⟩ := id st.2.2
    refine si_next st.1 st.2.1 hf ?_
    unfold nextTail
    dsimp only
    refine wpAny_bind ?_
    unfold seqItems?
    refine wpAny_bind (wpAny_load hop ?_)
    rw [hdp]
    refine wpAny_pure ?_
    have e0 : ((pl.map fun (i : Nat) => rawInt i).toArray)[es.size]? = none := by simp [hl]
    dsimp only
    rw [e0]
    dsimp only
    refine wpAny_bind (si_put st.1 (by decide) fun h1 e1 b1 => ?_)
    obtain ⟨o1, ho1, hc1, hd1⟩ := si_upd (j := 0) (v := rawInt 0) st.1
    have it1 : SIt h1 it a (rawInt 0) es.size es.size ep := ⟨o1, e1.trans ho1, hc1, hd1⟩
    refine wpAny_bind (si_put (s := { s with heap := h1 }) it1 (by decide) fun h2 e2 b2 => ?_)
    refine stop_ok (A := A.in1) (s := { s with heap := h2 }) hh fun h3 x k hT => ⟨x, rfl, hT, ?_⟩
    exact hQ h3 s.toks fun c o hc e => k c o ((b2.2 c (fun z => hc (by simp [z]))).trans ((b1.2 c (fun z => hc (by simp [z]))).trans e))
  self := fun _ _ _ _ st hQ => si_self st.1 hQ
/-- iter(set) -/
theorem set_iter {b : Bool} (hb : b = !w.params.followText "set-order") (hs : SOb s.heap a es ep t) (hf : t.fits es.size = true) (ht : TOk t b) (hz : es.size ≤ sizeLine) {Q : Value → Shared → Prop}
    (h : ∀ (it : Addr) (h1 : Heap) (d1 : Drawn) (fp : List Addr) (ord : List (Int × Value)) (St : Nat → Heap → Prop), (∀ A' : Around, A'.handled = none → Walks prog w A' it fp [it] es.size (PoI ord) St) → St 0 h1 → (∀ c o, s.heap.get? c = some o → h1.get? c = some o) → (∀ c ∈ fp, c = a ∨ s.heap.objs.size ≤ c) → it ∈ fp → s.heap.objs.size ≤ it → ord.Perm es.toList → Q (.ref it) { s with heap := h1, drawn := d1 }) :
    wpAny (model prog w) A (pyIter (.ref a)) Q E s := by
  obtain ⟨o, ho, hex, hd⟩ := id hs
  have hT : s.TypeIs (.ref a) "set" := ⟨o, ho, hex.1⟩
  have hlt := Heap.lt_size ho
  refine wpAny_pyIter_slot hT PySem.F.slot_set_iter (wpAny_call_entry PySem.F.slot_set_iter hT SF.e_set ?_ (PySem.F.args_set_iter_1 _))
  unfold Builtin.«frozenset.__iter__»
  refine wpAny_bind (m := Builtin.Frozenset.slot0 _ _) (wpAny_pure ?_)
  unfold Builtin.Frozenset.sizeOf setEntries
  refine wpAny_bind (wpAny_bind (wpAny_bind (wpAny_setState_of ho hd hf (wpAny_pure (wpAny_pure ?_)))))
  unfold setDrawn
  refine wpAny_bind (wpAny_bind (wpAny_setState_of ho hd hf ?_))
  dsimp only
  unfold setsByText
  refine wpAny_bind (wpAny_bind (wpAny_askSetting (wpAny_pure (wpAny_pure ?_))))
  show wpAny _ _ (if (!w.params.followText "set-order" && (!t.plain && decide (es.size > 1))) = true then _ else _) _ _ _
  have last : ∀ (s1 : Shared) (f : Value) (Q' : PySem.Fin → Shared → Prop) (E' : Value → Shared → Prop), SOb s1.heap a es ep t → Q' (.done (.ret (.ref s1.heap.objs.size))) { s1 with heap := s1.heap.push { cls := .type "set_iterator", data := .fields #[f, rawInt 0, .ref a, rawInt es.size, rawInt ep] } } →
      wpAny (model prog w) A.in1 (do ret (← newFields "set_iterator" [f, rawInt 0, .ref a, rawInt es.size, rawInt (← setEpoch a)])) Q' E' s1 := fun s1 f Q' E' hs1 hq => by
    obtain ⟨o1, ho1, hex1, hd1⟩ := hs1
    unfold setEpoch
    refine wpAny_bind (wpAny_bind (wpAny_setState_of ho1 hd1 hf (wpAny_pure ?_)))
    unfold newFields
    exact wpAny_bind (wpAny_newObj_type (wpAny_pure hq) (by size_fits))
  have end_ : ∀ (h0 : Heap) (f : Value), (h0.push { cls := .type "set_iterator", data := .fields #[f, rawInt 0, .ref a, rawInt es.size, rawInt ep] }).get? h0.objs.size = some { cls := .type "set_iterator", data := .fields #[f, rawInt 0, .ref a, rawInt es.size, rawInt ep] } := fun h0 f => Heap.get?_push_size _ rfl
  cases hby : w.params.followText "set-order" with
  | true =>
    rw [hby] at hb
    rw [if_neg (by simp)]
    refine wpAny_bind (wpAny_pure (last s _ _ _ hs ⟨_, rfl, "set_iterator", _, ⟨_, end_ _ _, rfl⟩, SF.sit_next.lookup, ?_⟩))
    have pm := pick_perm (w.params.setOrder a ep) es
    refine h s.heap.objs.size _ s.drawn [s.heap.objs.size, a] (pickOrder (w.params.setOrder a ep) es).toList _ (fun A' hA => walk_num (ep := ep) (t := t) hA (Nat.ne_of_lt hlt) hf _ (by rw [pm.length_eq, Array.length_toList]) (fun _ => 0) fun B i s1 Q1 E1 _ hs1 q1 => next_text hby hf i hs1 q1) ⟨⟨_, end_ _ _, rfl, rfl⟩, hs.at fun o e => Heap.get?_push_of_some _ e⟩ (fun c o e => Heap.get?_push_of_some _ e) (fun c hc => ?_) (by simp) (Nat.le_refl _) pm
    rcases List.mem_cons.mp hc with z | z
    · exact .inr (by rw [z]; exact Nat.le_refl _)
    · exact .inl (List.mem_singleton.mp z)
  | false =>
    rw [hby] at hb
    have hb : b = true := hb
    subst hb
    cases hdr : (!t.plain && decide (es.size > 1)) with
    | true =>
      rw [if_pos (by decide)]
      refine wpAny_bind (draw_ok _ _ (by simp) fun ys d hp => wpAny_bind (wpAny_newTuple ?_ (by rw [List.length_map, hp.length_eq, List.length_range]; exact hz)))
      have lt2 := hs.at (h' := s.heap.push { cls := .type "tuple", data := .seq (ys.map fun (i : Nat) => rawInt i).toArray }) fun o e => Heap.get?_push_of_some _ e
      refine last { s with heap := s.heap.push { cls := .type "tuple", data := .seq (ys.map fun (i : Nat) => rawInt i).toArray }, drawn := d } _ _ _ lt2 ⟨_, rfl, "set_iterator", _, ⟨_, end_ _ _, rfl⟩, SF.sit_next.lookup, ?_⟩
      have pm : (ys.map fun i => es.getD i (0, .none)).Perm es.toList := by
        refine (hp.map _).trans (List.Perm.of_eq ?_)
        refine List.ext_getElem (by simp) fun i h1 h2 => ?_
        have : i < es.size := by simpa using h2
        simp [this]
      refine h _ _ d [_, a, s.heap.objs.size] (ys.map fun i => es.getD i (0, .none)) _ (fun A' hA => walk_drawn (ep := ep) (t := t) (pt := s.heap.objs.size) hA ?_ ?_ hf ys (by rw [hp.length_eq, List.length_range]) fun i hi => List.mem_range.mp (hp.mem_iff.mp hi)) ⟨⟨_, end_ _ _, rfl, rfl⟩, lt2.at fun o e => Heap.get?_push_of_some _ e, ⟨_, _, Heap.get?_push_of_some _ (Heap.get?_push_size _ rfl), rfl⟩⟩ (fun c o e => Heap.get?_push_of_some _ (Heap.get?_push_of_some _ e)) (fun c hc => ?_) (by simp) ?_ pm
      · exact Nat.ne_of_lt (by rw [Heap.size_push]; exact Nat.lt_succ_of_lt hlt)
      · exact Nat.ne_of_lt (by rw [Heap.size_push]; exact Nat.lt_succ_self _)
      · rcases List.mem_cons.mp hc with z | z
        · exact .inr (by rw [z, Heap.size_push]; exact Nat.le_succ _)
        · rcases List.mem_cons.mp z with z | z
          · exact .inl z
          · exact .inr (by rw [List.mem_singleton.mp z]; exact Nat.le_refl _)
      · exact (by rw [Heap.size_push]; exact Nat.le_succ _)
    | false =>
      rw [if_neg (by decide)]
      refine wpAny_bind (wpAny_pure (last s _ _ _ hs ⟨_, rfl, "set_iterator", _, ⟨_, end_ _ _, rfl⟩, SF.sit_next.lookup, ?_⟩))
      refine h s.heap.objs.size _ s.drawn [s.heap.objs.size, a] es.toList _ (fun A' hA => walk_num (ep := ep) (t := t) hA (Nat.ne_of_lt hlt) hf _ (by rw [Array.length_toList]) (slT t) fun B i s1 Q1 E1 hi1 hs1 q1 => next_table hby hf ht hdr i hi1 hs1 q1) ⟨⟨_, end_ _ _, rfl, rfl⟩, hs.at fun o e => Heap.get?_push_of_some _ e⟩ (fun c o e => Heap.get?_push_of_some _ e) (fun c hc => ?_) (by simp) (Nat.le_refl _) (List.Perm.refl _)
      rcases List.mem_cons.mp hc with z | z
      · exact .inr (by rw [z]; exact Nat.le_refl _)
      · exact .inl (List.mem_singleton.mp z)
end
end L2
namespace L2
open PySem PySem.Spec PyProof.Rows
section
variable {prog : Program} {w : World} {A : Around} {E : Value → Shared → Prop} {s : Shared} {a : Addr} {l : List Int} {b : Bool}
theorem ints_ord : ∀ {ord : List (Int × Value)} {acc : List Value}, (∀ e ∈ ord, ∃ k tk, e = (hashInt k, .int k tk)) → acc.length = ord.length → (∀ (j : Nat) (v : Value), acc[j]? = some v → ∃ e : Int × Value, ord[j]? = some e ∧ v = e.2) → IntsAre acc (ord.map kI)
  | [], [], _, _, _ => .nil
  | [], _ :: _, _, h, _ => by simp at h
  | _ :: _, [], _, h, _ => by simp at h
  | e :: ord, v :: acc, h1, h2, h3 => by
    obtain ⟨e', q1, q2⟩ := h3 0 v rfl
    cases q1
    obtain ⟨k, tk, rfl⟩ := h1 e (by simp)
    subst q2
    exact .cons k tk (ints_ord (fun x hx => h1 x (by simp [hx])) (by simpa using h2) fun j v hj => h3 (j + 1) v hj)
theorem collect_set {Q : List Value → Shared → Prop} (hh : A.handled = none) (hb : b = !w.params.followText "set-order") (hS : SetI s.heap a l b) (hz : l.length ≤ 1000)
    (h : ∀ vs ns h' tk d, IntsAre vs ns → ns.Perm l → (∀ c o, s.heap.get? c = some o → h'.get? c = some o) → Q vs { s with heap := h', toks := tk, drawn := d }) : wpAny (model prog w) A (collect (.ref a)) Q E s := by
  obtain ⟨o, es, ep, t, ho, hex, hd, hel, hp, hsb, hf, ht⟩ := hS
  have hsz : es.size ≤ 1000 := by rw [← Array.length_toList, ← List.length_map (f := kI), hp.length_eq]; exact hz
  have hln : es.size ≤ sizeLine := Nat.le_trans hsz (by decide)
  unfold collect
  refine wpAny_bind (wpAny_runValue (codeAny_builtin PySem.F.entry_proto_collect (by
    rw [Around.under_plainId PySem.F.plain_proto_collect _]
    show wpAny _ A.in1 (newList [] >>= fun l => again (.builtin "list.__iadd__" ⟨[l, .ref a], []⟩)) _ _ s
    refine wpAny_bind (wpAny_newObj_type (wpAny_pure ⟨plainId_quiet PySem.F.plain_list_iadd _, codeAny_builtin PySem.F.entry_list_iadd ?_⟩))
    rw [Around.under_plainId PySem.F.plain_list_iadd _]
    have hlt := Heap.lt_size ho
    have ho1 : (s.heap.push { cls := .type "list", data := .seq ([] : List Value).toArray }).get? a = some o := Heap.get?_push_of_some _ ho
    have n1 : s.heap.objs.size ≠ a := Nat.ne_of_gt hlt
    have hS1 : (s.heap.push { cls := .type "list", data := .seq ([] : List Value).toArray }).get? s.heap.objs.size = some { cls := .type "list", data := .seq ([] : List Value).toArray } := Heap.get?_push_size _ rfl
    show wpAny _ A.in1 (Builtin.List.listExtendWith (.ref s.heap.objs.size) (.ref a) (.ref s.heap.objs.size)) _ _ { s with heap := s.heap.push { cls := .type "list", data := .seq ([] : List Value).toArray } }
    generalize hh1 : s.heap.push { cls := .type "list", data := .seq ([] : List Value).toArray } = h1 at ho1 hS1 ⊢
    have kp1 : ∀ c o, s.heap.get? c = some o → h1.get? c = some o := fun c o e => by rw [← hh1]; exact Heap.get?_push_of_some _ e
    have sz1 : s.heap.objs.size < h1.objs.size := Heap.lt_size hS1
    generalize hSz : s.heap.objs.size = S at hlt n1 hS1 sz1 ⊢
    unfold Builtin.List.listExtendWith
    have hT1 : Shared.TypeIs { s with heap := h1 } (.ref a) "set" := ⟨o, ho1, hex.1⟩
    refine wpAny_bind (wpAny_typeOf hT1 ?_)
    have z1 : Builtin.List.listSameRef (.ref S) (.ref a) = false := by simp [Builtin.List.listSameRef, n1]
    rw [if_neg (by rw [z1]; decide)]
    refine wpAny_bind (set_iter (s := { s with heap := h1 }) (es := es) (ep := ep) (t := t) hb ⟨o, ho1, hex, hd⟩ hf ht hln fun it h2 d2 fp ord St W st kp2 hfl hin hge pm => ?_)
    have hT2 : Shared.TypeIs { s with heap := h2, drawn := d2 } (.ref a) "set" := ⟨o, kp2 _ _ ho1, hex.1⟩
    refine wpAny_bind (wpAny_holding ?_)
    unfold Builtin.List.listLengthHint
    refine wpAny_bind (wpAny_specialOf hT2 PySem.F.slot_set_len.lookup ?_)
    generalize hid : ("set.__len__" : String) = id0; (fail_if_success (clear hid id0)); wp_delta
    rw [show splitId id0 = some ("set", "__len__") from by subst hid; decide +kernel]; subst hid
    refine wpAny_bind (wpAny_isInstance (b := true) hT2 sub_set_self ?_)
    rw [if_neg (by decide)]
    dsimp only
    rw [if_pos (by decide +kernel)]
    refine wpAny_bind (wpAny_typeOf hT2 (wpAny_pure ?_))
    rw [if_pos (by decide +kernel)]
    refine wpAny_bind (wpAny_rule (wpAny_bind ?_))
    have hSf : S ∉ fp := fun hm => by
      rcases hfl S hm with z | z
      · exact n1 z
      · exact absurd (Nat.lt_of_lt_of_le sz1 z) (Nat.lt_irrefl _)
    show wpAny _ A.in1 (updateSeq S (·.push .none) >>= fun _ => updateSeq S (·.pop)) _ _ _
    have hS2 := kp2 _ _ hS1
    refine wpAny_bind (wpAny_updateSeq hS2 rfl ?_)
    have hS3 := Heap.get?_update_self (Obj.mapSeq (·.push Value.none)) hS2 rfl
    refine wpAny_updateSeq hS3 rfl ?_
    have hS4 := Heap.get?_update_self (Obj.mapSeq (·.pop)) hS3 rfl
    have oth : ∀ c o, c ≠ S → h2.get? c = some o → ((h2.update S (Obj.mapSeq (·.push Value.none))).update S (Obj.mapSeq (·.pop))).get? c = some o := fun c o hc e => (Heap.get?_update_other _ _ (Ne.symm hc)).trans ((Heap.get?_update_other _ _ (Ne.symm hc)).trans e)
    have W1 := W A.in1 hh
    refine wpAny_pure ⟨plainId_quiet PySem.F.plain_extend_loop _, codeAny_extend_loopS W1.toS hln S hSf _ es.size 0 _ _ _ rfl (Nat.zero_le _) (W1.frame 0 _ _ st fun c hc o e => oth c o (fun z => hSf (z ▸ hc)) e) hS4 (ItemsOf.nil _) fun s' acc' c' hm hS' hacc => ?_⟩
    show wpAny _ A (load S >>= _) _ _ s'
    refine wpAny_bind (wpAny_load hS' (wpAny_pure ?_))
    have hi : IntsAre acc'.toList (ord.map kI) := ints_ord (fun e he => hel e (pm.mem_iff.mp he)) (by rw [Array.length_toList, hacc.1, pm.length_eq, Array.length_toList]) fun j v hj => hacc.2 j v (by rw [← Array.getElem?_toList]; exact hj)
    obtain ⟨h3, g3, d3, tk3, os3⟩ := s'
    obtain rfl : g3 = s.gens := hm.gens
    obtain rfl : d3 = d2 := hm.drawn
    obtain rfl : os3 = s.os := hm.os
    refine h _ _ h3 tk3 d3 hi ((pm.map kI).trans hp) fun c o e => ?_
    have cS : c ≠ S := fun z => by
      have q := Heap.lt_size e
      rw [z, hSz] at q
      exact Nat.lt_irrefl _ q
    have cI : c ≠ it := fun z => by
      have q := Heap.lt_size (kp1 _ _ e)
      rw [z] at q
      exact absurd (Nat.lt_of_lt_of_le q hge) (Nat.lt_irrefl _)
    exact hm.heap c o (by simp only [List.mem_cons, List.not_mem_nil, or_false, not_or]; exact ⟨cS, cI⟩) (oth c o cS (kp2 _ _ (kp1 _ _ e))))))
/-- sorted(set) -/
theorem sorted_set {Q : Value → Shared → Prop} (hh : A.handled = none) (hb : b = !w.params.followText "set-order") (hS : SetI s.heap a l b) (h64 : l.length < 64)
    (h : ∀ (h1 h2 : Heap) (tk e : Nat) (d : Drawn) (out : Array Value) (ns' : List Int), IntsAre out.toList ns' → ns'.Perm l → ns'.Pairwise (· ≤ ·) → (∀ b o, s.heap.get? b = some o → h1.get? b = some o) → h2.get? h1.objs.size = some (seqObj "list" out e) →
      (∀ b o, h1.get? b = some o → h2.get? b = some o) → Q (.ref h1.objs.size) { s with heap := h2, toks := tk, drawn := d }) : wpAny (model prog w) A (call (.builtin "sorted") [.ref a]) Q E s := by
  refine Calls.call_function_entry kind_sorted plain_sorted entry_sorted (args_sorted1 _) ?_
  unfold Builtin.«sorted»
  refine wpAny_bind (m := checkCount "sorted" 1 1 _) (wpAny_pure ?_)
  refine wpAny_bind (collect_set (by simp [hh]) hb hS (by omega) fun vs ms h' tk d hI' pm hk => ?_)
  have hl : vs.length < 64 := by rw [hI'.length, pm.length_eq]; exact h64
  refine wpAny_bind (wpAny_newList ?_)
  refine wpAny_bind (wpAny_holding (wpAny_call_entry slot_list_sort ⟨_, Heap.get?_push_size _ rfl, rfl⟩ entry_list_sort (list_sort_tree (Heap.get?_push_size _ rfl) hI' hl fun out ns' a1 a2 a3 => ⟨_, rfl, ?_⟩) (args_list_sort _)))
  obtain ⟨e, he⟩ := sortedHeap_at (out := out) (n := 0) (show (h'.push (seqObj "list" vs.toArray 0)).get? h'.objs.size = some (seqObj "list" vs.toArray 0) from Heap.get?_push_size _ rfl)
  have old : ∀ b o, h'.get? b = some o → (sortedHeap (h'.push (seqObj "list" vs.toArray 0)) h'.objs.size vs out).get? b = some o := fun b o q1 => by
    have q2 := Heap.lt_size q1
    rw [sortedHeap_old (Nat.ne_of_lt q2) (by rw [Heap.size_push]; exact Nat.lt_succ_of_lt q2)]
    exact Heap.get?_push_of_some _ q1
  exact wpAny_pure ⟨_, rfl, h _ _ _ _ d out ns' a1 (a2.trans pm) a3 hk he old⟩
end
def setO (w : World) (a : Addr) (l : List Int) : HO := .ext fun h => SetI h a l (!w.params.followText "set-order")
section
variable {X : Cx}
theorem Inv.draw {pins : List (Addr × Obj)} {σ : St} {H : Hp} {s : Shared} (I : Inv X pins σ H s) (d : Drawn) : Inv X pins σ H { s with drawn := d } := ⟨I.ok, I.os, I.bare, I.base, I.loc, I.cell, I.free, I.freeC, I.pin, I.hok, I.len⟩
theorem dd1_len (ns : List Int) : (dd1 ns).length ≤ ns.length := by
  rw [← first_dd]; exact firstMet_length_le _ _
/-- set(l) -/
def rSetOf (K : PySem.W.Frag) (w : World) : List V → Hp → VK → Prop := fun xs H Q => ∃ (p : Addr) (ns : List Int), xs = [.ref p] ∧ SqL K H p (ns.map V.int) ∧ ns.length ≤ 1000 ∧ ∀ a, H a = none → Q (.ref a) (upd H a (setO w a (dd1 ns)))
theorem ints_vals : ∀ {ns : List Int} {us : List Value}, Vals (ns.map V.int) us → IntsAre us ns
  | [], _, .nil => .nil
  | n :: ns, _, .cons r t => by
    obtain ⟨tk, rfl⟩ := r
    exact .cons n tk (ints_vals t)
theorem call_setOf (hc : X.calm = true) : CallR X (.type "set") (rSetOf X.K X.w) := by
  intro pins s σ H xs us Q I rr h
  obtain ⟨p, ns, rfl, hp, hz, q⟩ := h
  obtain ⟨u, rfl, ru⟩ := vals1 rr
  obtain rfl : u = Value.ref p := ru
  obtain ⟨its, rv, pl, _⟩ := I.list hp
  have hI := ints_vals rv
  have hlen : its.length = ns.length := by rw [← rv.length, List.length_map]
  refine setL_ok (I.ok.hd hc) pl.isList (by simpa using hI) (by unfold scanBound; simp; omega) fun h' tk hS hk => ?_
  refine ⟨.ref s.heap.objs.size, _, I.laid (a := s.heap.objs.size) (o := setO X.w s.heap.objs.size (dd1 ns)) hk (Nat.le_refl _) ?_, rfl, q _ (I.hok.fresh (Nat.le_refl _))⟩
  obtain ⟨o, es, ep, t, ho, r⟩ := id hS
  exact ⟨hS, ⟨o, ho⟩, fun h1 h2 x k => x.at k⟩
/-- sorted(set) -/
def rSortSet (w : World) : List V → Hp → VK → Prop := fun xs H Q => ∃ (p : Addr) (l : List Int), xs = [.ref p] ∧ H p = some (setO w p l) ∧ l.length < 64 ∧ ∀ a (S : List Int), H a = none → S.Perm l → S.Pairwise (· ≤ ·) → Q (.ref a) (upd H a (.lst (S.map V.int)))
theorem call_sortSet (hc : X.calm = true) : CallR X (.builtin "sorted") (rSortSet X.w) := by
  intro pins s σ H xs us Q I rr h
  obtain ⟨p, l, rfl, hp, h64, q⟩ := h
  obtain ⟨u, rfl, ru⟩ := vals1 rr
  obtain rfl : u = Value.ref p := ru
  obtain ⟨hS, _⟩ := I.hok p _ hp
  refine sorted_set (I.ok.hd hc) rfl hS h64 fun h1 h2 tk e d out ns' a1 a2 a3 hk ho hk2 => ?_
  have I1 : Inv X pins σ H { s with heap := h1, toks := tk, drawn := d } := (I.kept (h' := h1) (t' := tk) hk).draw d
  have I2 := I1.laid (a := h1.objs.size) (o := .lst (ns'.map V.int)) (h' := h2) (t' := tk) hk2 (Nat.le_refl _) ⟨by rw [List.length_map, a2.length_eq]; exact Nat.le_of_lt (small1000 (by omega)), out.toList, e, vals_ints a1, by simpa using ho⟩
  exact ⟨.ref h1.objs.size, _, I2, rfl, q _ ns' (I1.hok.fresh (Nat.le_refl _)) a2 a3⟩
end
end L2
namespace L2
open PySem PySem.Spec PyProof.Rows
theorem dd_fold : ∀ (ns acc : List Int), acc.Nodup → (ns.foldl step_dedup acc).Nodup ∧ ∀ x, x ∈ ns.foldl step_dedup acc ↔ x ∈ acc ∨ x ∈ ns
  | [], acc, h => ⟨h, fun x => by simp⟩
  | n :: ns, acc, h => by
    have h1 : (step_dedup acc n).Nodup ∧ ∀ x, x ∈ step_dedup acc n ↔ x ∈ acc ∨ x = n := by
      unfold step_dedup
      split
      · next c =>
        have c' : n ∈ acc := by simpa using c
        exact ⟨h, fun x => ⟨.inl, fun z => z.elim id fun e => e ▸ c'⟩⟩
      · next c =>
        have c' : n ∉ acc := by simpa using c
        refine ⟨List.nodup_append.mpr ⟨h, by simp, fun a ha b hb => ?_⟩, fun x => by simp⟩
        rw [List.mem_singleton.mp hb]; intro e; exact c' (e ▸ ha)
    obtain ⟨i1, i2⟩ := dd_fold ns (step_dedup acc n) h1.1
    refine ⟨i1, fun x => ?_⟩
    rw [List.foldl_cons, i2, h1.2, List.mem_cons]
    exact or_assoc
theorem dd1_nd (ns : List Int) : (dd1 ns).Nodup := (dd_fold ns [] List.nodup_nil).1
theorem dd1_mem (ns : List Int) (x : Int) : x ∈ dd1 ns ↔ x ∈ ns := by rw [show dd1 ns = ns.foldl step_dedup [] from rfl, (dd_fold ns [] List.nodup_nil).2]; simp
/-- sorted(set(numbers)) : the ordered list of what is among them -/
theorem sort_dd {r h : List Nat} {S : List Int} (p : S.Perm (dd1 (r.map fun (x : Nat) => (x : Int)))) (o : S.Pairwise (· ≤ ·)) (hn : h.Nodup) (ho : h.Pairwise (· ≤ ·)) (hm : ∀ x, x ∈ r ↔ x ∈ h) : S.map V.int = nv h := by
  have e : S = h.map fun (x : Nat) => (x : Int) := by
    refine (p.trans ((List.perm_ext_iff_of_nodup (dd1_nd _) ?_).mpr fun x => ?_)).eq_of_pairwise (fun a b _ _ h1 h2 => Int.le_antisymm h1 h2) o (List.pairwise_map.mpr (ho.imp fun z => by omega))
    · exact List.pairwise_map.mpr (hn.imp fun z => by omega)
    · rw [dd1_mem, List.mem_map, List.mem_map]
      constructor
      · rintro ⟨y, hy, rfl⟩; exact ⟨y, (hm y).mp hy, rfl⟩
      · rintro ⟨y, hy, rfl⟩; exact ⟨y, (hm y).mpr hy, rfl⟩
  rw [e, List.map_map]; rfl
theorem nv_ofN (r : List Nat) : (r.map fun (x : Nat) => (x : Int)).map V.int = nv r := by rw [List.map_map]; rfl
end L2
namespace K1
open PySem L2 Sq
theorem boot_setK : bootBuiltins "set" = some (.type "set") := by decide +kernel
def spFd (CN : Addr) : Sp := fun vs H Q E => ∃ (a : Addr) (n : Nat) (r u : List Nat) (i j : Int), vs = [.ref a, .int i, .int j] ∧ ShAt H a r u ∧ Sheet n r u ∧ (isSq n i = false ∨ isSq n j = false → E (.ref CN) none H) ∧
  (∀ x y : Nat, i = (x : Int) → j = (y : Int) → x < n → y < n → ∀ (H' : Hp) (t b m : Addr) (f : List Nat), Same H H' → H' t = some (.tup [.ref b, .ref m]) → ShAt H' b (fob n f r) (fob n f u) → H' m = some (.lst (nv (fom n f))) → Lst n f → Cg n r u x y f → Q (.ref t) H')
section
variable {P : Program} {w : World} {K : PySem.W.Frag} {mg : Str → Option Value} {base : Heap}
abbrev n_fd : List Str := ["sheet", "one", "other", "least", "heads", "m", "base"]
theorem sc_fd : FnScope n_fd ["sheet", "one", "other"] (defScope sFolded) := ⟨rfl, rfl, rfl, by decide +kernel, rfl, by decide +kernel, by decide +kernel⟩
theorem nd_fd : (["square", "heads"] : List Str).Nodup := by decide +kernel
set_option maxHeartbeats 4000000 in
theorem ok_fd {f fn fl fr : Addr} {fd dn dl dr : FuncData} {CN : Addr} (T : Bi mg) (T_set : mg "set" = none) (F : Fn K mg "folded" sFolded ["sheet", "one", "other"] f fd) (FN : Fn K mg "need_square" sNeed ["sheet", "square"] fn dn) (GN : FnOk P w K mg base (CX1 P w) 3 fn dn ["sheet", "square"] (spNeed CN))
    (FL : Fn K mg "least_folded" sLeastFolded ["sheet", "one", "other"] fl dl) (GL : FnOk P w K mg base CX0 2 fl dl ["sheet", "one", "other"] spLf)
    (FR : Fn K mg "folded_row" sFoldedRow ["row", "heads", "m"] fr dr) (GR : FnOk P w K mg base CX0 1 fr dr ["row", "heads", "m"] spFrw) : FnOk P w K mg base (CX1 P w) 4 f fd ["sheet", "one", "other"] (spFd CN) := by
  refine F.F.ok1 sc_fd (fun vs H Q E h => ?_) (fun cdv A outer s H vs Q E hr h => ?_)
  · obtain ⟨a, n, r, u, i, j, rfl, _⟩ := h; rfl
  · obtain ⟨a, n, r, u, i, j, rfl, hsh, hS, k1, k2⟩ := h
    have hr1 : Room 1 _ := hr.mono (by decide)
    have hr2 : Room 2 _ := hr.mono (by decide)
    have hr3 : Room 3 _ := hr.mono (by decide)
    refine ⟨_, (pss_cons (ps_expr (pe_call GN hr3 rfl FN.m FN.F.kp FN.b .nil (pass1 fun _ _ _ z => z) (pa_cons (pv 0) (pa_cons (pv 1) pa_nil))))
      (pss_cons (ps_expr (pe_call GN hr3 rfl FN.m FN.F.kp FN.b .nil (pass1 fun _ _ _ z => z) (pa_cons (pv 0) (pa_cons (pv 2) pa_nil))))
      (pss_cons (ps_set (i := 3) sc_fd.nd rfl (Or.inl rfl) (pe_call GL hr2 rfl FL.m FL.F.kp FL.b .nil pass0 (pa_cons (pv 0) (pa_cons (pv 1) (pa_cons (pv 2) pa_nil)))))
      (pss_cons (ps_set (i := 4) sc_fd.nd rfl (Or.inr rfl) (pe_callB (call_sortSet rfl) rfl T.sorted boot_sorted (pa_cons (pe_callTy (call_setOf rfl) rfl T_set boot_setK (pa_cons (pv 3) pa_nil)) pa_nil)))
      (pss_cons (ps_comp (j := 5) (N := n_fd) (names := (defScope sFolded).names) (N' := ["square", "heads"]) (k := 1) (pull := [4]) (te := (tBM K "list" rIndexL (tVar 1) (tCons (tVar 0) tNil))) rfl sc_fd.nd rfl rfl ⟨by rfl, by decide +kernel, by decide +kernel, by rfl, by decide +kernel, by decide +kernel⟩ rfl rfl (pi_list (pv 3)) (fun _ _ _ _ _ _ => pg_name (i := 0) nd_fd rfl (Or.inl rfl)) (fun _ _ _ _ _ _ => (pe_bm PySem.F.plainAttrs_list PySem.F.slot_list_index PySem.F.type_list_index mt_indexL (pv 1) (pa_cons (pv 0) pa_nil))))
      (pss_cons (ps_set (i := 6) sc_fd.nd rfl (Or.inl rfl) (pe_tup (pa_cons (pe_call GR hr1 rfl FR.m FR.F.kp FR.b .nil pass0 (pa_cons (pe_ix ix_tup (pv 0) pe_int (fun _ _ => rfl)) (pa_cons (pv 4) (pa_cons (pv 5) pa_nil)))) (pa_cons (pe_call GR hr1 rfl FR.m FR.F.kp FR.b .nil pass0 (pa_cons (pe_ix ix_tup (pv 0) pe_int (fun _ _ => rfl)) (pa_cons (pv 4) (pa_cons (pv 5) pa_nil)))) pa_nil))))
      (pss_one (ps_ret (pe_tup (pa_cons (pv 6) (pa_cons (pv 5) pa_nil))))))))))), ?_⟩
    obtain ⟨p, q, h1, h2, h3⟩ := id hsh
    have el := hS.row.len
    have hm := hS.most
    have two : 2 ≤ sizeLine := by decide
    refine ⟨_, rfl, _, rfl, a, r, u, i, rfl, hsh, fun hi => ?_, fun hi => k1 (.inl (by rw [← el]; exact hi))⟩
    refine ⟨_, rfl, _, rfl, a, r, u, j, rfl, hsh, fun hj => ?_, fun hj => k1 (.inr (by rw [← el]; exact hj))⟩
    have hi := of_decide_eq_true hi
    have hj := of_decide_eq_true hj
    rw [el] at hi hj
    obtain ⟨x, rfl⟩ := Int.eq_ofNat_of_zero_le hi.1
    obtain ⟨y, rfl⟩ := Int.eq_ofNat_of_zero_le hj.1
    refine ⟨_, rfl, _, rfl, _, rfl, a, n, r, u, x, y, rfl, hsh, hS, by omega, by omega, fun H1 l f s1 hl hL hC => ?_⟩
    have hfl := hL.len
    dsimp only
    refine ⟨_, rfl, l, f.map fun (x : Nat) => (x : Int), rfl, by rw [nv_ofN]; exact SqL.of hl, by rw [List.length_map]; omega, fun st hst => ?_⟩
    generalize hgg : upd H1 st (setO _ st _) = H2
    have s2 : Same H1 H2 := by rw [← hgg]; exact same_upd (Same.refl _) hst
    have e2 : H2 st = some (setO w st (dd1 (f.map fun (x : Nat) => (x : Int)))) := by rw [← hgg]; exact upd_same
    clear hgg
    refine ⟨st, _, rfl, e2, ?_, fun hh S hhh pS oS => ?_⟩
    · have := dd1_len (f.map fun (x : Nat) => (x : Int))
      rw [List.length_map] at this; omega
    rw [sort_dd pS oS (hds_nd n f) (hds_sorted n f) fun z => mem_f hL]
    have s3 : Same H2 (upd H2 hh (.lst (nv (hds n f)))) := same_upd (Same.refl _) hhh
    have e3 : (upd H2 hh (.lst (nv (hds n f)))) hh = some (.lst (nv (hds n f))) := upd_same
    revert s3 e3
    generalize (upd H2 hh (.lst (nv (hds n f)))) = H3
    intro s3 e3
    have hdl : (hds n f).length ≤ 36 := (fo_sheet hS hL hC.kept).most
    dsimp only [tSeq, tAsg, gName, tNil]
    refine compLstN (r := f) (fun v => (hds n f).idxOf v) rfl (s3 _ _ (s2 _ _ hl)) rfl (fun z Hz R hz sz hR => ?_) (by omega) fun H4 pm s4 hpm0 hpm => ?_
    · have ez := sz _ _ e3
      exact ⟨_, rfl, .inl ⟨rfl, _, SqL.of ez⟩, _, rfl, hh, _, z, rfl, rfl, ez, (mem_f hL).mp hz, hR⟩
    have s14 := s1.trans (s2.trans (s3.trans s4))
    have e4 := s4 _ _ e3
    have hpm : H4 pm = some (.lst (nv (fom n f))) := hpm
    have fml : (fom n f).length = n := by unfold fom; rw [List.length_map, hfl]
    have hin : ∀ z ∈ hds n f, z < n := fun z hz => (mem_hds.mp hz).1
    refine ⟨_, rfl, a, _, 0, _, rfl, rfl, SqT.of (s14 _ _ h1), atI_nat (j := 0) rfl, _, rfl, _, rfl, p, hh, pm, n, r, hds n f, fom n f, rfl, s14 _ _ h2, e4, hpm, hS.row, hin, fml, hm, hdl, fun H5 t5 s5 h5 => ?_⟩
    have s15 := s14.trans s5
    refine ⟨_, rfl, a, _, 1, _, rfl, rfl, SqT.of (s15 _ _ h1), atI_nat (j := 1) rfl, _, rfl, _, rfl, q, hh, pm, n, u, hds n f, fom n f, rfl, s15 _ _ h3, s5 _ _ e4, s5 _ _ hpm, hS.col, hin, fml, hm, hdl, fun H6 t6 s6 h6 => ?_⟩
    refine ⟨two, fun t7 ht7 => ?_⟩
    have s7 : Same H6 (upd H6 t7 (.tup [.ref t5, .ref t6])) := same_upd (Same.refl _) ht7
    have e7 : (upd H6 t7 (.tup [.ref t5, .ref t6])) t7 = some (.tup [.ref t5, .ref t6]) := upd_same
    revert s7 e7
    generalize (upd H6 t7 (.tup [.ref t5, .ref t6])) = H7
    intro s7 e7
    dsimp only
    refine ⟨_, rfl, _, rfl, two, fun t8 ht8 => ?_⟩
    have s8 : Same H7 (upd H7 t8 (.tup [.ref t7, .ref pm])) := same_upd (Same.refl _) ht8
    refine k2 x y rfl rfl (by omega) (by omega) _ t8 t7 pm f (s15.trans (s6.trans (s7.trans s8))) upd_same ⟨t5, t6, s8 _ _ e7, ?_, ?_⟩ ?_ hL hC
    · exact s8 _ _ (s7 _ _ (s6 _ _ h5))
    · exact s8 _ _ (s7 _ _ h6)
    · exact s8 _ _ (s7 _ _ (s6 _ _ (s5 _ _ hpm)))
end
end K1
namespace L2
open PySem PySem.Spec PyProof.Rows
section
variable {prog : Program} {w : World} {z TI TO i1 i2 : Addr} {f1 f2 : List Addr} {S1 S2 : Nat → Heap → Prop} {xs ys : Array Value}
end
section
variable {prog : Program} {w : World} {A : Around} {E : Value → Shared → Prop} {s : Shared}
end
section
variable {X : Cx} {elts : List Expr} {k : Nat} {tpos : Pos}
end
end L2
namespace L2
open PySem PySem.Spec PyProof.Rows
section
variable {X : Cx}
end
section
variable {prog : Program} {w : World} {A : Around} {E : Value → Shared → Prop}
end
section
variable {X : Cx}
end
end L2
namespace L2
open PySem PySem.Spec PyProof.Rows
section
variable {prog : Program} {w : World} {A : Around} {E : Value → Shared → Prop} {s : Shared} {K : Type} [DecidableEq K] {knd : KeyKind prog w K}
theorem wpAny_sdef_pairs {d : Addr} {kvs : List (K × Value)} {k : K} {key v : Value} {Q : Value → Shared → Prop} (hkey : knd.is k key = true) (hm : s.heap.DictOf knd d kvs)
    (hthere : ∀ v', valueAt kvs k = some v' → Q v' { s with toks := s.toks + 1 })
    (hQ : valueAt kvs k = none → ∀ h', h'.DictOf knd d (stored kvs k v) → Heap.SameBut d s.heap h' → Q v { s with heap := h', toks := s.toks + 1 })
    (hsz : kvs.length ≤ sizeLine) :
    wpAny (model prog w) A (dictSetDefault d key v) Q E s := by
  have hmap := hm.mapOf
  obtain ⟨o, es, ep, ho, hc, hd, hk, hp, hn⟩ := hm
  have hes : es.size ≤ sizeLine := by have e1 := hp.length; have e2 : es.toList.length = es.size := by simp
                                      omega
  obtain ⟨o', es', ep', ho', hc', hd', hk', hf⟩ := hmap
  have eo : o' = o := by rw [ho] at ho'; exact (Option.some.inj ho').symm
  subst eo
  have ee : es' = es := by rw [hd] at hd'; cases hd'; rfl
  subst ee
  unfold dictSetDefault
  try with_reducible refine wpAny_holding ?_
  refine wpAny_bind (knd.pyHash hkey ?_)
  refine wpAny_bind (wpAny_dictFind_of (s := { s with toks := s.toks + 1 }) hkey ho hd hk ?_)
  have hidx : (es'.findIdx? fun e => knd.is k e.key) = kvs.findIdx? fun kv => decide (kv.1 = k) := by
    rw [← hp.findIdx k]; obtain ⟨l⟩ := es'; simp
  cases hi : es'.findIdx? fun e => knd.is k e.key with
  | some i =>
    have hfk := hf k
    rw [findBy_of_findIdx?, hi] at hfk
    refine wpAny_bind (wpAny_dictEntries (s := { s with toks := s.toks + 1 }) ho hd ?_)
    cases he : es'[i]? with
    | none =>
      exfalso
      have := Array.findIdx?_eq_some_iff_findIdx_eq.mp hi
      have hlt : i < es'.size := this.1
      rw [Array.getElem?_eq_getElem hlt] at he
      exact nomatch he
    | some e =>
      have hfk : Option.map (fun x => x.val) es'[i]? = valueAt kvs k := hfk
      rw [he] at hfk
      exact wpAny_bind (wpAny_rule (wpAny_pure (hthere e.val hfk.symm)))
  | none =>
    have hfk := hf k
    rw [findBy_of_findIdx?, hi] at hfk
    have hnot : k ∉ kvs.map (·.1) := not_mem_of_findIdx_none (hidx ▸ hi)
    have hany : ¬ (kvs.any fun kv => decide (kv.1 = k)) = true := by
      rw [List.any_eq_true]; rintro ⟨kv, hkv, he⟩
      exact hnot (List.mem_map.mpr ⟨kv, hkv, of_decide_eq_true he⟩)
    refine wpAny_bind (wpAny_rule (wpAny_bind (wpAny_updateDictKeys (hz := hes) (s := { s with toks := s.toks + 1 }) ho hd (wpAny_pure (hQ hfk.symm _ ⟨_, _, ep + 1, Heap.get?_update_self _ ho (Obj.isFreed_of_dict (Obj.data_mapDictKeys hd _)),
      hc.mapDictKeys _, Obj.data_mapDictKeys hd _, hk.push hkey _, ?_, ?_⟩ (Heap.SameBut.update ..))))))
    · rw [stored, if_neg hany]
      have := hp.append hkey (knd.hash k) v
      obtain ⟨l⟩ := es'
      simpa using this
    · rw [stored, if_neg hany, List.map_append, List.nodup_append]
      refine ⟨hn, by simp, ?_⟩
      intro a ha b hb
      simp only [List.map_cons, List.map_nil, List.mem_singleton] at hb
      subst hb
      exact fun e => hnot (e ▸ ha)
theorem meets_sdef {d : Addr} {k : K} {key : Value} (hkey : knd.is k key = true) (hd : (d == sysModules) = false) (dflt : Value) :
    MeetsIn prog w (Builtin.«dict.setdefault» ⟨[.ref d, key, dflt], []⟩) (fun _ R s => ∃ kvs, s.heap.DictOf knd d kvs ∧ kvs.length ≤ sizeLine ∧
      (∀ v, valueAt kvs k = some v → R (.ok (.ret v)) { s with toks := s.toks + 1 }) ∧
      (valueAt kvs k = none → ∀ h', h'.DictOf knd d (stored kvs k dflt) → Heap.SameBut d s.heap h' → R (.ok (.ret dflt)) { s with heap := h', toks := s.toks + 1 })) :=
  .of_wp fun A R s ⟨f, hm, hz, h1, h2⟩ => by
    unfold Builtin.«dict.setdefault»
    refine wpAny_bind ?_
    unfold Builtin.Dict.keyAndDefault
    refine wpAny_bind (wpAny_notOrdered_dict hm.typeIs ?_)
    show wpAny _ _ (pure (d, key, some dflt)) _ _ s
    refine wpAny_pure ?_
    show wpAny _ _ (if (d == sysModules) = true then _ else (dictSetDefault d key dflt >>= _)) _ _ s
    rw [if_neg (by rw [hd]; exact Bool.false_ne_true)]
    exact wpAny_bind (wpAny_sdef_pairs hkey hm (fun v hv => wpAny_pure ⟨v, rfl, h1 v hv⟩) (fun hn h' hm' hs' => wpAny_pure ⟨dflt, rfl, h2 hn h' hm' hs'⟩) hz)
end
section
variable {X : Cx} {pins : List (Addr × Obj)} {σ : St} {H : Hp} {s : Shared} {A : Around} {E : Value → Shared → Prop} {a : Addr} {v : V} {u r : Value} {kvs : List (Key × V)} {k : Key}
theorem d_sdef {Q : Value → Shared → Prop} (I : Inv X pins σ H s) (e : H a = some (.dK kvs)) (l : kvs.length < sizeLine) (ry : RelV (kV k) u) (rv : RelV v r)
    (h1 : ∀ x w' s', valV kvs k = some x → Inv X pins σ H s' → RelV x w' → Q w' s') (h2 : valV kvs k = none → ∀ s', Inv X pins σ (upd H a (.dK (putK kvs k v))) s' → Q r s') :
    wpAny (model X.prog X.w) A (call (.builtin "dict.setdefault") [.ref a, u, r]) Q E s := by
  obtain ⟨z, hd, vs, rel, dd⟩ := dk_of I.hok e
  have hl : (putK kvs k v).length ≤ sizeLine := by have := length_putK kvs k v; omega
  refine call_meetsIn PySem.F.slot_dict_setdefault dd.typeIs PySem.F.entry_dict_setdefault (PySem.F.args_dict_setdefault_3 _ _ _) (meets_sdef (knd := mixKind X.prog X.w) (d := a) (kV_is ry) hd r) ⟨vs, dd, by rw [← rel.length]; exact z, fun w' hw => ?_, fun hn h' dd' hs => ?_⟩
  · have rr := rel.val k
    rw [hw] at rr
    cases hk : valV kvs k with
    | none => rw [hk] at rr; exact rr.elim
    | some x => rw [hk] at rr; exact h1 x w' _ hk (I.tok _) rr
  · have rr := rel.val k
    rw [hn] at rr
    have hk : valV kvs k = none := by
      cases hk : valV kvs k with
      | none => rfl
      | some x => rw [hk] at rr; exact rr.elim
    have he : ∃ q, h'.get? a = some q := let ⟨q, _, _, hq, _⟩ := dd'; ⟨q, hq⟩
    exact h2 hk _ (d_write I (by rw [e]; exact True.intro) hs he (dk_new hl hd (rel.put k rv) dd'))
end
def tDSd (td ty tx : TE) : TE := fun σ H Q => td σ H fun x H1 => ∃ a, x = .ref a ∧ IsD H1 a ∧ ty σ H1 fun y H2 => tx σ H2 fun z H3 => ∃ kvs k, H3 a = some (.dK kvs) ∧ y = kV k ∧ kvs.length < sizeLine ∧
  (∀ v, valV kvs k = some v → Q v H3) ∧ (valV kvs k = none → Q z (upd H3 a (.dK (putK kvs k z))))
section
variable {X : Cx} {o e f : Expr} {apos cpos : Pos} {td ty tx : TE}
theorem pe_dsdef (ho : PE X o td) (he : PE X e ty) (hf : PE X f tx) (m : M2 X o "setdefault" apos e f cpos) : PE X (.Call (.Attribute o "setdefault" apos) [e, f] [] cpos) (tDSd td ty tx) := by
  intro pins s σ H Q I h
  refine wpAny_Call_method m.base m.few m.line PySem.F.plainAttrs_dict PySem.F.slot_dict_setdefault PySem.F.type_dict_setdefault (thn (ho pins s σ H _ I h) fun u s1 ⟨x, H1, I1, rx, a, ex, d, q1⟩ => ?_)
  subst ex
  obtain rfl : u = Value.ref a := rx
  obtain ⟨t1, t2, _⟩ := isD_at I1 d
  refine ⟨t1, t2, ?_⟩
  rw [m.trees]
  refine Calls.callWith_builtin rfl (Calls.evalArgs_plain (Calls.spliced_cons (thn (he pins s1 σ H1 _ I1 q1) fun iv s2 ⟨y, H2, I2, ry, q2⟩ =>
    Calls.spliced_cons (thn (hf pins s2 σ H2 _ I2 q2) fun fv s3 ⟨z, H3, I3, rz, kvs, k, ek, ey, l, q3, q4⟩ => Calls.spliced_nil ?_))))
  subst ey
  exact d_sdef I3 ek l ry rz (fun x w' s' hx I4 rw' => ⟨_, H3, I4, rw', q3 x hx⟩) fun hn s' I4 => ⟨_, _, I4, rz, q4 hn⟩
end
end L2
namespace Sq
theorem hds_mono {n : Nat} {f : List Nat} {i j : Nat} (h : i ≤ j) (hj : j < (hds n f).length) : nx (hds n f) i ≤ nx (hds n f) j := by
  rcases Nat.lt_or_ge i j with c | c
  · have := List.pairwise_iff_getElem.mp (hds_sorted n f) i j (by omega) hj c
    show (hds n f).getD i 0 ≤ (hds n f).getD j 0
    rw [List.getD_eq_getElem?_getD, List.getD_eq_getElem?_getD, List.getElem?_eq_getElem (by omega), List.getElem?_eq_getElem hj]
    exact this
  · rw [show i = j by omega]; exact Nat.le_refl _
structure Bl (n : Nat) (f : List Nat) (i c : Nat) : Prop where
  le : c ≤ (hds n f).length
  lt : ∀ x, x < i → nx (fom n f) x < c
  hd : ∀ j, j < c → nx (hds n f) j < i
theorem Bl.start (n : Nat) (f : List Nat) : Bl n f 0 0 := ⟨Nat.zero_le _, fun x h => absurd h (Nat.not_lt_zero _), fun x h => absurd h (Nat.not_lt_zero _)⟩
theorem Bl.old {n : Nat} {f : List Nat} {i c : Nat} (b : Bl n f i c) (h : nx (fom n f) i < c) : Bl n f (i + 1) c :=
  ⟨b.le, fun x hx => if e : x = i then e ▸ h else b.lt x (by omega), fun j hj => Nat.lt_succ_of_lt (b.hd j hj)⟩
theorem Bl.new {n : Nat} {f : List Nat} {i c : Nat} (b : Bl n f i c) (hL : Lst n f) (hi : i < n) (h : ¬ nx (fom n f) i < c) : nx (fom n f) i = c ∧ nx (hds n f) c = i ∧ Bl n f (i + 1) (c + 1) := by
  have hq := fom_lt hL hi
  have h1 : nx (hds n f) (nx (fom n f) i) ≤ i := by rw [hds_fom hL hi]; exact hL.le i hi
  have h2 := hds_mono (n := n) (f := f) (i := c) (j := nx (fom n f) i) (by omega) hq
  have h3 : ¬ nx (hds n f) c < i := fun z => by
    have := b.lt _ z
    rw [fom_hds hL (by omega)] at this
    exact Nat.lt_irrefl _ this
  have e1 : nx (hds n f) c = i := by omega
  have e2 : nx (fom n f) i = c := by rw [← e1]; exact fom_hds hL (by omega)
  refine ⟨e2, e1, by omega, fun x hx => ?_, fun j hj => ?_⟩
  · by_cases e : x = i
    · rw [e, e2]; exact Nat.lt_succ_self _
    · exact Nat.lt_succ_of_lt (b.lt x (by omega))
  · by_cases e : j = c
    · rw [e, e1]; exact Nat.lt_succ_self _
    · exact Nat.lt_succ_of_lt (b.hd j (by omega))
theorem Bl.end_ {n : Nat} {f : List Nat} {c : Nat} (b : Bl n f n c) (hL : Lst n f) (hn : 1 ≤ n) : c = (hds n f).length := by
  have hp : 0 < (hds n f).length := Nat.lt_of_le_of_lt (Nat.zero_le _) (fom_lt hL (x := 0) hn)
  have h3 := mem_hds.mp (nx_mem (f := hds n f) (x := (hds n f).length - 1) (by omega))
  have := b.lt _ h3.1
  rw [fom_hds hL (by omega)] at this
  have := b.le
  omega
def blw (n : Nat) (f U : List Nat) : List Nat := (hds n f).map (nx U)
theorem blw_nx {n : Nat} {f U : List Nat} {i : Nat} (hi : i < (hds n f).length) : nx (blw n f U) i = nx U (nx (hds n f) i) := by
  show (blw n f U).getD i 0 = nx U ((hds n f).getD i 0)
  rw [List.getD_eq_getElem?_getD, List.getD_eq_getElem?_getD]
  unfold blw
  rw [List.getElem?_map, List.getElem?_eq_getElem hi]; rfl
theorem map_kept {n nb : Nat} {r u rb ub U : List Nat} (M : MapN n nb r u rb ub U) : Kept n r u (nx U) := fun x y hx hy e => by
  rw [M.kr x hx, M.kr y hy, M.ku x hx, M.ku y hy, e]; exact ⟨rfl, rfl⟩
theorem map_under {n nb : Nat} {r u rb ub U f : List Nat} {a b : Nat} (M : MapN n nb r u rb ub U) (hL : Lst n f) (hC : Cg n r u a b f) (hab : nx U a = nx U b) : ∀ x, x < n → nx U (nx f x) = nx U x := fun x hx =>
  hC.min (nx U) (map_kept M) hab _ _ (hL.lt hx) hx (hL.idm x hx)
theorem blw_fom {n : Nat} {f U : List Nat} (hL : Lst n f) (h : ∀ x, x < n → nx U (nx f x) = nx U x) {x : Nat} (hx : x < n) : nx (blw n f U) (nx (fom n f) x) = nx U x := by
  rw [blw_nx (fom_lt hL hx), hds_fom hL hx, h x hx]
theorem blw_map {n nb : Nat} {r u rb ub U f : List Nat} (M : MapN n nb r u rb ub U) (hL : Lst n f) (rr : Row n r) (ru : Row n u) (h : ∀ x, x < n → nx U (nx f x) = nx U x) : MapN (hds n f).length nb (fob n f r) (fob n f u) rb ub (blw n f U) where
  len := List.length_map ..
  lt x hx := by
    obtain ⟨y, hy, e⟩ := List.mem_map.mp hx
    rw [← e]
    exact M.lt _ (nx_mem (by rw [M.len]; exact (mem_hds.mp hy).1))
  kr k hk := by
    have hh := (mem_hds.mp (nx_mem hk)).1
    rw [fob_nx hk, blw_fom hL h (rr.nlt hh), M.kr _ hh, blw_nx hk]
  ku k hk := by
    have hh := (mem_hds.mp (nx_mem hk)).1
    rw [fob_nx hk, blw_fom hL h (ru.nlt hh), M.ku _ hh, blw_nx hk]
/-- one square folded onto itself: all stays -/
theorem fold_self {n : Nat} {r u f : List Nat} {a : Nat} (hL : Lst n f) (hC : Cg n r u a a f) : f = List.range n := by
  refine List.ext_getElem (by rw [hL.len, List.length_range]) fun i h1 h2 => ?_
  have hi : i < n := by rw [← hL.len]; exact h1
  have := hC.min id (fun x y _ _ e => by rw [show x = y from e]; exact ⟨rfl, rfl⟩) rfl _ _ (hL.lt hi) hi (hL.idm i hi)
  have e : nx f i = f[i] := by show f.getD i 0 = _; rw [List.getD_eq_getElem?_getD, List.getElem?_eq_getElem h1]; rfl
  rw [List.getElem_range, ← e]; exact this
theorem hds_self (n : Nat) : hds n (List.range n) = List.range n := by
  unfold hds
  rw [List.filter_eq_self]
  intro v hv
  exact decide_eq_true (nx_range (List.mem_range.mp hv))
theorem fom_self (n : Nat) : fom n (List.range n) = List.range n := by
  unfold fom
  rw [hds_self]
  refine List.ext_getElem (by simp) fun i h1 h2 => ?_
  have hi : i < n := by simpa using h2
  rw [List.getElem_map, List.getElem_range]
  refine nd_inj List.nodup_range (List.idxOf_lt_length_of_mem (List.mem_range.mpr hi)) (by simpa using hi) ?_
  rw [List.getElem_idxOf, List.getElem_range]
theorem fob_self {n : Nat} {r : List Nat} (rr : Row n r) : fob n (List.range n) r = r := by
  unfold fob
  rw [hds_self, fom_self]
  refine List.ext_getElem (by rw [List.length_map, List.length_range, rr.len]) fun i h1 h2 => ?_
  have hi : i < n := by rw [← rr.len]; exact h2
  rw [List.getElem_map, List.getElem_range, nx_range (rr.nlt hi)]
  show r.getD i 0 = _
  rw [List.getD_eq_getElem?_getD, List.getElem?_eq_getElem h2]; rfl
end Sq
namespace K1
open PySem L2 Sq
def Tells8 (kvs : List (Key × V)) (g : Nat → Option Nat) : Prop := ∀ k : Nat, valV kvs (Sum.inl (k : Int) : Key) = (g k).map (fun (v : Nat) => V.int (v : Int))
def spBl : Sp := fun vs H Q _ => ∃ (pm pu : Addr) (n : Nat) (f U : List Nat), vs = [.ref pm, .ref pu] ∧ H pm = some (.lst (nv (fom n f))) ∧ H pu = some (.lst (nv U)) ∧ Lst n f ∧ U.length = n ∧ (∀ x, x < n → nx U (nx f x) = nx U x) ∧ 1 ≤ n ∧ n ≤ 36 ∧
  ∀ (H' : Hp) (l : Addr), Same H H' → H' l = some (.lst (nv (blw n f U))) → Q (.ref l) H'
section
variable {P : Program} {w : World} {K : PySem.W.Frag} {mg : Str → Option Value} {base : Heap}
abbrev n_bl : List Str := ["_law_m", "_law_under", "_law_told", "_law_number", "_law_square"]
theorem sc_bl : FnScope n_bl ["_law_m", "_law_under"] (defScope sLBelow) := ⟨rfl, rfl, rfl, by decide +kernel, rfl, by decide +kernel, by decide +kernel⟩
theorem nd_bl : (["_law_number", "_law_told"] : List Str).Nodup := by decide +kernel
set_option maxHeartbeats 2000000 in
theorem ok_bl {f : Addr} {fd : FuncData} (T : Bi mg) (T_zip : mg "zip" = none) (F : Fn K mg "_law_below" sLBelow ["_law_m", "_law_under"] f fd) : FnOk P w K mg base CX0 1 f fd ["_law_m", "_law_under"] spBl := by
  refine F.F.ok sc_bl (fun vs H Q E h => ?_) (fun cdv A outer s H vs Q E hr h => ?_)
  · obtain ⟨pm, pu, n, f, U, rfl, _⟩ := h; rfl
  · obtain ⟨pm, pu, n, f, U, rfl, hm, hU, hL, hUl, hcon, hn1, hn, k⟩ := h
    have hu := hu_of hr
    refine ⟨_, (pss_cons (ps_set (i := 2) sc_bl.nd rfl (Or.inr rfl) pe_dnewK)
      (pss_cons (ps_for PassesOwn.never rfl (pi_zip rfl T_zip (pa_cons (pv 0) (pa_cons (pv 1) pa_nil))) (pg_tupE rfl (pgs_cons (pg_name (i := 3) sc_bl.nd rfl (Or.inl rfl)) (pgs_cons (pg_name (i := 4) sc_bl.nd rfl (Or.inl rfl)) pgs_nil))) (pss_one (ps_if (pt_cmpR op_ne (pe_dsdef (pv 2) (pv 3) (pv 4) ⟨rfl, rfl, rfl, rfl⟩) (pv 4) (nomark _)) (pss_one (ps_ret pe_non)) pss_nil)))
      (pss_one (ps_ret (pe_comp (N := n_bl) (names := (defScope sLBelow).names) (N' := ["_law_number", "_law_told"]) (k := 1) (pull := [2]) (te := (tDGet (tVar 1) (tVar 0))) rfl ⟨by rfl, by decide +kernel, by decide +kernel, by rfl, by decide +kernel, by decide +kernel⟩ rfl rfl (pi_range1 rfl T.range (pa_cons (pe_callB call_lenD rfl T.len PySem.boot_len (pa_cons (pv 2) pa_nil)) pa_nil)) (fun _ _ _ _ _ _ => pg_name (i := 0) nd_bl rfl (Or.inl rfl)) (fun _ _ _ _ _ _ => (pe_dget hu (pv 1) (pv 0) (fun _ _ => rfl)))))))), ?_⟩
    have fml : (fom n f).length = n := by unfold fom; rw [List.length_map, hL.len]
    have gf : ∀ {i}, i < n → (fom n f)[i]? = some (nx (fom n f) i) := fun {i} hi => by show (fom n f)[i]? = some ((fom n f).getD i 0); rw [List.getD_eq_getElem?_getD, List.getElem?_eq_getElem (by omega)]; rfl
    have gU : ∀ {i}, i < n → U[i]? = some (nx U i) := fun {i} hi => by show U[i]? = some (U.getD i 0); rw [List.getD_eq_getElem?_getD, List.getElem?_eq_getElem (by omega)]; rfl
    refine fun d hd0 => ?_
    have s1 : Same H (upd H d (.dK [])) := same_upd (Same.refl H) hd0
    have e1 : (upd H d (.dK [])) d = some (.dK []) := upd_same
    revert s1 e1
    generalize (upd H d (.dK [])) = H1
    intro s1 e1
    refine ⟨_, rfl, _, rfl, pm, pu, rfl, ⟨_, SqL.of (s1 _ _ hm)⟩, ⟨_, SqL.of (s1 _ _ hU)⟩, ?_⟩
    refine for_zip (K := K) (l1 := pm) (l2 := pu) (xs := nv (fom n f)) (ys := nv U) (by rw [nv_len, nv_len, fml, hUl]) (fun i σ H3 => ∃ (kvs : List (Key × V)) (c : Nat) (o3 o4 : Option V), σ = [some (.ref pm), some (.ref pu), some (.ref d), o3, o4] ∧ Same H H3 ∧ H3 d = some (.dK kvs) ∧ kvs.length = c ∧ Bl n f i c ∧ Tells8 kvs fun j => if j < c then some (nx (blw n f U) j) else none)
      ⟨[], 0, _, _, rfl, s1, e1, rfl, Bl.start n f, fun j => rfl⟩ (fun i σ H3 ⟨_, _, _, _, _, s3, _⟩ => ⟨SqL.of (s3 _ _ hm), SqL.of (s3 _ _ hU)⟩) ?_ ?_
    · rintro i va vb σ H3 T' hva hvb hT' ⟨kvs, c, o3, o4, rfl, s3, hd3, hlen, hB, ht⟩
      have ht : ∀ k : Nat, valV kvs (Sum.inl (k : Int) : Key) = (if k < c then some (nx (blw n f U) k) else none).map (fun (v : Nat) => V.int (v : Int)) := ht
      obtain ⟨q, hq, rfl⟩ := nv_get' hva
      obtain ⟨v, hv, rfl⟩ := nv_get' hvb
      have hi : i < n := by rw [← fml]; exact (List.getElem?_eq_some_iff.mp hq).1
      obtain rfl : nx (fom n f) i = q := Option.some.inj ((gf hi).symm.trans hq)
      obtain rfl : nx U i = v := Option.some.inj ((gU hi).symm.trans hv)
      have hcl := hB.le
      have hhl : (hds n f).length ≤ n := by
        have := List.length_filter_le (fun v => decide (nx f v = v)) (List.range n)
        rwa [List.length_range] at this
      have s5 := same_upd (o := tupE T' [.int (nx (fom n f) i : Int), .int (nx U i : Int)]) s3 (s3.free hT')
      have hd5 : (upd H3 T' (tupE T' [.int (nx (fom n f) i : Int), .int (nx U i : Int)])) d = some (.dK kvs) := by rw [upd_ne (ne_of_none hd3 hT')]; exact hd3
      refine ⟨T', _, rfl, upd_same, rfl, _, _, rfl, _, _, rfl, rfl, ?_⟩
      revert s5 hd5
      generalize (upd H3 T' (tupE T' [.int (nx (fom n f) i : Int), .int (nx U i : Int)])) = H5
      intro s5 hd5
      refine ⟨_, rfl, d, rfl, .inl ⟨kvs, .inl hd5⟩, _, rfl, _, rfl, kvs, Sum.inl (nx (fom n f) i : Int), hd5, rfl, small1000 (by omega), fun w' hw' => ?_, fun hn' => ?_⟩
      · rw [ht (nx (fom n f) i)] at hw'
        by_cases hc : nx (fom n f) i < c
        · rw [if_pos hc, blw_fom hL hcon hi] at hw'
          cases hw'
          refine ⟨_, rfl, rfl, _, rfl, ?_⟩
          rw [decide_eq_true rfl]
          refine iteF ?_
          exact ⟨kvs, c, _, _, rfl, s5, hd5, hlen, hB.old hc, ht⟩
        · rw [if_neg hc] at hw'; cases hw'
      · rw [ht (nx (fom n f) i)] at hn'
        by_cases hc : nx (fom n f) i < c
        · rw [if_pos hc] at hn'; cases hn'
        · obtain ⟨q1, q2, q3⟩ := hB.new hL hi hc
          refine ⟨_, rfl, rfl, _, rfl, ?_⟩
          rw [decide_eq_true rfl]
          refine iteF ?_
          have hno : valV kvs (Sum.inl (nx (fom n f) i : Int) : Key) = none := by rw [ht (nx (fom n f) i), if_neg hc]; rfl
          refine ⟨putK kvs (Sum.inl (nx (fom n f) i : Int)) (V.int (nx U i : Int)), c + 1, _, _, rfl, same_upd s5 hd0, upd_same, ?_, q3, fun k' => ?_⟩
          · rw [putK_new _ hno, List.length_append, hlen]; rfl
          · show valV _ _ = (if k' < c + 1 then some (nx (blw n f U) k') else none).map (fun (v : Nat) => V.int (v : Int))
            rw [valV_put]
            by_cases e : k' = nx (fom n f) i
            · subst e
              rw [if_pos rfl, if_pos (by omega), blw_fom hL hcon hi]; rfl
            · rw [if_neg (fun z => e (by have : (k' : Int) = ((nx (fom n f) i : Nat) : Int) := Sum.inl.inj z; omega)), ht k']
              have : (k' < c) ↔ (k' < c + 1) := by omega
              by_cases z : k' < c
              · rw [if_pos z, if_pos (by omega)]
              · rw [if_neg z, if_neg (by omega)]
    · rintro σ H3 ⟨kvs, c, o3, o4, rfl, s3, hd3, hlen, hB, ht⟩
      have ht : ∀ k : Nat, valV kvs (Sum.inl (k : Int) : Key) = (if k < c then some (nx (blw n f U) k) else none).map (fun (v : Nat) => V.int (v : Int)) := ht
      rw [nv_len, fml] at hB
      have hc := hB.end_ hL hn1
      have hhl : (hds n f).length ≤ n := by
        have := List.length_filter_le (fun v => decide (nx f v = v)) (List.range n)
        rwa [List.length_range] at this
      dsimp only [tRet]
      refine compRange (m := c) (rest := [some (.ref d)]) (fun j => nx (blw n f U) j) (fun R hR => ⟨_, rfl, d, kvs, rfl, hd3, by rw [hlen]; exact hR⟩) rfl (fun i H R hi hd hR => ?_) (by omega) fun H5 e s5 he0 he => ?_
      · refine ⟨_, rfl, _, rfl, d, .int (nx (blw n f U) i : Int), rfl, .inl ⟨kvs, Sum.inl (i : Int), .inl (hd _ _ hd3), rfl, by rw [ht i, if_pos hi]; rfl⟩, hR⟩
      · have eb : (List.range c).map (fun j => nx (blw n f U) j) = blw n f U := by
          have hbl : (blw n f U).length = c := by unfold blw; rw [List.length_map, hc]
          refine List.ext_getElem (by simp [hbl]) fun i h1 h2 => ?_
          rw [List.getElem_map, List.getElem_range]
          show (blw n f U).getD i 0 = _
          rw [List.getD_eq_getElem?_getD, List.getElem?_eq_getElem h2]; rfl
        rw [eb] at he
        exact k H5 e (s3.trans s5) he
end
end K1
namespace K1
open PySem L2 Sq
/-- [k for k in range(m) if test(k)] -/
theorem compFil {Hc : Hp} {m : Nat} {ta : TA} {tt : TT} {pull : List Nat} {Q : VK} {σ : St} {rest : St} (p : Nat → Bool) (hj : ∀ R : List V → Hp → Prop, R [.int (m : Int)] Hc → ta σ Hc R) (hb : bst 1 pull σ = none :: rest)
    (htt : ∀ (i : Nat) (H : Hp) (R : Bool → Hp → Prop), i < m → Same Hc H → R (p i) H → tt (some (.int (i : Int)) :: rest) H R) (hm : m ≤ 1000)
    (k : ∀ (H' : Hp) (d : Addr), Same Hc H' → Hc d = none → H' d = some (.lst (nv ((List.range m).filter p))) → Q (.ref d) H') :
    tCompIf (iRng1 ta) 1 pull (gName 0) tt (tVar 0) σ Hc Q := by
  refine hj _ ⟨(m : Int), rfl, by omega, by omega, fun d hd => ?_⟩
  rw [Int.toNat_natCast, hb]
  refine compIf_ex (J := Itr 0 m) (Q := fun d H' => Q (.ref d) H') m (fun i xs σ H9 => (∃ o, σ = o :: rest) ∧ Same Hc H9 ∧ xs = nv ((List.range i).filter p)) ⟨⟨_, rfl⟩, same_upd (Same.refl _) hd, rfl⟩ ?_ ?_
  · rintro i xs σ H9 hi ⟨⟨o, rfl⟩, s9, rfl⟩ hd9
    refine ⟨hi, fun x H4 ⟨e1, e2⟩ => ?_⟩
    subst e1 e2
    rw [show (0 : Int) + (i : Int) = (i : Int) from by omega]
    refine htt i _ _ hi s9 ?_
    have el : ((List.range i).filter p).length ≤ i := by have := List.length_filter_le p (List.range i); simpa using this
    have ef : (List.range (i + 1)).filter p = (List.range i).filter p ++ [i].filter p := by rw [List.range_succ, List.filter_append]
    cases e : p i with
    | true =>
      have e3 : [i].filter p = [i] := by simp [e]
      rw [if_pos rfl]
      refine ⟨_, rfl, xpost hi hd9 (by rw [nv_len]; omega) ⟨⟨_, rfl⟩, same_upd s9 hd, ?_⟩⟩
      rw [ef, e3, nv_snoc]
    | false =>
      have e3 : [i].filter p = [] := by simp [e]
      rw [if_neg (by decide)]
      refine xskip hi hd9 ⟨⟨_, rfl⟩, s9, ?_⟩
      rw [ef, e3, List.append_nil]
  · rintro xs σ H9 ⟨⟨o, rfl⟩, s9, rfl⟩ hd9
    exact ⟨Nat.le_refl _, k H9 d s9 hd hd9⟩
end K1
namespace L2
open PySem PySem.Spec PyProof.Rows
section
variable {X : Cx}
theorem op_notB : OpR X (compareOp .IsNot) (fun x y H Q => ∃ b c : Bool, x = .bl b ∧ y = .bl c ∧ Q (.bl (!(b == c))) H) := by
  intro pins s σ H x y v u Q I rx ry h
  obtain ⟨b, c, rfl, rfl, q⟩ := h
  obtain rfl := (show v = Value.bool b from rx)
  obtain rfl := (show u = Value.bool c from ry)
  refine wpAny_isNot_plain rfl ⟨.bl (!(b == c)), H, I, ?_, q⟩
  cases b <;> cases c <;> rfl
end
end L2
namespace L2
open PySem PySem.Spec PyProof.Rows
section
variable {X : Cx} {elt tg iter : Expr} {sc : Scope} {pos py spos : Pos} {cnd : Expr} {tt : TT} {wi : TI} {g : TG} {te : TE} {N : List Str} {names : List (Str × NameKind)} {N' : List Str} {k j : Nat} {pull : List Nat} {y : Str}
theorem ps_compIf (hc : X.calm = true) (hNd : X.N.Nodup) (hj : X.N[j]? = some y) (hy : X.env.scope.names.lookup y = some .local) (B : BScope N names N' k pull sc) (hN : X.N = N) (hnm : X.env.scope.names = names) (hi : PI X tg iter wi)
    (hg : ∀ cl C s₂ H₁ fp pins, PG (blk X sc cl C N' s₂ H₁ fp pins) tg g) (hcn : ∀ cl C s₂ H₁ fp pins, PT (blk X sc cl C N' s₂ H₁ fp pins) cnd tt) (he : ∀ cl C s₂ H₁ fp pins, PE (blk X sc cl C N' s₂ H₁ fp pins) elt te)
    (hs : ∀ x, foldedSetIterable iter X.env x = pure x := by intro _; rfl) (hsw : swapsWith (.ListComp elt [⟨tg, iter, [cnd], 0⟩] sc pos) (some (.Name y py)) spos.line X.env = pure true := by rfl) : PS X (.Assign [.Name y py] (.ListComp elt [⟨tg, iter, [cnd], 0⟩] sc pos) spos) (tAsg (tCompIf wi k pull g tt te) (gName j)) := by
  intro pins s σ H D I h
  rw [exec_Assign_Name_used _ _ _ _ hsw]
  refine wpAny_bind (wpAny_standAt (wpAny_bind ?_))
  show wpAny _ X.A (do let _ ← comprehension (.ListComp elt [⟨tg, iter, [cnd], 0⟩] sc pos) sc X.env _ (newList []) false (eval iter X.env) (some (assign (.Name y py) X.env))) _ _ s
  have hcells : ∀ y ∈ sc.names, y.2 = .free → ∃ c, X.env.cells.lookup y.1 = some c := fun y hy hf => I.ok.has y.1 (.inl (by
    show X.env.scope.names.lookup y.1 = _
    rw [hnm]; exact B.fre y hy hf))
  obtain ⟨cl, ecl, c1, _, c3⟩ := closureFor_is (env := X.env) sc.names [] hcells (fun x c e => nomatch e)
  rw [← closureFor_eq] at ecl
  refine wpAny_bind (wpAny_mono (wpAny_comprehension_free (Q := fun _ s' => SP X pins D .next s') (use := some (assign (.Name y py) X.env)) rfl hs ecl B.kind B.loc (thn (hi pins s σ H _ I h) fun xv s1 h1 => thn h1 fun itv s2 h2 => ?_)) (fun _ s' hq => wpAny_pure (wpAny_pure hq)) fun _ _ e => e)
  obtain ⟨it, fp, tn, J, H1, e, I2, T, st2, f2, hW⟩ := h2
  subst e
  have ho : ∀ b ∈ fp, ∃ o, s2.heap.get? b = some o := fun b hb => let ⟨o, e, _⟩ := T.obj _ _ st2 b hb; ⟨o, e⟩
  refine wpAny_newObj_type (wpAny_newFunctionEnv B.nocell (by intro y hy; simp at hy) (fun h₁ hns₁ hsb₁ => ?_) B.kind)
  dsimp only at hns₁ hsb₁ ⊢
  rw [Heap.size_push] at hns₁ hsb₁ ⊢
  have old : ∀ b o, s2.heap.get? b = some o → h₁.get? b = some o := fun b o e => by
    have hlt := Heap.lt_size e
    exact (hsb₁.2 b (Nat.ne_of_lt (Nat.lt_succ_of_lt hlt))).trans (Heap.get?_push_of_some _ (Heap.get?_push_of_some _ e))
  have hd : h₁.get? s2.heap.objs.size = some { cls := .type "list", data := .seq ([] : List Value).toArray } :=
    (hsb₁.2 _ (Nat.ne_of_lt (Nat.lt_succ_self _))).trans (Heap.get?_push_of_some _ (Heap.get?_push_size _ rfl))
  have I4 := blk_start (tk := s2.toks + ([] : List (Str × Value)).length) B hN hnm I2 f2 ho c1 c3 hns₁ old hd
  have st4 : tn 0 h₁ := T.keep _ _ _ st2 fun b _ o e => old b o e
  obtain ⟨W, ⟨m0, w0⟩, turn⟩ := hW s2.heap.objs.size (I2.hok.fresh (Nat.le_refl _))
  have fr4 : ∀ b ∈ fp, (upd H1 s2.heap.objs.size (.lst [])) b = none := fun b hb => by
    obtain ⟨o, e⟩ := ho b hb
    rw [upd_ne (Nat.ne_of_lt (Heap.lt_size e))]
    exact (f2 b hb).1
  -- what stays true of the iterator's objects
  have stat : ∀ {H' : Hp}, (∀ b ∈ fp, H' b = none) → ∀ b ∈ fp, FpOk (blk X sc cl (s2.heap.objs.size + 1) N' s2 H1 fp pins) [] H' b := fun hn b hb => by
    refine ⟨hn b hb, (I4.ok.exf b hb).1, I4.ok.exfs b hb, .inl hb, (I4.ok.exf b hb).2, fun p hp => ?_⟩
    have hp : p ∈ X.pn ++ pins := by simpa [blk] using hp
    exact (f2 b hb).2.2.2.2.2 p hp
  have loop : ∀ s₃ : Shared, s₃ = { s2 with heap := h₁, toks := s2.toks + ([] : List (Str × Value)).length } →
      codeAny (model X.prog X.w) X.A (.compLoop (.ListComp elt [⟨tg, iter, [cnd], 0⟩] sc pos) 0 (.ref it) (.ref s2.heap.objs.size) (compEnvC sc cl (s2.heap.objs.size + 1) X.env))
        (compPost (model X.prog X.w) X.A X.xe (some (assign (.Name y py) X.env)) (fun _ s' => SP X pins D .next s') (.ref s2.heap.objs.size) (s2.heap.objs.size + 1)) s₃ := by
    rintro s₃ rfl
    refine comp_turnIf (fun n s' => ∃ i σ' H', Inv (blk X sc cl (s2.heap.objs.size + 1) N' s2 H1 fp pins) [] σ' H' s' ∧ tn i s'.heap ∧ (∀ b ∈ fp, H' b = none) ∧ W i n σ' H') ?_ m0 ⟨0, _, _, I4, st4, fr4, w0⟩
    rintro n s3 ⟨i, σ3, H3, I3, st3, fr3, w3⟩
    rcases turn i n σ3 H3 w3 with ⟨stop, q⟩ | ⟨go, step⟩
    · refine thn (T.done (blk X sc cl (s2.heap.objs.size + 1) N' s2 H1 fp pins) rfl rfl rfl hc i [] s3 σ3 H3 _ I3 (stat fr3) st3 stop) fun r s4 ⟨hr, I5⟩ => ?_
      subst hr
      obtain ⟨m, hn, _⟩ := id I5.loc
      have U : Un (frs X.stack) fp H1 H3 s2.heap s4.heap := I5.base
      have J5 : Inv X pins σ H3 s4 := I2.call' (s' := s4) I5.os U I5.hok I5.bare fun b hb => ⟨(f2 b hb).2.2.2.1, (f2 b hb).2.1, (f2 b hb).2.2.2.2.1, (f2 b hb).2.2.2.2.2⟩
      obtain ⟨g0, g1, _, g3, g4, g5⟩ : FpOk X pins H3 (s2.heap.objs.size + 1) := I2.fpOk (Nat.le_succ _) I5.free
      refine wpAny_assign_Name (store_ok2 J5 hNd hj (.inl hy) (v := .ref s2.heap.objs.size) rfl (fun s5 K5 ⟨a, sb, ha⟩ => ?_) (.inr hy))
      have hne : s2.heap.objs.size + 1 ≠ a := fun z => by
        rcases ha with ha | ha
        · exact g1 (z.trans ha)
        · exact g4 _ _ ha z.symm
      refine ⟨m, hn.sameBut sb hne, fun h' hs' => ⟨_, H3, ?_, q⟩⟩
      exact K5.turned (t' := s5.toks) (fun b o hb e => (hs'.2 b hb).trans e) g0 g1 g3 g4 g5
    · refine thn (T.item (blk X sc cl (s2.heap.objs.size + 1) N' s2 H1 fp pins) rfl rfl rfl hc i [] s3 σ3 H3 _ I3 (stat fr3) st3 go) fun r s4 ⟨u, hr, h4⟩ => ?_
      subst hr
      refine thn h4 fun _ s5 ⟨x, H5, I5, r5, y5, st5, fr5⟩ => ?_
      have I5' := I5.pinned (stat fr5) (T.obj _ _ st5)
      refine wpAny_mono (hg _ _ _ _ _ _ _ s5 σ3 H5 x u _ I5' r5 (step x H5 y5)) (fun _ s6 ⟨σ6, H6, I6, q6⟩ => ?_) fun _ _ z => z.elim
      refine wpAny_mono (hcn _ _ _ _ _ _ _ s6 σ6 H6 _ I6 q6) (fun ok s7 ⟨H7, I7, q7⟩ => ?_) fun _ _ z => z.elim
      cases ok with
      | false =>
        have q7 : ∃ m', m' < n ∧ W (i + 1) m' σ6 H7 := by simpa using q7
        obtain ⟨m', hm, w7⟩ := q7
        refine ⟨m', hm, i + 1, σ6, _, I7.unpinned, T.keep _ _ _ st5 fun b hb o e => (I7.pin (b, o) (List.mem_append_right _ (List.mem_append_right _ (mem_pinsAt hb e)))).1, fun b hb => ?_, w7⟩
        obtain ⟨o, e, _⟩ := T.obj _ _ st5 b hb
        exact (I7.pin (b, o) (List.mem_append_right _ (List.mem_append_right _ (mem_pinsAt hb e)))).2.1
      | true =>
        rw [if_pos rfl] at q7
        refine wpAny_mono (he _ _ _ _ _ _ _ s7 σ6 H7 _ I7 q7) (fun y s8 ⟨z, H8, I8, r8, xs, hx8, hz8, m', hm, w8⟩ => ?_) fun _ _ z => z.elim
        refine wpAny_mono (mt_append (X := blk X sc cl (s2.heap.objs.size + 1) N' s2 H1 fp pins) _ s8 σ6 H8 (.ref s2.heap.objs.size) [z] (.ref s2.heap.objs.size) [y] (fun _ H9 => H9 = upd H8 s2.heap.objs.size (.lst (xs ++ [z]))) I8 rfl (.cons r8 .nil) ⟨_, xs, z, rfl, rfl, hx8, hz8, rfl⟩) (fun _ s9 ⟨_, H9, I9, _, e9⟩ => ?_) fun _ _ z => z.elim
        subst e9
        refine ⟨m', hm, i + 1, σ6, _, I9.unpinned, T.keep _ _ _ st5 fun b hb o e => (I9.pin (b, o) (List.mem_append_right _ (List.mem_append_right _ (mem_pinsAt hb e)))).1, fun b hb => ?_, w8⟩
        obtain ⟨o, e, _⟩ := T.obj _ _ st5 b hb
        exact (I9.pin (b, o) (List.mem_append_right _ (List.mem_append_right _ (mem_pinsAt hb e)))).2.1
  exact codeAny_compStart_list (loop _ rfl) (T.self _ 0 _ _ _ st4 (loop _ rfl))
end
end L2
namespace K1
open PySem L2 Sq
def spFl (K : PySem.W.Frag) : Sp := fun vs H Q _ => ∃ (a b pu : Addr) (z : Int) (n nb : Nat) (r u rb ub U : List Nat), vs = [.ref a, .ref b, .ref pu, .int z] ∧ ShAt H a r u ∧ ShAt H b rb ub ∧ H pu = some (.lst (nv U)) ∧ Sheet n r u ∧ Row nb rb ∧ Row nb ub ∧ nb ≤ 36 ∧ MapN n nb r u rb ub U ∧
  ∀ (H' : Hp) (t a' l : Addr) (n' : Nat) (r' u' U' : List Nat), Same H H' → H' t = some (.tup [.ref a', .ref l]) → ShAt H' a' r' u' → Sheet n' r' u' → H' l = some (.lst (nv U')) → MapN n' nb r' u' rb ub U' → Q (.ref t) H'
section
variable {P : Program} {w : World} {K : PySem.W.Frag} {mg : Str → Option Value} {base : Heap}
abbrev n_fl : List Str := ["_law_sheet_here", "_law_base", "_law_under", "_law_cell_here", "_law_one", "_law_alike", "_law_told", "_law_m", "_law_below_here"]
theorem sc_fl : FnScope n_fl ["_law_sheet_here", "_law_base", "_law_under", "_law_cell_here"] (defScope sLFolded) := ⟨rfl, rfl, rfl, by decide +kernel, rfl, by decide +kernel, by decide +kernel⟩
theorem nd_fl : (["_law_square", "_law_under", "_law_one"] : List Str).Nodup := by decide +kernel
set_option maxHeartbeats 8000000 in
theorem ok_fl {f fr fi fb fm fl : Addr} {fd dr di db dm dl : FuncData} {fo CN : Addr} {dfo : FuncData} (T : Bi mg) (T_max : mg "max" = none) (FO : Fn K mg "folded" sFolded ["sheet", "one", "other"] fo dfo) (GO : FnOk P w K mg base (CX1 P w) 4 fo dfo ["sheet", "one", "other"] (spFd CN)) (F : Fn K mg "_law_folded" sLFolded ["_law_sheet_here", "_law_base", "_law_under", "_law_cell_here"] f fd) (FR : Fn K mg "_law_map_right" sLMapRight ["_law_sheet_here", "_law_base", "_law_m"] fr dr) (GR : FnOk P w K mg base CX0 2 fr dr ["_law_sheet_here", "_law_base", "_law_m"] (spMr K))
    (FI : Fn K mg "_law_is_sheet" sIsSheet ["_law_found", "_law_many"] fi di) (GI : FnOk P w K mg base CX0 2 fi di ["_law_found", "_law_many"] spIsSheet)
    (FB : Fn K mg "_law_below" sLBelow ["_law_m", "_law_under"] fb db) (GB : FnOk P w K mg base CX0 1 fb db ["_law_m", "_law_under"] spBl)
    (FM : Fn K mg "is_map" sIsMap ["sheet", "base", "m"] fm dm) (GM : FnOk P w K mg base CX0 3 fm dm ["sheet", "base", "m"] (spIm K))
    (FL : Fn K mg "laid" sLaid ["sheet", "base"] fl dl) (GL : FnOk P w K mg base CX0 6 fl dl ["sheet", "base"] (spLd K)) : FnOk P w K mg base CX0 7 f fd ["_law_sheet_here", "_law_base", "_law_under", "_law_cell_here"] (spFl K) := by
  refine F.F.ok sc_fl (fun vs H Q E h => ?_) (fun cdv A outer s H vs Q E hr h => ?_)
  · obtain ⟨a, b, pu, z, n, nb, r, u, rb, ub, U, rfl, _⟩ := h; rfl
  · obtain ⟨a, b, pu, z, n, nb, r, u, rb, ub, U, rfl, hsh, hb, hpu, hSh, rrb, rub, hnb, M, k⟩ := h
    have hr4 : Room 4 _ := hr.mono (by decide)
    have hr1 : Room 1 _ := hr.mono (by decide)
    have hr2 : Room 2 _ := hr.mono (by decide)
    have hr3 : Room 3 _ := hr.mono (by decide)
    refine ⟨_, (pss_cons (ps_set (i := 4) sc_fl.nd rfl (Or.inr rfl) (pe_op op_mod (pv 3) (pe_callB call_len_seq rfl T.len PySem.boot_len (pa_cons (pv 2) pa_nil))))
      (pss_cons (ps_compIf (j := 5) (N := n_fl) (names := (defScope sLFolded).names) (N' := ["_law_square", "_law_under", "_law_one"]) (k := 1) (pull := [2, 4]) (tt := tTest (tOp rEq (tOp (rIxL K) (tVar 1) (tVar 0)) (tOp (rIxL K) (tVar 1) (tVar 2)))) (te := (tVar 0)) rfl sc_fl.nd rfl rfl ⟨by rfl, by decide +kernel, by decide +kernel, by rfl, by decide +kernel, by decide +kernel⟩ rfl rfl (pi_range1 rfl T.range (pa_cons (pe_callB call_len_seq rfl T.len PySem.boot_len (pa_cons (pv 2) pa_nil)) pa_nil)) (fun _ _ _ _ _ _ => pg_name (i := 0) nd_fl rfl (Or.inl rfl)) (fun _ _ _ _ _ _ => pt_cmpR op_eq (pe_ix ix_list (pv 1) (pv 0) (fun _ _ => rfl)) (pe_ix ix_list (pv 1) (pv 2) (fun _ _ => rfl)) (by with_unfolding_all rfl)) (fun _ _ _ _ _ _ => (pv 0)))
      (pss_cons (ps_asg (pe_call GO hr4 rfl FO.m FO.F.kp FO.b .nil (E := E0) passE0 (pa_cons (pv 0) (pa_cons (pv 4) (pa_cons (pe_ix ix_list (pv 5) (pe_op op_mod (pe_op op_fdiv (pv 3) pe_int) (pe_callB call_len_seq rfl T.len PySem.boot_len (pa_cons (pv 5) pa_nil))) (fun _ _ => rfl)) pa_nil)))) (pg_tup rfl (pgs_cons (pg_name (i := 6) sc_fl.nd rfl (Or.inl rfl)) (pgs_cons (pg_name (i := 7) sc_fl.nd rfl (Or.inl rfl)) pgs_nil))))
      (pss_cons (ps_if (PW.pt (pw_or (pt_not (pt_val (pe_call GR hr2 rfl FR.m FR.F.kp FR.b .nil pass0 (pa_cons (pv 0) (pa_cons (pv 6) (pa_cons (pv 7) pa_nil)))))) (pw_or1 (pt_not (pt_val (pe_call GI hr2 rfl FI.m FI.F.kp FI.b .nil pass0 (pa_cons (pv 6) (pa_cons (pe_op op_add pe_int (pe_callB (call_maxL rfl) rfl T_max boot_max (pa_cons (pv 7) pa_nil))) pa_nil)))))))) (pss_one (ps_ret pe_non)) pss_nil)
      (pss_cons (ps_set (i := 8) sc_fl.nd rfl (Or.inl rfl) (pe_call GB hr1 rfl FB.m FB.F.kp FB.b .nil pass0 (pa_cons (pv 7) (pa_cons (pv 2) pa_nil))))
      (pss_cons (ps_if (PW.pt (pw_or (pt_cmpR op_isN (pv 8) pe_non (nomark _)) (pw_or1 (pt_not (pt_val (pe_call GR hr2 rfl FR.m FR.F.kp FR.b .nil pass0 (pa_cons (pv 6) (pa_cons (pv 1) (pa_cons (pv 8) pa_nil))))))))) (pss_one (ps_ret pe_non)) pss_nil)
      (pss_cons (ps_if (PW.pt (pw_or (pt_cmpR op_notB (pe_call GM hr3 rfl FM.m FM.F.kp FM.b .nil pass0 (pa_cons (pv 6) (pa_cons (pv 1) (pa_cons (pe_callTy call_list_of rfl T.list boot_list (pa_cons (pv 8) pa_nil)) pa_nil)))) pe_bl (nomark _)) (pw_or1 (pt_cmpR op_isN (pe_call GL hr rfl FL.m FL.F.kp FL.b .nil pass0 (pa_cons (pv 6) (pa_cons (pv 1) pa_nil))) pe_non (nomark _))))) (pss_one (ps_ret pe_non)) pss_nil)
      (pss_one (ps_ret (pe_tup (pa_cons (pv 6) (pa_cons (pv 8) pa_nil)))))))))))), ?_⟩
    obtain ⟨p, q, h1, h2, h3⟩ := id hsh
    have hn1 := hSh.pos
    have hn36 := hSh.most
    have hUl := M.len
    have two : 2 ≤ sizeLine := by decide
    obtain ⟨x, hx⟩ : ∃ x : Nat, z % (n : Int) = (x : Int) := ⟨(z % (n : Int)).toNat, (Int.toNat_of_nonneg (Int.emod_nonneg _ (by omega))).symm⟩
    have hxn : x < n := by have := Int.emod_lt_of_pos z (show (0 : Int) < n by omega); omega
    refine ⟨_, rfl, _, rfl, pu, _, rfl, .inl (SqL.of hpu), ?_⟩
    rw [nv_len, hUl]
    refine ⟨_, _, rfl, rfl, (by show (0 : Int) < n; omega), ?_⟩
    try dsimp only [gName]
    rw [hx]
    try dsimp only [tSeq, tAsg, gName]
    have gU : ∀ {i}, i < n → (nv U)[i]? = some (.int (nx U i : Int)) := fun {i} hi => nv_get (by show U[i]? = some (U.getD i 0); rw [List.getD_eq_getElem?_getD, List.getElem?_eq_getElem (by omega)]; rfl)
    refine compFil (m := n) (rest := [some (.ref pu), some (.int (x : Int))]) (fun i => decide (nx U i = nx U x)) (fun R hR => ⟨_, rfl, pu, _, rfl, .inl (SqL.of hpu), by rw [nv_len, hUl]; exact hR⟩) rfl (fun i H4 R hi s4 hR => ?_) (by omega) fun H4 d s4 hd0 hd => ?_
    · refine ⟨_, rfl, _, rfl, pu, _, i, _, rfl, rfl, SqL.of (s4 _ _ hpu), atI_nat (gU hi), _, rfl, _, rfl, pu, _, x, _, rfl, rfl, SqL.of (s4 _ _ hpu), atI_nat (gU hxn), rfl, _, rfl, ?_⟩
      rw [dec_nn]; exact hR
    generalize hal : (List.range n).filter (fun i => decide (nx U i = nx U x)) = al at hd
    have hxa : x ∈ al := by rw [← hal]; exact List.mem_filter.mpr ⟨List.mem_range.mpr hxn, by simp⟩
    have hla : 0 < al.length := List.length_pos_of_mem hxa
    obtain ⟨j, hj⟩ : ∃ j : Nat, z / 36 % (al.length : Int) = (j : Int) := ⟨(z / 36 % (al.length : Int)).toNat, (Int.toNat_of_nonneg (Int.emod_nonneg _ (by omega))).symm⟩
    have hjl : j < al.length := by have := Int.emod_lt_of_pos (z / 36) (show (0 : Int) < al.length by omega); omega
    have hsub : ∀ v ∈ al, v < n ∧ nx U v = nx U x := fun v hv => by rw [← hal] at hv; obtain ⟨v1, v2⟩ := List.mem_filter.mp hv; exact ⟨List.mem_range.mp v1, of_decide_eq_true v2⟩
    obtain ⟨hyn, hyU⟩ := hsub _ (List.getElem_mem hjl)
    have gal : (nv al)[j]? = some (.int (al[j] : Int)) := nv_get (List.getElem?_eq_getElem hjl)
    revert gal hyn hyU
    generalize al[j] = y
    intro hyn hyU gal
    have hsh4 := hsh.same s4
    refine ⟨_, rfl, _, rfl, _, rfl, _, rfl, _, _, rfl, rfl, ⟨by decide, by decide⟩, _, rfl, d, _, rfl, .inl (SqL.of hd), _, _, rfl, rfl, (by show (0 : Int) < _; rw [nv_len]; omega), d, _, j, _, rfl, by rw [nv_len]; exact congrArg V.int hj, SqL.of hd, atI_nat gal, ?_⟩
    refine ⟨a, n, r, u, x, y, rfl, hsh4, hSh, fun hbad => ?_, fun x' y' e1 e2 hx' hy' H5 t bb mm f s5 ht hbb hmm hL hC => ?_⟩
    · exfalso
      rcases hbad with hb | hb
      · exact absurd hb (by unfold isSq; rw [decide_eq_true (by omega)]; decide)
      · exact absurd hb (by unfold isSq; rw [decide_eq_true (by omega)]; decide)
    obtain rfl : x' = x := by omega
    obtain rfl : y' = y := by omega
    have hF := fo_sheet hSh hL hC.kept
    have hM := fo_map hL hSh.row hSh.col hC.kept
    have hcon := map_under M hL hC hyU.symm
    have hbl := blw_map M hL hSh.row hSh.col hcon
    have fml : (fom n f).length = n := by unfold fom; rw [List.length_map, hL.len]
    have hdl : (hds n f).length ≤ 36 := hF.most
    have hsh5 := hsh4.same s5
    have hb5 := (hb.same s4).same s5
    refine ⟨t, _, rfl, SqT.of ht, rfl, _, _, rfl, _, _, rfl, rfl, ?_⟩
    try dsimp only
    refine ⟨_, rfl, _, rfl, _, rfl, a, bb, mm, n, (hds n f).length, r, u, fob n f r, fob n f u, (fom n f).map fun (x : Nat) => (x : Int), rfl, hsh5, hbb, by rw [nv_ofN]; exact hmm, hSh.row, hSh.col, hF.row, hF.col, hn36, by rw [List.length_map, fml]; omega, fun H6 s6 => ?_⟩
    rw [(mapB_iff hSh.row hSh.col).mpr hM]
    refine ⟨_, rfl, ?_⟩
    refine iteF ?_
    refine ⟨_, rfl, _, rfl, mm, (fom n f).map fun (x : Nat) => (x : Int), rfl, SqL.of (by rw [s6 _ _ hmm, nv_ofN]), ?_, fun m hm hmx => ?_⟩
    · intro z
      have := congrArg List.length z
      rw [List.length_map, fml] at this
      simp at this; omega
    obtain ⟨m0, hm0, rfl⟩ := List.mem_map.mp hm
    have em := fom_max hL hn1 hm0 fun y hy => by have := hmx _ (List.mem_map.mpr ⟨y, hy, rfl⟩); omega
    refine ⟨_, _, rfl, rfl, bb, (hds n f).length, _, _, by rw [← em]; rfl, hbb.same s6, hF, fun H7 s7 => ?_⟩
    refine ⟨_, rfl, ?_⟩
    refine iteF ?_
    have s67 := s6.trans s7
    refine ⟨_, rfl, _, rfl, mm, pu, n, f, U, rfl, s67 _ _ hmm, s67 _ _ (s5 _ _ (s4 _ _ hpu)), hL, hUl, hcon, hn1, hn36, fun H8 lb s8 hlb => ?_⟩
    have s68 := s67.trans s8
    try dsimp only
    have elb : H8 lb = some (.lst (((blw n f U).map fun (x : Nat) => (x : Int)).map V.int)) := by rw [nv_ofN]; exact hlb
    have bll : (blw n f U).length ≤ 36 := by unfold blw; rw [List.length_map]; exact hdl
    refine ⟨_, rfl, rfl, _, rfl, ?_⟩
    rw [decide_eq_false (fun z => by cases z)]
    refine iteF ?_
    refine ⟨_, rfl, _, rfl, _, rfl, bb, b, lb, (hds n f).length, nb, fob n f r, fob n f u, rb, ub, _, rfl, hbb.same s68, hb5.same s68, elb, hF.row, hF.col, rrb, rub, hdl, by rw [List.length_map]; omega, fun H9 s9 => ?_⟩
    rw [(mapB_iff hF.row hF.col).mpr hbl]
    refine ⟨_, rfl, ?_⟩
    refine iteF ?_
    have s69 := s68.trans s9
    refine ⟨_, rfl, _, rfl, _, rfl, lb, _, rfl, .inl (SqL.of (s9 _ _ hlb)), fun lc hlc => ?_⟩
    have s10 := same_upd (o := .lst (nv (blw n f U))) (Same.refl H9) hlc
    have e10 : (upd H9 lc (.lst (nv (blw n f U)))) lc = some (.lst (nv (blw n f U))) := upd_same
    revert s10 e10
    generalize (upd H9 lc (.lst (nv (blw n f U)))) = H10
    intro s10 e10
    have s610 := s69.trans s10
    refine ⟨bb, b, lc, (hds n f).length, nb, fob n f r, fob n f u, rb, ub, (blw n f U).map fun (x : Nat) => (x : Int), rfl, hbb.same s610, hb5.same s610, by rw [nv_ofN]; exact e10, hF.row, hF.col, rrb, rub, hdl, by rw [List.length_map]; omega, fun H11 s11 => ?_⟩
    rw [(mapB_iff hF.row hF.col).mpr hbl]
    refine ⟨_, _, rfl, rfl, _, rfl, ?_⟩
    refine iteF ?_
    have s611 := s610.trans s11
    refine ⟨_, rfl, _, rfl, bb, b, (hds n f).length, nb, fob n f r, fob n f u, rb, ub, rfl, hbb.same s611, hb5.same s611, hF, rrb, rub, by omega, fun H12 v s12 hv => ?_⟩
    have s612 := s611.trans s12
    rcases hv with ⟨_, hno⟩ | ⟨l, m, rfl, _, _, _, _⟩
    · exact absurd ⟨_, hbl⟩ hno
    refine ⟨rfl, _, rfl, ?_⟩
    rw [decide_eq_false (fun z => by cases z)]
    refine iteF ?_
    refine ⟨_, rfl, _, rfl, two, fun t2 ht2 => ?_⟩
    have s13 := same_upd (o := .tup [.ref bb, .ref lb]) (Same.refl H12) ht2
    exact k _ t2 bb lb (hds n f).length (fob n f r) (fob n f u) (blw n f U) (s4.trans (s5.trans (s612.trans s13))) upd_same (hbb.same (s612.trans s13)) hF (s13 _ _ (s12 _ _ (s11 _ _ (s10 _ _ (s9 _ _ hlb))))) hbl
end
end K1
namespace K1
open PySem L2 Sq
theorem dtI {K : PySem.W.Frag} {H : Hp} : ∀ xs : List Int, DtAll K H (xs.map V.int) (xs.map PyData.int)
  | [] => .nil
  | x :: xs => .cons (.int _) (dtI xs)
theorem eqvI : ∀ xs ys : List Int, PyData.eqvAll (xs.map PyData.int) (ys.map PyData.int) = decide (xs = ys)
  | [], [] => rfl
  | [], y :: ys => rfl
  | x :: xs, [] => rfl
  | x :: xs, y :: ys => by
    show ((x == y) && PyData.eqvAll (xs.map PyData.int) (ys.map PyData.int)) = _
    rw [eqvI xs ys]
    by_cases e : x = y
    · subst e
      by_cases e' : xs = ys <;> simp [e']
    · simp [e]
theorem layI : ∀ xs : List Int, PyData.canLayAll0 (xs.map PyData.int) = true
  | [] => rfl
  | x :: xs => by show (PyData.canLay0 (PyData.int _) && PyData.canLayAll0 (xs.map PyData.int)) = true; rw [layI xs]; rfl
end K1
namespace Sq
theorem shut_compl {n : Nat} {r M : List Nat} (hr : Row n r) (nd : M.Nodup) (lt : ∀ x ∈ M, x < n) (sh : ∀ x ∈ M, nx r x ∈ M) {x : Nat} (hx : x < n) (hn : x ∉ M) : nx r x ∉ M := fun z => by
  have nd' : (M.map (nx r)).Nodup := List.pairwise_map.mpr (List.Pairwise.imp_of_mem (fun {a b} ha hb hne e => hne (hr.inj (lt a ha) (lt b hb) e)) nd)
  have := full nd' (l' := M) (fun y hy => by obtain ⟨w, hw, rfl⟩ := List.mem_map.mp hy; exact sh w hw) (by simp) _ z
  obtain ⟨w, hw, e⟩ := List.mem_map.mp this
  exact hn (hr.inj (lt w hw) hx e ▸ hw)
end Sq
namespace Sq
theorem among_sheetP {n : Nat} {r u S : List Nat} (hn : n ≤ 36) (hr : Row n r) (hu : Row n u) (h : MetAll n r u 0 S) : Sheet S.length (among r S) (among u S) where
  pos := List.length_pos_of_mem h.hd
  most := by
    have := sub_len S (List.range n) h.nd fun x hx => List.mem_range.mpr (h.lt x hx)
    simp only [List.length_range] at this
    omega
  row := among_row hr h.nd h.lt fun x hx => (h.shut x hx).1
  col := among_row hu h.nd h.lt fun x hx => (h.shut x hx).2
  conn := by
    classical
    intro T h0 hT
    have gi : ∀ {y}, y ∈ S → S[S.idxOf y]? = some y := fun {y} hy => by
      have hl := List.idxOf_lt_length_of_mem hy
      rw [List.getElem?_eq_getElem hl, List.getElem_idxOf hl]
    have mem : ∀ y, y ∈ S.filter (fun y => decide (T (S.idxOf y))) ↔ y ∈ S ∧ T (S.idxOf y) := fun y => by rw [List.mem_filter, decide_eq_true_iff]
    have nd : (S.filter fun y => decide (T (S.idxOf y))).Nodup := h.nd.sublist List.filter_sublist
    have lt : ∀ x ∈ S.filter (fun y => decide (T (S.idxOf y))), x < n := fun x hx => h.lt x ((mem x).mp hx).1
    have cl : ∀ x ∈ S.filter (fun y => decide (T (S.idxOf y))), nx r x ∈ S.filter (fun y => decide (T (S.idxOf y))) ∧ nx u x ∈ S.filter (fun y => decide (T (S.idxOf y))) := fun x hx => by
      obtain ⟨h1, h2⟩ := (mem x).mp hx
      have hs := hT _ (List.idxOf_lt_length_of_mem h1) h2
      rw [among_nx (gi h1), among_nx (gi h1)] at hs
      exact ⟨(mem _).mpr ⟨(h.shut x h1).1, hs.1⟩, (mem _).mpr ⟨(h.shut x h1).2, hs.2⟩⟩
    have hpos : 0 < S.length := List.length_pos_of_mem h.hd
    have s0 : S[0] ∈ S.filter (fun y => decide (T (S.idxOf y))) := (mem _).mpr ⟨List.getElem_mem hpos, by rw [idx_get h.nd (List.getElem?_eq_getElem hpos)]; exact h0⟩
    have z0 : 0 ∈ S.filter (fun y => decide (T (S.idxOf y))) := Classical.byContradiction fun hz => by
      have := h.least (fun x => x ∉ S.filter (fun y => decide (T (S.idxOf y)))) hz (fun x hx hn' => ⟨shut_compl hr nd lt (fun y hy => (cl y hy).1) hx hn', shut_compl hu nd lt (fun y hy => (cl y hy).2) hx hn'⟩) _ (List.getElem_mem hpos)
      exact this s0
    have all := h.least (fun x => x ∈ S.filter (fun y => decide (T (S.idxOf y)))) z0 fun x _ hx => cl x hx
    intro i hi
    have := (mem _).mp (all S[i] (List.getElem_mem hi))
    rw [idx_get h.nd (List.getElem?_eq_getElem hi)] at this
    exact this.2
/-- the squares under the drawn ones are a map -/
theorem cov_map {nb m : Nat} {rb ub R U S : List Nat} (hm : 1 ≤ m) (cR : Cov nb m rb R) (cU : Cov nb m ub U) (h : MetAll (nb * m) R U 0 S) : MapN S.length nb (among R S) (among U S) rb ub (S.map fun y => y / m) := by
  have gi : ∀ {y}, y ∈ S → S[S.idxOf y]? = some y := fun {y} hy => by
    have hl := List.idxOf_lt_length_of_mem hy
    rw [List.getElem?_eq_getElem hl, List.getElem_idxOf hl]
  have at' : ∀ {k y}, S[k]? = some y → nx (S.map fun y => y / m) k = y / m := fun {k y} e => by
    show (S.map _).getD k 0 = _
    rw [List.getD_eq_getElem?_getD, List.getElem?_map, e]; rfl
  refine ⟨by simp, fun x hx => ?_, fun k hk => ?_, fun k hk => ?_⟩
  · obtain ⟨y, hy, rfl⟩ := List.mem_map.mp hx
    exact Nat.div_lt_of_lt_mul (by rw [Nat.mul_comm]; exact h.lt y hy)
  · have hy : S[k]? = some S[k] := List.getElem?_eq_getElem hk
    have hyS : S[k] ∈ S := List.getElem_mem hk
    rw [among_nx hy, at' (gi (h.shut _ hyS).1), at' hy, cR.over _ (h.lt _ hyS)]
  · have hy : S[k]? = some S[k] := List.getElem?_eq_getElem hk
    have hyS : S[k] ∈ S := List.getElem_mem hk
    rw [among_nx hy, at' (gi (h.shut _ hyS).2), at' hy, cU.over _ (h.lt _ hyS)]
end Sq
namespace K1
open PySem L2 Sq
def ldI8 (r : List Int) : PyData := .list (r.map PyData.int)
theorem ldI8_dt {K : PySem.W.Frag} {H : Hp} {p : Addr} {r : List Int} (h : SqL K H p (r.map V.int)) : Dt K H (.ref p) (ldI8 r) := .lst h (dtI r)
theorem ldI8_eqv (r r' : List Int) : PyData.eqv (ldI8 r) (ldI8 r') = decide (r = r') := eqvI r r'
theorem ldI8_lay (r : List Int) : (ldI8 r).canLay0 = true := layI r
theorem ldI8_dep (r : List Int) : (ldI8 r).depth ≤ 10 := by
  have : ∀ xs : List Int, PyData.depthAll (xs.map PyData.int) ≤ 1 := fun xs => by
    induction xs with
    | nil => decide
    | cons x xs ih => exact Nat.max_le.mpr ⟨by show 0 ≤ 1; decide, ih⟩
  exact Nat.le_trans (Nat.succ_le_succ (this r)) (by decide)
theorem sd_dep8 (r u : List Nat) : (sd r u).depth ≤ 10 := by
  show max (PyData.depthAll (nd r) + 1) (max (PyData.depthAll (nd u) + 1) 0) + 1 ≤ 10
  rw [nd_depth, nd_depth]; decide
theorem tw_lay (r u : List Nat) (xs : List Int) : (PyData.tuple [sd r u, ldI8 xs]).canLay0 = true := by
  show ((sd r u).canLay0 && ((ldI8 xs).canLay0 && true)) = true
  rw [sd_lay, ldI8_lay]; rfl
theorem tw_dep (r u : List Nat) (xs : List Int) : (PyData.tuple [sd r u, ldI8 xs]).depth ≤ 64 := by
  show max (sd r u).depth (max (ldI8 xs).depth 0) + 1 ≤ 64
  have := sd_dep8 r u
  have := ldI8_dep xs
  omega
theorem tw_eqv (r u : List Nat) (xs : List Int) : PyData.eqv (PyData.tuple [sd r u, ldI8 xs]) (PyData.tuple [sd r u, ldI8 xs]) = true := by
  show (PyData.eqv (sd r u) (sd r u) && (PyData.eqv (ldI8 xs) (ldI8 xs) && true)) = true
  rw [sd_eqv, ldI8_eqv]; simp
theorem cut_ints8 (fs : List Int) (lo hi : Option Int) : ∃ gs : List Int, cutV (fs.map V.int) lo hi = gs.map V.int := by
  unfold cutV
  exact ⟨(fs.drop (HT.sIx (fs.map V.int).length 0 lo)).take (HT.sIx (fs.map V.int).length (fs.map V.int).length hi - HT.sIx (fs.map V.int).length 0 lo), by rw [List.map_take, List.map_drop]⟩
def spLaw (K : PySem.W.Frag) : Sp := fun vs H Q _ => ∃ (a : Addr) (ns : List Int), vs = [.ref a] ∧ SqL K H a (ns.map V.int) ∧ ∀ H' : Hp, Q (.bl true) H'
section
variable {P : Program} {w : World} {K : PySem.W.Frag} {mg : Str → Option Value} {base : Heap}
abbrev n_law : List Str := ["_law_script", "_law_first", "_law_base", "_law_sheet_here", "_law_under", "_law_many", "_law_square", "_law_cell_here", "_law_made"]
theorem sc_law : FnScope n_law ["_law_script"] (defScope sLaw) := ⟨rfl, rfl, rfl, by decide +kernel, rfl, by decide +kernel, by decide +kernel⟩
set_option maxHeartbeats 8000000 in
theorem ok_law {f fc fs fv fl : Addr} {fd dc ds dv dl : FuncData} {fo CN : Addr} {dfo : FuncData} (T : Bi mg) (FO : Fn K mg "folded" sFolded ["sheet", "one", "other"] fo dfo) (GO : FnOk P w K mg base (CX1 P w) 4 fo dfo ["sheet", "one", "other"] (spFd CN)) (F : Fn K mg "law" sLaw ["_law_script"] f fd) (FC : Fn K mg "_law_cell" sCell ["_law_script", "_law_k"] fc dc) (GC : FnOk P w K mg base CX0 1 fc dc ["_law_script", "_law_k"] (spCell K))
    (FS : Fn K mg "_law_sheet" sSheet ["_law_script", "_law_at", "_law_many"] fs ds) (GS : FnOk P w K mg base CX0 3 fs ds ["_law_script", "_law_at", "_law_many"] (spSheet2 K))
    (FV : Fn K mg "_law_cover" sLCover ["_law_base", "_law_many", "_law_number", "_law_deal"] fv dv) (GV : FnOk P w K mg base CX0 2 fv dv ["_law_base", "_law_many", "_law_number", "_law_deal"] (spCv K))
    (FL : Fn K mg "_law_folded" sLFolded ["_law_sheet_here", "_law_base", "_law_under", "_law_cell_here"] fl dl) (GL : FnOk P w K mg base CX0 7 fl dl ["_law_sheet_here", "_law_base", "_law_under", "_law_cell_here"] (spFl K)) : FnOk P w K mg base CX0 8 f fd ["_law_script"] (spLaw K) := by
  refine F.F.ok sc_law (fun vs H Q E h => ?_) (fun cdv A outer s H vs Q E hr h => ?_)
  · obtain ⟨a, ns, rfl, _⟩ := h; rfl
  · obtain ⟨sc, ns, rfl, hS, k⟩ := h
    have hr4 : Room 4 _ := hr.mono (by decide)
    have hr1 : Room 1 _ := hr.mono (by decide)
    have hr2 : Room 2 _ := hr.mono (by decide)
    have hr3 : Room 3 _ := hr.mono (by decide)
    have hr7 : Room 7 _ := hr.mono (by decide)
    refine ⟨_, (pss_cons (ps_set (i := 1) sc_law.nd rfl (Or.inl rfl) (pe_call GC hr1 rfl FC.m FC.F.kp FC.b .nil pass0 (pa_cons (pv 0) (pa_cons pe_int pa_nil))))
      (pss_cons (ps_set (i := 2) sc_law.nd rfl (Or.inl rfl) (pe_call GS hr3 rfl FS.m FS.F.kp FS.b .nil pass0 (pa_cons (pv 0) (pa_cons pe_int (pa_cons (pe_op op_add pe_int (pe_op op_mod (pv 1) pe_int)) pa_nil)))))
      (pss_cons (ps_asg (pe_call GV hr2 rfl FV.m FV.F.kp FV.b .nil pass0 (pa_cons (pv 2) (pa_cons (pe_op op_add pe_int (pe_op op_mod (pe_op op_fdiv (pv 1) pe_int) pe_int)) (pa_cons (pe_call GC hr1 rfl FC.m FC.F.kp FC.b .nil pass0 (pa_cons (pv 0) (pa_cons pe_int pa_nil))) (pa_cons (pe_call GC hr1 rfl FC.m FC.F.kp FC.b .nil pass0 (pa_cons (pv 0) (pa_cons pe_int pa_nil))) pa_nil))))) (pg_tup rfl (pgs_cons (pg_name (i := 3) sc_law.nd rfl (Or.inl rfl)) (pgs_cons (pg_name (i := 4) sc_law.nd rfl (Or.inl rfl)) pgs_nil))))
      (pss_cons (ps_set (i := 5) sc_law.nd rfl (Or.inl rfl) (pe_callB call_len_seq rfl T.len PySem.boot_len (pa_cons (pv 4) pa_nil)))
      (pss_cons (ps_set (i := 6) sc_law.nd rfl (Or.inl rfl) (pe_op op_mod (pe_op op_fdiv (pv 1) pe_int) (pv 5)))
      (pss_cons (ps_if (pt_cmpR op_neD (pe_call GO hr4 rfl FO.m FO.F.kp FO.b .nil (E := E0) passE0 (pa_cons (pv 3) (pa_cons (pv 6) (pa_cons (pv 6) pa_nil)))) (pe_tup (pa_cons (pv 3) (pa_cons (pe_callTy (call_list_rng rfl) rfl T.list boot_list (pa_cons (pe_callTy call_range1 rfl T.range PyProof.Rows.boot_range (pa_cons (pv 5) pa_nil)) pa_nil)) pa_nil))) (nomark _)) (pss_one (ps_ret pe_bl)) pss_nil)
      (pss_cons (ps_for PassesOwn.never rfl (pi_list (pe_slice sl_list (pv 0) (po_some pe_int) (po_some pe_int))) (pg_name (i := 7) sc_law.nd rfl (Or.inl rfl)) (pss_cons (ps_set (i := 8) sc_law.nd rfl (Or.inl rfl) (pe_call GL hr7 rfl FL.m FL.F.kp FL.b .nil pass0 (pa_cons (pv 3) (pa_cons (pv 2) (pa_cons (pv 4) (pa_cons (pv 7) pa_nil))))))
      (pss_cons (ps_if (pt_cmpR op_isN (pv 8) pe_non (nomark _)) (pss_one (ps_ret pe_bl)) pss_nil)
      (pss_one (ps_asg (pv 8) (pg_tup rfl (pgs_cons (pg_name (i := 3) sc_law.nd rfl (Or.inl rfl)) (pgs_cons (pg_name (i := 4) sc_law.nd rfl (Or.inl rfl)) pgs_nil))))))))
      (pss_one (ps_ret pe_bl))))))))), ?_⟩
    refine ⟨_, rfl, sc, ns, 0, rfl, hS, by decide, ?_⟩
    generalize ns.getD (0 : Int).toNat 0 = z0
    obtain ⟨n0, hn0⟩ : ∃ n : Nat, 1 + z0 % 6 = (n : Int) := ⟨(1 + z0 % 6).toNat, by omega⟩
    refine ⟨_, rfl, _, rfl, _, _, rfl, rfl, (by show (0 : Int) < 6; decide), _, _, rfl, rfl, sc, ns, 2, n0, by rw [← hn0]; rfl, hS, by decide, by omega, by omega, fun H1 b nb rb ub s1 hb hSb hnb => ?_⟩
    obtain ⟨m0, hm0⟩ : ∃ m : Nat, 1 + z0 / 6 % 6 = (m : Int) := ⟨(1 + z0 / 6 % 6).toNat, by omega⟩
    refine ⟨_, rfl, _, rfl, _, _, rfl, rfl, ⟨by decide, by decide⟩, _, _, rfl, rfl, (by show (0 : Int) < 6; decide), _, _, rfl, rfl, _, rfl, sc, ns, 1, rfl, s1.seq hS, by decide, ?_⟩
    generalize ns.getD (1 : Int).toNat 0 = z1
    refine ⟨_, rfl, sc, ns, 16, rfl, s1.seq hS, by decide, ?_⟩
    generalize ns.getD (16 : Int).toNat 0 = z16
    refine ⟨b, m0, z1, z16, nb, rb, ub, by rw [← hm0]; rfl, hb, hSb.row, hSb.col, hSb.pos, by omega, by omega, by omega, fun H2 x sh l R U S s2 hx hsh hl cR cU hM => ?_⟩
    have hb2 := hb.same s2
    have hN : nb * m0 ≤ 36 := Nat.le_trans (Nat.mul_le_mul (show nb ≤ 6 by omega) (show m0 ≤ 6 by omega)) (by decide)
    have hSa := among_sheetP hN cR.row cU.row hM
    have hmp := cov_map (by omega) cR cU hM
    refine ⟨x, _, rfl, SqT.of hx, rfl, _, _, rfl, _, _, rfl, rfl, ?_⟩
    revert hsh hSa hmp
    generalize among R S = r
    generalize among U S = u
    generalize S.length = n
    intro hsh hSa hmp
    revert hl hmp
    generalize (S.map fun y => y / m0) = mb
    intro hl hmp
    have hS2 := (s1.trans s2).seq hS
    have hn1 := hSa.pos
    have hn36 := hSa.most
    have two : 2 ≤ sizeLine := by decide
    try dsimp only
    refine ⟨_, rfl, l, _, rfl, .inl (SqL.of hl), ?_⟩
    rw [nv_len, hmp.len]
    try dsimp only
    obtain ⟨q, hq⟩ : ∃ x : Nat, z0 / 36 % (n : Int) = (x : Int) := ⟨(z0 / 36 % (n : Int)).toNat, (Int.toNat_of_nonneg (Int.emod_nonneg _ (by omega))).symm⟩
    have hqn : q < n := by have := Int.emod_lt_of_pos (z0 / 36) (show (0 : Int) < n by omega); omega
    refine ⟨_, rfl, _, _, rfl, rfl, ⟨by decide, by decide⟩, _, rfl, _, _, rfl, rfl, (by show (0 : Int) < n; omega), ?_⟩
    try dsimp only [gName]
    rw [hq]
    try dsimp only
    refine ⟨_, rfl, _, rfl, _, rfl, sh, n, r, u, q, q, rfl, hsh, hSa, fun hbad => ?_, fun x' y' e1 e2 hx' hy' H3 t bb mm f s3 ht hbb hmm hL hC => ?_⟩
    · exfalso
      rcases hbad with hb | hb
      · exact absurd hb (by unfold isSq; rw [decide_eq_true (by omega)]; decide)
      · exact absurd hb (by unfold isSq; rw [decide_eq_true (by omega)]; decide)
    obtain rfl : x' = q := by omega
    obtain rfl : y' = x' := by omega
    have ef := fold_self hL hC
    rw [ef, fob_self hSa.row, fob_self hSa.col] at hbb
    rw [ef, fom_self] at hmm
    refine ⟨_, rfl, _, rfl, _, rfl, fun rg hrg => ⟨rg, n, rfl, upd_same, by omega, fun lr hlr => ?_⟩⟩
    have s4 : Same H3 (upd (upd H3 rg (.rng 0 (n : Int))) lr (.lst (nv (List.range n)))) := (same_upd (Same.refl H3) hrg).trans (same_upd (Same.refl _) hlr)
    have e4 : (upd (upd H3 rg (.rng 0 (n : Int))) lr (.lst (nv (List.range n)))) lr = some (.lst (nv (List.range n))) := upd_same
    revert s4 e4
    generalize (upd (upd H3 rg (.rng 0 (n : Int))) lr (.lst (nv (List.range n)))) = H4
    intro s4 e4
    refine ⟨two, fun t5 ht5 => ?_⟩
    have s5 : Same H4 (upd H4 t5 (.tup [.ref sh, .ref lr])) := same_upd (Same.refl _) ht5
    have e5 : (upd H4 t5 (.tup [.ref sh, .ref lr])) t5 = some (.tup [.ref sh, .ref lr]) := upd_same
    revert s5 e5
    generalize (upd H4 t5 (.tup [.ref sh, .ref lr])) = H5
    intro s5 e5
    have s35 := s4.trans s5
    have s25 := s3.trans s35
    have eD : ∀ {p : Addr} {Hq : Hp}, Hq p = some (.lst (nv (List.range n))) → Dt K Hq (.ref p) (ldI8 ((List.range n).map fun (x : Nat) => (x : Int))) := fun {p Hq} h => ldI8_dt (SqL.of (by rw [h, nv_ofN]))
    have d1 : Dt K H5 (.ref t) (.tuple [sd r u, ldI8 ((List.range n).map fun (x : Nat) => (x : Int))]) := .tup (SqT.of (s35 _ _ ht)) (.cons (hbb.same s35).dt (.cons (eD (s35 _ _ hmm)) .nil))
    have d2 : Dt K H5 (.ref t5) (.tuple [sd r u, ldI8 ((List.range n).map fun (x : Nat) => (x : Int))]) := .tup (SqT.of e5) (.cons ((hsh.same s3).same s35).dt (.cons (eD (s5 _ _ e4)) .nil))
    refine ⟨_, _, d1, d2, tw_lay _ _ _, tw_lay _ _ _, unitsD hr (tw_dep _ _ _), _, rfl, ?_⟩
    show if (!PyData.eqv _ _) = true then _ else _
    rw [tw_eqv]
    refine iteF ?_
    obtain ⟨gs, eg⟩ := cut_ints8 ns (some 50) (some 54)
    have sA := (s1.trans s2).trans s25
    refine ⟨_, rfl, _, rfl, _, rfl, sc, _, rfl, sA.seq hS, fun lc hlc => ?_⟩
    rw [eg]
    have s6 : Same H5 (upd H5 lc (.lst (gs.map V.int))) := same_upd (Same.refl _) hlc
    have e6 : (upd H5 lc (.lst (gs.map V.int))) lc = some (.lst (gs.map V.int)) := upd_same
    revert s6 e6
    generalize (upd H5 lc (.lst (gs.map V.int))) = H6
    intro s6 e6
    have hb6 := (hb2.same s25).same s6
    refine ⟨lc, rfl, ⟨_, SqL.of e6⟩, ?_⟩
    refine for_list (K := K) (a := lc) (D := { nx := tRet (tC (.bl true)) { nx := fun _ H' => Q .non H', rt := Q }, rt := Q }) (xs := gs.map V.int) (fun i σ H7 => ∃ (a' l' : Addr) (o7 o8 : Option V) (n' : Nat) (r' u' U' : List Nat), σ = [some (.ref sc), some (.int z0), some (.ref b), some (.ref a'), some (.ref l'), some (.int (n : Int)), some (.int (y' : Int)), o7, o8] ∧ Same H6 H7 ∧ ShAt H7 a' r' u' ∧ Sheet n' r' u' ∧ H7 l' = some (.lst (nv U')) ∧ MapN n' nb r' u' rb ub U')
      ⟨sh, l, _, _, n, r, u, mb, rfl, Same.refl _, (hsh.same s25).same s6, hSa, s6 _ _ (s25 _ _ hl), hmp⟩ (fun i σ H7 _ ⟨_, _, _, _, _, _, _, _, _, s7, _⟩ => SqL.of (s7 _ _ e6)) ?_ ?_
    · rintro i v σ H7 hv ⟨a', l', o7, o8, n', r', u', U', rfl, s7, ha', hS', hl', hM'⟩
      rw [List.getElem?_map] at hv
      obtain ⟨c, hc, rfl⟩ := Option.map_eq_some_iff.mp hv
      refine ⟨_, rfl, _, rfl, _, rfl, _, rfl, a', b, l', c, n', nb, r', u', rb, ub, U', rfl, ha', hb6.same s7, hl', hS', hSb.row, hSb.col, hSb.most, hM', fun H8 t8 a8 l8 n8 r8 u8 U8 s8 ht8 ha8 hS8 hl8 hM8 => ?_⟩
      refine ⟨_, rfl, rfl, _, rfl, ?_⟩
      rw [decide_eq_false (fun z => by cases z)]
      refine iteF ?_
      refine ⟨_, rfl, t8, _, rfl, SqT.of ht8, rfl, _, _, rfl, _, _, rfl, rfl, ?_⟩
      exact ⟨a8, l8, _, _, n8, r8, u8, U8, rfl, s7.trans s8, ha8, hS8, hl8, hM8⟩
    · rintro σ H7 ⟨a', l', o7, o8, n', r', u', U', rfl, _⟩
      exact k _
end
end K1
namespace K1
open PySem L2 Sq
/-- a def as the top has left it -/
def Raw (K : PySem.W.Frag) (x : Str) (st : Stmt) : Prop := ∃ f fd, Fun K x x st f fd ∧ PySem.W.nsIn K mainGlobals x = some (some (.ref f)) ∧ ∃ kV doc pm an cdv ct, fd = PySem.W.fnOf x x (defArgs st) (defBody st) (defScope st) .none kV doc pm an cdv ct
theorem raw_mk {K : PySem.W.Frag} {x : Str} {st : Stmt} {f : Addr} {oc : Value} {od an : Option Addr} {osl : Array (Option Value)} {kV doc pm cdv ct : Value} (a : PySem.W.nsIn K mainGlobals x = some (some (.ref f)))
    (l : K.lookup f = some ⟨oc, od, .func (PySem.W.fnOf x x (defArgs st) (defBody st) (defScope st) .none kV doc pm an cdv ct), osl⟩) (c : PySem.W.codeIn K cdv x = true) (k : PySem.W.keepIn K (.ref f) = true) : Raw K x st :=
  ⟨f, _, fun_mk l c k, a, kV, doc, pm, an, cdv, ct, rfl⟩
theorem Raw.fn {K : PySem.W.Frag} {h : Heap} {mg : Str → Option Value} {x : Str} {st : Stmt} {ps : List Str} (X : K.In h) (G : h.Ns mainGlobals mg) (R : Raw K x st)
    (b : ∀ (kV doc pm : Value) (an : Option Addr) (cdv ct : Value) (us : List Value), us.length = ps.length → bindArgs (PySem.W.fnOf x x (defArgs st) (defBody st) (defScope st) .none kV doc pm an cdv ct) ⟨us, []⟩ = pure (ps.zip us)) : ∃ f fd, Fn K mg x st ps f fd := by
  obtain ⟨f, fd, F, a, _⟩ := R
  exact ⟨f, fd, F, F.binds b, PySem.W.mg_of X G a⟩
set_option maxHeartbeats 0 in
theorem all_mk {l : PySem.W.OpenLaw} {w : World} {K : PySem.W.Frag} {h : Heap} {mg : Str → Option Value} {fa : Addr} {CN : Addr} {CW : Addr} (X : K.In h) (G : h.Ns mainGlobals mg) (hfa : mg "law" = some (.ref fa))
    (R_size : Raw K "size" sSize)
    (R_back_row : Raw K "back_row" sBackRow)
    (R_gone : Raw K "gone" sGone)
    (R_is_whole : Raw K "is_whole" sIsWhole)
    (R_is_square : Raw K "is_square" sIsSq)
    (R_need_square : Raw K "need_square" sNeed)
    (R_step_rows : Raw K "step_rows" sSteps)
    (R_paths_from : Raw K "paths_from" sPaths)
    (R_is_map : Raw K "is_map" sIsMap)
    (R_laid : Raw K "laid" sLaid)
    (R_folded : Raw K "folded" sFolded)
    (R_keeps_row : Raw K "keeps_row" sKeepsRow)
    (R_least_folded : Raw K "least_folded" sLeastFolded)
    (R_folded_row : Raw K "folded_row" sFoldedRow)
    (R__law_cell : Raw K "_law_cell" sCell)
    (R__law_whole : Raw K "_law_whole" sWhole)
    (R__law_lines : Raw K "_law_lines" sLines)
    (R__law_met : Raw K "_law_met" sMet)
    (R__law_among : Raw K "_law_among" sAmong)
    (R__law_sheet : Raw K "_law_sheet" sSheet)
    (R__law_picked : Raw K "_law_picked" sPicked)
    (R__law_cover : Raw K "_law_cover" sLCover)
    (R__law_is_sheet : Raw K "_law_is_sheet" sIsSheet)
    (R__law_map_right : Raw K "_law_map_right" sLMapRight)
    (R__law_below : Raw K "_law_below" sLBelow)
    (R__law_folded : Raw K "_law_folded" sLFolded)
    (R_law : Raw K "law" sLaw)
    (m_CN : PySem.W.nsIn K mainGlobals "NoSquare" = some (some (.ref CN))) (f_CN : ClsF K CN)
    (m_CW : PySem.W.nsIn K mainGlobals "NoWord" = some (some (.ref CW))) (f_CW : ClsF K CW)
    (e_CN : ExCls K CN)
    (e_CW : ExCls K CW)
    (z_len : PySem.W.nsIn K mainGlobals "len" = some none)
    (z_range : PySem.W.nsIn K mainGlobals "range" = some none)
    (z_list : PySem.W.nsIn K mainGlobals "list" = some none)
    (z_tuple : PySem.W.nsIn K mainGlobals "tuple" = some none)
    (z_isinstance : PySem.W.nsIn K mainGlobals "isinstance" = some none)
    (z_int : PySem.W.nsIn K mainGlobals "int" = some none)
    (z_bool : PySem.W.nsIn K mainGlobals "bool" = some none)
    (z_all : PySem.W.nsIn K mainGlobals "all" = some none)
    (z_set : PySem.W.nsIn K mainGlobals "set" = some none)
    (z_sorted : PySem.W.nsIn K mainGlobals "sorted" = some none)
    (z_enumerate : PySem.W.nsIn K mainGlobals "enumerate" = some none)
    (z_zip : PySem.W.nsIn K mainGlobals "zip" = some none)
    (z_max : PySem.W.nsIn K mainGlobals "max" = some none)
    : ∃ fd : FuncData, (∀ (s : Shared) (v : Value), BindsTo s fd ⟨[v], []⟩ [("_law_script", v)]) ∧ ∀ base : Heap, K.In base → base.Ns mainGlobals mg → FnOk l.prog w K mg base CX0 8 fa fd ["_law_script"] (spLaw K) := by
  have T : Bi mg := ⟨PySem.W.mg_none_of X G z_len, PySem.W.mg_none_of X G z_range, PySem.W.mg_none_of X G z_list, PySem.W.mg_none_of X G z_tuple, PySem.W.mg_none_of X G z_isinstance, PySem.W.mg_none_of X G z_int, PySem.W.mg_none_of X G z_bool, PySem.W.mg_none_of X G z_all, PySem.W.mg_none_of X G z_set, PySem.W.mg_none_of X G z_sorted, PySem.W.mg_none_of X G z_enumerate⟩
  have T_zip : mg "zip" = none := PySem.W.mg_none_of X G z_zip
  have T_max : mg "max" = none := PySem.W.mg_none_of X G z_max
  have M_CN := PySem.W.mg_of X G m_CN
  have M_CW := PySem.W.mg_of X G m_CW
  obtain ⟨f_size, d_size, F_size⟩ := R_size.fn (ps := ["sheet"]) X G fun _ _ _ _ _ _ us hl => match us, hl with | [_], _ => rfl
  obtain ⟨f_back_row, d_back_row, F_back_row⟩ := R_back_row.fn (ps := ["row"]) X G fun _ _ _ _ _ _ us hl => match us, hl with | [_], _ => rfl
  obtain ⟨f_gone, d_gone, F_gone⟩ := R_gone.fn (ps := ["sheet", "square", "path"]) X G fun _ _ _ _ _ _ us hl => match us, hl with | [_, _, _], _ => rfl
  obtain ⟨f_is_whole, d_is_whole, F_is_whole⟩ := R_is_whole.fn (ps := ["thing"]) X G fun _ _ _ _ _ _ us hl => match us, hl with | [_], _ => rfl
  obtain ⟨f_is_square, d_is_square, F_is_square⟩ := R_is_square.fn (ps := ["thing", "squares"]) X G fun _ _ _ _ _ _ us hl => match us, hl with | [_, _], _ => rfl
  obtain ⟨f_need_square, d_need_square, F_need_square⟩ := R_need_square.fn (ps := ["sheet", "square"]) X G fun _ _ _ _ _ _ us hl => match us, hl with | [_, _], _ => rfl
  obtain ⟨f_step_rows, d_step_rows, F_step_rows⟩ := R_step_rows.fn (ps := ["rows"]) X G fun _ _ _ _ _ _ us hl => match us, hl with | [_], _ => rfl
  obtain ⟨f_paths_from, d_paths_from, F_paths_from⟩ := R_paths_from.fn (ps := ["rows", "first"]) X G fun _ _ _ _ _ _ us hl => match us, hl with | [_, _], _ => rfl
  obtain ⟨f_is_map, d_is_map, F_is_map⟩ := R_is_map.fn (ps := ["sheet", "base", "m"]) X G fun _ _ _ _ _ _ us hl => match us, hl with | [_, _, _], _ => rfl
  obtain ⟨f_laid, d_laid, F_laid⟩ := R_laid.fn (ps := ["sheet", "base"]) X G fun _ _ _ _ _ _ us hl => match us, hl with | [_, _], _ => rfl
  obtain ⟨f_folded, d_folded, F_folded⟩ := R_folded.fn (ps := ["sheet", "one", "other"]) X G fun _ _ _ _ _ _ us hl => match us, hl with | [_, _, _], _ => rfl
  obtain ⟨f_keeps_row, d_keeps_row, F_keeps_row⟩ := R_keeps_row.fn (ps := ["row", "base_row", "m"]) X G fun _ _ _ _ _ _ us hl => match us, hl with | [_, _, _], _ => rfl
  obtain ⟨f_least_folded, d_least_folded, F_least_folded⟩ := R_least_folded.fn (ps := ["sheet", "one", "other"]) X G fun _ _ _ _ _ _ us hl => match us, hl with | [_, _, _], _ => rfl
  obtain ⟨f_folded_row, d_folded_row, F_folded_row⟩ := R_folded_row.fn (ps := ["row", "heads", "m"]) X G fun _ _ _ _ _ _ us hl => match us, hl with | [_, _, _], _ => rfl
  obtain ⟨f__law_cell, d__law_cell, F__law_cell⟩ := R__law_cell.fn (ps := ["_law_script", "_law_k"]) X G fun _ _ _ _ _ _ us hl => match us, hl with | [_, _], _ => rfl
  obtain ⟨f__law_whole, d__law_whole, F__law_whole⟩ := R__law_whole.fn (ps := ["_law_found"]) X G fun _ _ _ _ _ _ us hl => match us, hl with | [_], _ => rfl
  obtain ⟨f__law_lines, d__law_lines, F__law_lines⟩ := R__law_lines.fn (ps := ["_law_script", "_law_at", "_law_many"]) X G fun _ _ _ _ _ _ us hl => match us, hl with | [_, _, _], _ => rfl
  obtain ⟨f__law_met, d__law_met, F__law_met⟩ := R__law_met.fn (ps := ["_law_right", "_law_up", "_law_first"]) X G fun _ _ _ _ _ _ us hl => match us, hl with | [_, _, _], _ => rfl
  obtain ⟨f__law_among, d__law_among, F__law_among⟩ := R__law_among.fn (ps := ["_law_right", "_law_up", "_law_met_here"]) X G fun _ _ _ _ _ _ us hl => match us, hl with | [_, _, _], _ => rfl
  obtain ⟨f__law_sheet, d__law_sheet, F__law_sheet⟩ := R__law_sheet.fn (ps := ["_law_script", "_law_at", "_law_many"]) X G fun _ _ _ _ _ _ us hl => match us, hl with | [_, _, _], _ => rfl
  obtain ⟨f__law_picked, d__law_picked, F__law_picked⟩ := R__law_picked.fn (ps := ["_law_things", "_law_number"]) X G fun _ _ _ _ _ _ us hl => match us, hl with | [_, _], _ => rfl
  obtain ⟨f__law_cover, d__law_cover, F__law_cover⟩ := R__law_cover.fn (ps := ["_law_base", "_law_many", "_law_number", "_law_deal"]) X G fun _ _ _ _ _ _ us hl => match us, hl with | [_, _, _, _], _ => rfl
  obtain ⟨f__law_is_sheet, d__law_is_sheet, F__law_is_sheet⟩ := R__law_is_sheet.fn (ps := ["_law_found", "_law_many"]) X G fun _ _ _ _ _ _ us hl => match us, hl with | [_, _], _ => rfl
  obtain ⟨f__law_map_right, d__law_map_right, F__law_map_right⟩ := R__law_map_right.fn (ps := ["_law_sheet_here", "_law_base", "_law_m"]) X G fun _ _ _ _ _ _ us hl => match us, hl with | [_, _, _], _ => rfl
  obtain ⟨f__law_below, d__law_below, F__law_below⟩ := R__law_below.fn (ps := ["_law_m", "_law_under"]) X G fun _ _ _ _ _ _ us hl => match us, hl with | [_, _], _ => rfl
  obtain ⟨f__law_folded, d__law_folded, F__law_folded⟩ := R__law_folded.fn (ps := ["_law_sheet_here", "_law_base", "_law_under", "_law_cell_here"]) X G fun _ _ _ _ _ _ us hl => match us, hl with | [_, _, _, _], _ => rfl
  obtain ⟨fL, dL, FL, aL, kV, doc, pm, an, cdv, ct, eL⟩ := R_law
  have bL := FL.binds (ps := ["_law_script"]) fun _ _ _ _ _ _ us hl => match us, hl with | [_], _ => rfl
  have e := hfa.symm.trans (PySem.W.mg_of X G aL)
  cases e
  refine ⟨dL, fun s v => ?_, fun base _ _ => ?_⟩
  · subst eL; exact .of_eq rfl
  · have F_law : Fn K mg "law" sLaw ["_law_script"] fa dL := ⟨FL, bL, PySem.W.mg_of X G aL⟩
    have G_cell := ok_cell (P := l.prog) (w := w) (base := base) T F__law_cell
    have G_whole := ok_whole (P := l.prog) (w := w) (base := base) T F__law_whole
    have G_size := ok_size (P := l.prog) (w := w) (base := base) T F_size
    have G_isSq := ok_isSq (P := l.prog) (w := w) (base := base) T F_is_square F_is_whole
    have G_lines := ok_lines T F__law_lines F__law_cell G_cell
    have G_met := ok_met (P := l.prog) (w := w) (base := base) T F__law_met
    have G_among := ok_among (P := l.prog) (w := w) (base := base) T F__law_among
    have G_sheet := ok_sheet2 T F__law_sheet F__law_lines G_lines F__law_met G_met F__law_among G_among
    have G_pick := ok_picked (P := l.prog) (w := w) (base := base) T F__law_picked
    have G_cv := ok_cv T F__law_cover F__law_picked G_pick F__law_met G_met F__law_among G_among
    have G_backRow := ok_backRow (P := l.prog) (w := w) (base := base) T F_back_row
    have G_steps := ok_steps F_step_rows F_back_row G_backRow
    have G_paths := ok_paths T F_paths_from F_step_rows G_steps
    have G_need := ok_need e_CN M_CN F_need_square F_size G_size F_is_square G_isSq
    have G_gone := ok_gone T e_CW M_CW F_gone F_need_square G_need F_step_rows G_steps
    have G_kr := ok_kr (P := l.prog) (w := w) (base := base) T F_keeps_row
    have G_im := ok_im T F_is_map F_size G_size F_is_square G_isSq F_keeps_row G_kr
    have G_mr := ok_mr T F__law_map_right F__law_whole G_whole
    have G_ld := ok_ld T F_laid F_paths_from G_paths F_size G_size F_gone G_gone F_is_map G_im
    have G_isSheet := ok_isSheet T F__law_is_sheet F__law_whole G_whole F__law_met G_met
    have G_lf := ok_lf T F_least_folded F_size G_size
    have G_frw := ok_frw (P := l.prog) (w := w) (base := base) T F_folded_row
    have G_fd := ok_fd T T.set F_folded F_need_square G_need F_least_folded G_lf F_folded_row G_frw
    have G_bl := ok_bl (P := l.prog) (w := w) (base := base) T T_zip F__law_below
    have G_fl := ok_fl T T_max F_folded G_fd F__law_folded F__law_map_right G_mr F__law_is_sheet G_isSheet F__law_below G_bl F_is_map G_im F_laid G_ld
    exact ok_law T F_folded G_fd F_law F__law_cell G_cell F__law_sheet G_sheet F__law_cover G_cv F__law_folded G_fl
theorem walk {l : PySem.W.OpenLaw} {q : Program} {loose : List Str} {XP : (Str → Option Value) → Heap → Prop} {YP : World → Heap → Prop} {d : DefRec} {K : Params → PySem.W.Frag} (hn : l.most = some 63) (hdf : d.params.defaults = [])
    (hY : ∀ (w : World) (h : Heap), YP w h → (K w.params).In h)
    (F : ∀ (w : World) (mg : Str → Option Value) (fa : Addr) (h : Heap), (K w.params).In h → h.Ns mainGlobals mg → mg d.name = some (.ref fa) →
      ∃ fd : FuncData, (∀ (s : Shared) (u : Value), BindsTo s fd ⟨[u], []⟩ [("_law_script", u)]) ∧ ∀ base : Heap, (K w.params).In base → base.Ns mainGlobals mg → FnOk l.prog w (K w.params) mg base CX0 8 fa fd ["_law_script"] (spLaw (K w.params))) :
    PySem.W.WalkO q loose XP YP l.row.toRowW d [] (fun f vs => PySem.call f vs) :=
  L2.walk_of (n := 63) (k := 8) (x := "_law_script") (CX := fun _ => CX0) (sp := fun w => spLaw (K w.params)) hn (by decide) hdf ⟨rfl, by decide, by decide⟩ hY F (fun _ _ a ns hl _ hS => ⟨a, ns, rfl, hS, fun _ => rfl⟩) fun _ _ _ _ _ z => z
end K1
open PySem PySem.W PyProof.Rows
set_option maxRecDepth 100000 in
set_option maxHeartbeats 0 in
theorem PySem.Challenge.cw_squaresheet_k85_whole_folded_least_holds : PySem.Challenge.rw_squaresheet_k85_whole_folded_least.Holds := by
  w_on; o_law; k_head; (case hw => w_witness2)
  k_fill
  refine K1.walk (l := PySem.Challenge.rw_squaresheet_k85_whole_folded_least) rfl rfl (fun w h Y => PySem.W.kIn_of Y) ?F
  case F =>
    intro w mg fa h KX G hmg
    have R_size : K1.Raw (L2.KOf KX) "size" K1.sSize := by
      dsimp only [L2.KOf]
      refine' K1.raw_mk ?a ?l ?c ?k
      (case a => k_is); (case l => k_is); (case c => k_is); (case k => k_is)
    have R_back_row : K1.Raw (L2.KOf KX) "back_row" K1.sBackRow := by
      dsimp only [L2.KOf]
      refine' K1.raw_mk ?a ?l ?c ?k
      (case a => k_is); (case l => k_is); (case c => k_is); (case k => k_is)
    have R_gone : K1.Raw (L2.KOf KX) "gone" K1.sGone := by
      dsimp only [L2.KOf]
      refine' K1.raw_mk ?a ?l ?c ?k
      (case a => k_is); (case l => k_is); (case c => k_is); (case k => k_is)
    have R_is_whole : K1.Raw (L2.KOf KX) "is_whole" K1.sIsWhole := by
      dsimp only [L2.KOf]
      refine' K1.raw_mk ?a ?l ?c ?k
      (case a => k_is); (case l => k_is); (case c => k_is); (case k => k_is)
    have R_is_square : K1.Raw (L2.KOf KX) "is_square" K1.sIsSq := by
      dsimp only [L2.KOf]
      refine' K1.raw_mk ?a ?l ?c ?k
      (case a => k_is); (case l => k_is); (case c => k_is); (case k => k_is)
    have R_need_square : K1.Raw (L2.KOf KX) "need_square" K1.sNeed := by
      dsimp only [L2.KOf]
      refine' K1.raw_mk ?a ?l ?c ?k
      (case a => k_is); (case l => k_is); (case c => k_is); (case k => k_is)
    have R_step_rows : K1.Raw (L2.KOf KX) "step_rows" K1.sSteps := by
      dsimp only [L2.KOf]
      refine' K1.raw_mk ?a ?l ?c ?k
      (case a => k_is); (case l => k_is); (case c => k_is); (case k => k_is)
    have R_paths_from : K1.Raw (L2.KOf KX) "paths_from" K1.sPaths := by
      dsimp only [L2.KOf]
      refine' K1.raw_mk ?a ?l ?c ?k
      (case a => k_is); (case l => k_is); (case c => k_is); (case k => k_is)
    have R_is_map : K1.Raw (L2.KOf KX) "is_map" K1.sIsMap := by
      dsimp only [L2.KOf]
      refine' K1.raw_mk ?a ?l ?c ?k
      (case a => k_is); (case l => k_is); (case c => k_is); (case k => k_is)
    have R_laid : K1.Raw (L2.KOf KX) "laid" K1.sLaid := by
      dsimp only [L2.KOf]
      refine' K1.raw_mk ?a ?l ?c ?k
      (case a => k_is); (case l => k_is); (case c => k_is); (case k => k_is)
    have R_folded : K1.Raw (L2.KOf KX) "folded" K1.sFolded := by
      dsimp only [L2.KOf]
      refine' K1.raw_mk ?a ?l ?c ?k
      (case a => k_is); (case l => k_is); (case c => k_is); (case k => k_is)
    have R_keeps_row : K1.Raw (L2.KOf KX) "keeps_row" K1.sKeepsRow := by
      dsimp only [L2.KOf]
      refine' K1.raw_mk ?a ?l ?c ?k
      (case a => k_is); (case l => k_is); (case c => k_is); (case k => k_is)
    have R_least_folded : K1.Raw (L2.KOf KX) "least_folded" K1.sLeastFolded := by
      dsimp only [L2.KOf]
      refine' K1.raw_mk ?a ?l ?c ?k
      (case a => k_is); (case l => k_is); (case c => k_is); (case k => k_is)
    have R_folded_row : K1.Raw (L2.KOf KX) "folded_row" K1.sFoldedRow := by
      dsimp only [L2.KOf]
      refine' K1.raw_mk ?a ?l ?c ?k
      (case a => k_is); (case l => k_is); (case c => k_is); (case k => k_is)
    have R__law_cell : K1.Raw (L2.KOf KX) "_law_cell" K1.sCell := by
      dsimp only [L2.KOf]
      refine' K1.raw_mk ?a ?l ?c ?k
      (case a => k_is); (case l => k_is); (case c => k_is); (case k => k_is)
    have R__law_whole : K1.Raw (L2.KOf KX) "_law_whole" K1.sWhole := by
      dsimp only [L2.KOf]
      refine' K1.raw_mk ?a ?l ?c ?k
      (case a => k_is); (case l => k_is); (case c => k_is); (case k => k_is)
    have R__law_lines : K1.Raw (L2.KOf KX) "_law_lines" K1.sLines := by
      dsimp only [L2.KOf]
      refine' K1.raw_mk ?a ?l ?c ?k
      (case a => k_is); (case l => k_is); (case c => k_is); (case k => k_is)
    have R__law_met : K1.Raw (L2.KOf KX) "_law_met" K1.sMet := by
      dsimp only [L2.KOf]
      refine' K1.raw_mk ?a ?l ?c ?k
      (case a => k_is); (case l => k_is); (case c => k_is); (case k => k_is)
    have R__law_among : K1.Raw (L2.KOf KX) "_law_among" K1.sAmong := by
      dsimp only [L2.KOf]
      refine' K1.raw_mk ?a ?l ?c ?k
      (case a => k_is); (case l => k_is); (case c => k_is); (case k => k_is)
    have R__law_sheet : K1.Raw (L2.KOf KX) "_law_sheet" K1.sSheet := by
      dsimp only [L2.KOf]
      refine' K1.raw_mk ?a ?l ?c ?k
      (case a => k_is); (case l => k_is); (case c => k_is); (case k => k_is)
    have R__law_picked : K1.Raw (L2.KOf KX) "_law_picked" K1.sPicked := by
      dsimp only [L2.KOf]
      refine' K1.raw_mk ?a ?l ?c ?k
      (case a => k_is); (case l => k_is); (case c => k_is); (case k => k_is)
    have R__law_cover : K1.Raw (L2.KOf KX) "_law_cover" K1.sLCover := by
      dsimp only [L2.KOf]
      refine' K1.raw_mk ?a ?l ?c ?k
      (case a => k_is); (case l => k_is); (case c => k_is); (case k => k_is)
    have R__law_is_sheet : K1.Raw (L2.KOf KX) "_law_is_sheet" K1.sIsSheet := by
      dsimp only [L2.KOf]
      refine' K1.raw_mk ?a ?l ?c ?k
      (case a => k_is); (case l => k_is); (case c => k_is); (case k => k_is)
    have R__law_map_right : K1.Raw (L2.KOf KX) "_law_map_right" K1.sLMapRight := by
      dsimp only [L2.KOf]
      refine' K1.raw_mk ?a ?l ?c ?k
      (case a => k_is); (case l => k_is); (case c => k_is); (case k => k_is)
    have R__law_below : K1.Raw (L2.KOf KX) "_law_below" K1.sLBelow := by
      dsimp only [L2.KOf]
      refine' K1.raw_mk ?a ?l ?c ?k
      (case a => k_is); (case l => k_is); (case c => k_is); (case k => k_is)
    have R__law_folded : K1.Raw (L2.KOf KX) "_law_folded" K1.sLFolded := by
      dsimp only [L2.KOf]
      refine' K1.raw_mk ?a ?l ?c ?k
      (case a => k_is); (case l => k_is); (case c => k_is); (case k => k_is)
    have R_law : K1.Raw (L2.KOf KX) "law" K1.sLaw := by
      dsimp only [L2.KOf]
      refine' K1.raw_mk ?a ?l ?c ?k
      (case a => k_is); (case l => k_is); (case c => k_is); (case k => k_is)
    refine' K1.all_mk KX G hmg R_size R_back_row R_gone R_is_whole R_is_square R_need_square R_step_rows R_paths_from R_is_map R_laid R_folded R_keeps_row R_least_folded R_folded_row R__law_cell R__law_whole R__law_lines R__law_met R__law_among R__law_sheet R__law_picked R__law_cover R__law_is_sheet R__law_map_right R__law_below R__law_folded R_law ?m_CN ?f_CN ?m_CW ?f_CW ?e_CN ?e_CW ?z_len ?z_range ?z_list ?z_tuple ?z_isinstance ?z_int ?z_bool ?z_all ?z_set ?z_sorted ?z_enumerate ?z_zip ?z_max
    (case m_CN => k_is); (case f_CN => (refine' ⟨?_, ?_, ?_, ?_, ?_, ?_, ?_, ?_, ?_⟩ <;> k_is)); (case m_CW => k_is); (case f_CW => (refine' ⟨?_, ?_, ?_, ?_, ?_, ?_, ?_, ?_, ?_⟩ <;> k_is)); (case e_CN => (unfold L2.ExCls; k_exc)); (case e_CW => (unfold L2.ExCls; k_exc)); (case z_len => k_is); (case z_range => k_is); (case z_list => k_is); (case z_tuple => k_is); (case z_isinstance => k_is); (case z_int => k_is); (case z_bool => k_is); (case z_all => k_is); (case z_set => k_is); (case z_sorted => k_is); (case z_enumerate => k_is); (case z_zip => k_is); (case z_max => k_is)
#print axioms PySem.Challenge.cw_squaresheet_k85_whole_folded_least_holds
