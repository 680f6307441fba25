import PyProof.Rows.All
import Wide.All
import OpenK.AllK
import Wide.FinOn
import Lean
import PyProof.EqAt
import PyProof.EqKinds
import PyProof.TupleCall
import PyProof.Draws
import PyProof.EnumMake
import PyProof.WalksEnum
import PyProof.TupleIter
import PyProof.NeData
import PyProof.WalksMore
import PyProof.Rows.StrJoin2
import PyProof.StrWalks
import PyProof.StrBlockH
import PyProof.StrLawsTight
import PyProof.Rows.StrItems
import OpenK.KOwn
import PyProof.NsDelKeeps
import PyProof.RulesAs
import PyProof.ExcAttrAll.ValueError
import PyProof.FitsBits
import PyProof.ZipIter
import PyProof.SumWalkG
import PyProof.MinMaxWalk
import PyProof.WalkInts
import PyProof.MaxThree
import PyProof.CompUse
import PyProof.StrLawsChain
import PySem.Challenge.RW_squaresheet_k36_whole_in_parts_and_back
set_option Elab.async false
set_option linter.all false
set_option maxRecDepth 100000
namespace L2
open PySem PySem.Spec PyProof.Rows

/-- a key: an int or a str -/
abbrev Key := Sum Int Str
def keyIs : Key → Value → Bool
  | .inl k, v => Value.isInt k v
  | .inr x, v => Value.isStrOf x v
def keyH (w : World) : Key → Int
  | .inl k => hashInt k
  | .inr x => hashStr w x
theorem keyIs_shape : ∀ {k : Key} {v : Value}, keyIs k v = true → (∃ i t, k = Sum.inl i ∧ v = Value.int i t) ∨ (∃ x t, k = Sum.inr x ∧ v = Value.str x t)
  | .inl i, v, h => by
    obtain ⟨t, e⟩ := Value.isInt_shape (k := i) (v := v) h
    exact .inl ⟨i, t, rfl, e⟩
  | .inr x, v, h => by
    obtain ⟨t, e⟩ := Value.isStrOf_shape (x := x) (v := v) h
    exact .inr ⟨x, t, rfl, e⟩
theorem keyIs_int (i : Int) (t : Tok) : keyIs (.inl i) (.int i t) = true := by simp [keyIs, Value.isInt]
theorem keyIs_str (x : Str) (t : Tok) : keyIs (.inr x) (.str x t) = true := by simp [keyIs, Value.isStrOf]
theorem key_ll (a b : Int) : decide ((Sum.inl a : Key) = Sum.inl b) = (a == b) := by
  by_cases e : a = b
  · subst e; simp
  · have h : ¬ (Sum.inl a : Key) = Sum.inl b := fun q => e (Sum.inl.inj q)
    rw [decide_eq_false h]
    exact (beq_eq_false_iff_ne.mpr e).symm
theorem key_rr (a b : Str) : decide ((Sum.inr a : Key) = Sum.inr b) = decide (a = b) := by
  by_cases e : a = b
  · subst e; simp
  · have h : ¬ (Sum.inr a : Key) = Sum.inr b := fun q => e (Sum.inr.inj q)
    rw [decide_eq_false h, decide_eq_false e]
theorem key_lr (a : Int) (b : Str) : decide ((Sum.inl a : Key) = Sum.inr b) = false := decide_eq_false (fun q => nomatch q)
theorem key_rl (a : Str) (b : Int) : decide ((Sum.inr a : Key) = Sum.inl b) = false := decide_eq_false (fun q => nomatch q)

def mixKind (prog : Program) (w : World) : PySem.KeyKind prog w Key where
  is := keyIs
  hash := keyH w
  inj := fun v a b ha hb => by
    rcases keyIs_shape ha with ⟨i, t, rfl, rfl⟩ | ⟨x, t, rfl, rfl⟩
    · rcases keyIs_shape hb with ⟨j, u, rfl, e⟩ | ⟨y, u, rfl, e⟩
      · injection e with e1 _; rw [e1]
      · exact nomatch e
    · rcases keyIs_shape hb with ⟨j, u, rfl, e⟩ | ⟨y, u, rfl, e⟩
      · exact nomatch e
      · injection e with e1 _; rw [e1]
  byValue := fun k v h => by
    rcases keyIs_shape h with ⟨i, t, rfl, rfl⟩ | ⟨x, t, rfl, rfl⟩ <;> rfl
  pyHash := fun hv h => by
    rcases keyIs_shape hv with ⟨i, t, rfl, rfl⟩ | ⟨x, t, rfl, rfl⟩
    · exact wpAny_pyHash_int h
    · exact wpAny_pyHash_str h
  eqBool := fun hu hv h => by
    rcases keyIs_shape hu with ⟨i, t, rfl, rfl⟩ | ⟨x, t, rfl, rfl⟩
    · rcases keyIs_shape hv with ⟨j, u, rfl, rfl⟩ | ⟨y, u, rfl, rfl⟩
      · rw [key_ll] at h; exact wpAny_eqBool_int h
      · rw [key_lr] at h; exact SeqAt.EqAt.int_str i t y u _ _ _ _ h
    · rcases keyIs_shape hv with ⟨j, u, rfl, rfl⟩ | ⟨y, u, rfl, rfl⟩
      · rw [key_rl] at h; exact SeqAt.EqAt.str_int x t j u _ _ _ _ h
      · rw [key_rr] at h; exact wpAny_eqBool_str h
  «strs» := fun k x t v h => by
    rcases keyIs_shape h with ⟨i, u, rfl, e⟩ | ⟨y, u, rfl, e⟩
    · exact nomatch e
    · injection e with e1 _
      subst e1
      cases v <;> rfl

theorem mixKind_int (prog : Program) (w : World) (i : Int) (t : Tok) : (mixKind prog w).is (.inl i) (.int i t) = true := keyIs_int i t
theorem mixKind_str (prog : Program) (w : World) (x : Str) (t : Tok) : (mixKind prog w).is (.inr x) (.str x t) = true := keyIs_str x t
end L2

namespace L2
open PySem PySem.Spec PyProof.Rows

/-- a value, without the heap -/
inductive V where
  | non | bl (b : Bool) | int (i : Int) | str (x : Str) | byt (b : Array UInt8) | flt (b : UInt64) | ref (a : Addr) | ty (n : String)
  deriving DecidableEq

def RelV : V → Value → Prop
  | .non, u => u = Value.none
  | .bl b, u => u = Value.bool b
  | .int i, u => ∃ t, u = Value.int i t
  | .str x, u => ∃ t, u = Value.str x t
  | .byt b, u => ∃ t, u = Value.bytes b t
  | .flt b, u => ∃ t, u = Value.float b t
  | .ref a, u => u = Value.ref a
  | .ty n, u => u = Value.type n

abbrev Vals : List V → List Value → Prop := Paired RelV
theorem Vals.length {xs : List V} {us : List Value} (r : Vals xs us) : xs.length = us.length := Paired.length r
theorem Vals.get : ∀ {xs : List V} {us : List Value} {i : Nat} {x : V}, Vals xs us → xs[i]? = some x → ∃ u, us[i]? = some u ∧ RelV x u
  | _, _, _, _, .nil, e => by simp at e
  | _, _, 0, _, .cons r _, e => by simp at e; subst e; exact ⟨_, rfl, r⟩
  | _, _, i + 1, x, .cons _ t, e => by
    obtain ⟨u, h1, h2⟩ := Vals.get (i := i) (x := x) t (by simpa using e)
    exact ⟨u, by simpa using h1, h2⟩
theorem Vals.set {x : V} {u : Value} (r : RelV x u) : ∀ {xs : List V} {us : List Value} (i : Nat), Vals xs us → Vals (xs.set i x) (us.set i u)
  | _, _, _, .nil => .nil
  | _, _, 0, .cons _ t => .cons r t
  | _, _, i + 1, .cons q t => .cons q (Vals.set r i t)
theorem Vals.append : ∀ {xs ys : List V} {us ws : List Value}, Vals xs us → Vals ys ws → Vals (xs ++ ys) (us ++ ws)
  | _, _, _, _, .nil, s => s
  | _, _, _, _, .cons r t, s => .cons r (Vals.append t s)
def RelO : Option V → Option Value → Prop
  | some v, some u => RelV v u
  | none, none => True
  | _, _ => False
def KV {κ : Type} : List (κ × V) → List (κ × Value) → Prop := Paired fun (p : κ × V) (q : κ × Value) => p.1 = q.1 ∧ RelV p.2 q.2

/-- a key of a dict (00_mix): an int or a text -/
def kV : Key → V
  | .inl i => .int i
  | .inr x => .str x

/-- what stands at a tracked address -/
inductive HO where
  /-- a list -/
  | lst (xs : List V)
  /-- a tuple (never changes) -/
  | tup (xs : List V)
  /-- a dict whose keys are ints and texts; one whose keys are tuples of ints and texts (the empty one is both) -/
  | dK (kvs : List (Key × V)) | dT (kvs : List (List Key × V))
  /-- a set of ints: its members, its size -/
  | set (S : Int → Bool) (n : Nat)
  /-- an instance of the class at C, its dict at dx, its attributes -/
  | ins (C dx : Addr) (fs : List (Str × V))
  /-- the dict of the instance at x -/
  | own (x : Addr)
  /-- the dict of an exception -/
  | xd (fs : List (Str × V))
  /-- a bound method, f of x -/
  | met (f x : Addr)
  /-- a range object lo, lo + 1, .. below hi -/
  | rng (lo hi : Int)
  /-- a thing that is known to the object (the script; a dict while a loop walks it): read, never written while it is so -/
  | frz (o : Obj) (u : HO)
  /-- a code object's table -/
  | tbl (ps : Array Value)
  /-- any other thing, by what is true of its one object (a def of one's own: SetO a S n := HO.ext fun h => ..) -/
  | ext (φ : Heap → Prop)

abbrev Hp := Addr → Option HO
def upd (H : Hp) (a : Addr) (o : HO) : Hp := fun b => if b = a then some o else H b
theorem upd_same {H : Hp} {a : Addr} {o : HO} : upd H a o a = some o := by unfold upd; rw [if_pos rfl]
theorem upd_ne {H : Hp} {a b : Addr} {o : HO} (h : b ≠ a) : upd H a o b = H b := by unfold upd; rw [if_neg h]
/-- two objects of different content stand apart -/
theorem ne_of {H : Hp} {a b : Addr} {o u : HO} (h : H a = some o) (h' : H b = some u) (d : o ≠ u) : a ≠ b := by
  intro e; subst e; rw [h] at h'; exact d (Option.some.inj h')
theorem ne_of_none {H : Hp} {a b : Addr} {o : HO} (h : H a = some o) (h' : H b = none) : a ≠ b := by
  intro e; subst e; rw [h] at h'; cases h'

section
variable (P : Program) (w : World)
/-- the object has no dict -/
def NoD (h : Heap) (a : Addr) : Prop := ∃ o, h.get? a = some o ∧ o.dict = none
def ObjOk (H : Hp) (h : Heap) (a : Addr) : HO → Prop
  | .lst xs => xs.length ≤ sizeLine ∧ ∃ (its : List Value) (n : Nat), Vals xs its ∧ h.get? a = some { cls := .type "list", data := .seq its.toArray n }
  | .tup xs => (xs.length ≤ sizeLine ∧ NoD h a) ∧ ∃ its : List Value, Vals xs its ∧ IsTup h a its.toArray
  | .dK kvs => kvs.length ≤ sizeLine ∧ (a == sysModules) = false ∧ ∃ vs, KV kvs vs ∧ h.DictOf (mixKind P w) a vs
  | .dT kvs => kvs.length ≤ sizeLine ∧ (a == sysModules) = false ∧ ∃ xs : List (List Key × Addr × Value),
      Paired (fun (p : List Key × V) (q : List Key × Addr × Value) => p.1 = q.1 ∧ H q.2.1 = some (.tup (p.1.map kV)) ∧ RelV p.2 q.2.2) kvs xs ∧
      ∃ o es ep, h.get? a = some o ∧ o.ExactDict ∧ o.data = .dict es ep ∧ es.toList = xs.map (entryOfKey (tupleKind (mixKind P w))) ∧ (xs.map (·.1)).Nodup
  | .set S n => h.SetOf (intKind P w) a S n
  | .ins C dx fs => H dx = some (.own a) ∧ fs.length ≤ 1000 ∧ dx ≠ a ∧ h.get? a = some (PySem.W.instObj C dx) ∧
      ∃ mA, h.Ns1 dx mA ∧ (∀ f, RelO (fs.lookup f) (mA f)) ∧ PySem.Within mA (fs.map (·.1))
  | .own _ => ∃ o, h.get? a = some o
  | .xd fs => ∃ mA, h.Ns1 a mA ∧ ∀ f, RelO (fs.lookup f) (mA f)
  | .rng lo hi => ∃ t u v, h.get? a = some { cls := .type "range", data := .fields #[.int lo t, .int hi u, .int 1 v] }
  | .frz o u => h.get? a = some o ∧ ObjOk H h a u
  | .tbl ps => h.get? a = some { cls := .none, data := .fields ps }
  | .met f x => h.get? a = some (PySem.W.methodObj (.ref f) (.ref x))
  | .ext φ => φ h ∧ (∃ o, h.get? a = some o) ∧ ∀ h1 h2 : Heap, φ h1 → (∀ o, h1.get? a = some o → h2.get? a = some o) → φ h2
/-- the abstract heap is held -/
def HOk (H : Hp) (h : Heap) : Prop := ∀ a o, H a = some o → ObjOk P w H h a o
end

section
variable {P : Program} {w : World} {H H' : Hp} {h h' : Heap} {a : Addr} {o : HO}
theorem ObjOk.lt (x : ObjOk P w H h a o) : a < h.objs.size := by
  cases o with
  | lst xs => obtain ⟨_, _, _, _, e⟩ := x; exact Heap.lt_size e
  | tup xs => obtain ⟨_, _, _, p⟩ := x; exact p.lt
  | dK kvs => obtain ⟨_, _, _, _, o, _, _, e, _⟩ := x; exact Heap.lt_size e
  | dT kvs => obtain ⟨_, _, _, _, o, _, _, e, _⟩ := x; exact Heap.lt_size e
  | set S n => obtain ⟨o, _, _, _, e, _⟩ := x; exact Heap.lt_size e
  | ins C dx fs => obtain ⟨_, _, _, e, _⟩ := x; exact Heap.lt_size e
  | own y => obtain ⟨_, e⟩ := x; exact Heap.lt_size e
  | xd fs => obtain ⟨_, ⟨_, _, _, e, _⟩, _⟩ := x; exact Heap.lt_size e
  | rng lo hi => obtain ⟨_, _, _, e⟩ := x; exact Heap.lt_size e
  | frz ob u => obtain ⟨e, _⟩ := x; exact Heap.lt_size e
  | tbl ps => exact Heap.lt_size (show h.get? a = some _ from x)
  | met f y => exact Heap.lt_size (show h.get? a = some _ from x)
  | ext φ => obtain ⟨_, ⟨_, e⟩, _⟩ := x; exact Heap.lt_size e
theorem Paired.mapP {α β : Type} {F G : α → β → Prop} : ∀ {l₁ : List α} {l₂ : List β}, Paired F l₁ l₂ → (∀ a b, F a b → G a b) → Paired G l₁ l₂
  | _, _, .nil, _ => .nil
  | _, _, .cons r t, f => .cons (f _ _ r) (Paired.mapP t f)
/-- what an object's description leans on: its own object, its own dict, the tuples -/
theorem ObjOk.stay (x : ObjOk P w H h a o) (k : ∀ b u, (b = a ∨ H b = some (.own a)) → h.get? b = some u → h'.get? b = some u)
    (ho : ∀ b, H b = some (.own a) → H' b = some (.own a)) (ht : ∀ b xs, H b = some (.tup xs) → H' b = some (.tup xs)) : ObjOk P w H' h' a o := by
  induction o with
  | lst xs => obtain ⟨z, its, n, r, e⟩ := x; exact ⟨z, its, n, r, k _ _ (.inl rfl) e⟩
  | tup xs => obtain ⟨z, its, r, ob, e, c⟩ := x; exact ⟨⟨z.1, z.2.imp fun _ q => ⟨k _ _ (.inl rfl) q.1, q.2⟩⟩, its, r, ob, k _ _ (.inl rfl) e, c⟩
  | dK kvs => obtain ⟨z, y, vs, r, ob, es, ep, e, c⟩ := x; exact ⟨z, y, vs, r, ob, es, ep, k _ _ (.inl rfl) e, c⟩
  | dT kvs =>
    obtain ⟨z, y, xs, r, ob, es, ep, e, c⟩ := x
    exact ⟨z, y, xs, Paired.mapP r fun p q z => ⟨z.1, ht _ _ z.2.1, z.2.2⟩, ob, es, ep, k _ _ (.inl rfl) e, c⟩
  | set S n => obtain ⟨ob, es, ep, t, e, c⟩ := x; exact ⟨ob, es, ep, t, k _ _ (.inl rfl) e, c⟩
  | ins C dx fs =>
    obtain ⟨d, z, ne, e, mA, ⟨od, es, ep, e2, c⟩, r⟩ := x
    exact ⟨ho _ d, z, ne, k _ _ (.inl rfl) e, mA, ⟨od, es, ep, k _ _ (.inr d) e2, c⟩, r⟩
  | own y => obtain ⟨ob, e⟩ := x; exact ⟨ob, k _ _ (.inl rfl) e⟩
  | xd fs => obtain ⟨mA, ⟨od, es, ep, e, c⟩, r⟩ := x; exact ⟨mA, ⟨od, es, ep, k _ _ (.inl rfl) e, c⟩, r⟩
  | rng lo hi => obtain ⟨t, u, v, e⟩ := x; exact ⟨t, u, v, k _ _ (.inl rfl) e⟩
  | frz ob u ih => obtain ⟨e, q⟩ := x; exact ⟨k _ _ (.inl rfl) e, ih q⟩
  | tbl ps =>
    have e : h.get? a = some { cls := .none, data := .fields ps } := x
    show h'.get? a = some { cls := .none, data := .fields ps }
    exact k a _ (.inl rfl) e
  | met f y =>
    have e : h.get? a = some (PySem.W.methodObj (.ref f) (.ref y)) := x
    show h'.get? a = some (PySem.W.methodObj (.ref f) (.ref y))
    exact k a _ (.inl rfl) e
  | ext φ => obtain ⟨p, ⟨o, e⟩, st⟩ := x; exact ⟨st _ _ p fun o q => k _ _ (.inl rfl) q, ⟨o, k _ _ (.inl rfl) e⟩, st⟩
theorem HOk.lt (x : HOk P w H h) (e : H a = some o) : a < h.objs.size := (x a o e).lt
theorem HOk.fresh (x : HOk P w H h) (e : h.objs.size ≤ a) : H a = none := by
  cases q : H a with
  | none => rfl
  | some u => exact absurd (Nat.lt_of_lt_of_le (x.lt q) e) (Nat.lt_irrefl _)
/-- every object of the heap is kept -/
theorem HOk.kept (x : HOk P w H h) (k : ∀ b u, h.get? b = some u → h'.get? b = some u) : HOk P w H h' := fun a o e =>
  (x a o e).stay (fun b u _ q => k b u q) (fun _ q => q) fun _ _ q => q
/-- a new object is laid and tracked -/
theorem HOk.laid (x : HOk P w H h) (k : ∀ b u, h.get? b = some u → h'.get? b = some u) (hp : h.objs.size ≤ a) (new : ObjOk P w (upd H a o) h' a o) : HOk P w (upd H a o) h' := fun b u e => by
  have hn := x.fresh hp
  by_cases hb : b = a
  · subst hb; rw [upd_same] at e; cases e; exact new
  · rw [upd_ne hb] at e
    exact (x b u e).stay (fun c v _ q => k c v q) (fun c q => by rw [upd_ne (ne_of_none q hn)]; exact q) fun c xs q => by rw [upd_ne (ne_of_none q hn)]; exact q
end

/-- what may be read as u: it is u, or a known u -/
def Rd (H : Hp) (a : Addr) (u : HO) : Prop := H a = some u ∨ ∃ o, H a = some (.frz o u)
theorem Rd.ok {P : Program} {w : World} {H : Hp} {h : Heap} {a : Addr} {u : HO} (r : Rd H a u) (x : HOk P w H h) : ObjOk P w H h a u := by
  rcases r with r | ⟨o, r⟩
  · exact x a u r
  · obtain ⟨_, q⟩ := x a _ r
    exact q
/-- what may be written -/
def Mut : Option HO → Prop
  | some (.lst _) => True
  | some (.dK _) => True
  | some (.dT _) => True
  | some (.set _ _) => True
  | some (.ins _ _ _) => True
  | some (.ext _) => True
  | _ => False
section
variable {P : Program} {w : World} {H : Hp} {h h' : Heap} {x e : Addr} {o' : HO}
/-- the object at e is changed: x itself, or the dict of the instance x -/
theorem HOk.write (ok : HOk P w H h) (mu : Mut (H x)) (he : e = x ∨ H e = some (.own x)) (k : ∀ b u, b ≠ e → h.get? b = some u → h'.get? b = some u) (heo : ∃ u, h'.get? e = some u)
    (new : ObjOk P w (upd H x o') h' x o') : HOk P w (upd H x o') h' := fun b u q => by
  have nown : ∀ c y, H c = some (.own y) → c ≠ x := fun c y r z => by subst z; rw [r] at mu; exact mu
  have ntup : ∀ c xs, H c = some (.tup xs) → c ≠ x := fun c xs r z => by subst z; rw [r] at mu; exact mu
  by_cases hb : b = x
  · subst hb; rw [upd_same] at q; cases q; exact new
  · rw [upd_ne hb] at q
    by_cases hbe : b = e
    · have q' : H b = some (.own x) := by
        rcases he with z | z
        · exact absurd (hbe.trans z) hb
        · rw [hbe]; exact z
      rw [q] at q'; cases q'
      obtain ⟨v, hv⟩ := heo
      exact ⟨v, by rw [hbe]; exact hv⟩
    · refine (ok b u q).stay (fun c v hc r => k c v ?_ r) (fun c r => by rw [upd_ne (nown c b r)]; exact r) fun c xs r => by rw [upd_ne (ntup c xs r)]; exact r
      rcases hc with rfl | hc
      · exact hbe
      · rintro rfl
        rcases he with z | z
        · exact nown c b hc z
        · rw [hc] at z; cases z; exact hb rfl
end

structure Un (fs ex : List Addr) (H H' : Hp) (h h' : Heap) : Prop where
  keep : ∀ b o, h.get? b = some o → H b = none → b ∉ fs → b ∉ ex → h'.get? b = some o
  slot : ∀ b o, h.get? b = some o → H b = none → b ∈ fs → b ∉ ex → ∃ sl, h'.get? b = some { o with slots := sl }
  free : ∀ b o, h.get? b = some o → H b = none → b ∉ ex → H' b = none
  there : ∀ b o, h.get? b = some o → b ∉ ex → ∃ o', h'.get? b = some o'
  tups : ∀ b xs, H b = some (.tup xs) → H' b = some (.tup xs)
  frzs : ∀ b o u, H b = some (.frz o u) → H' b = some (.frz o u)
  tbls : ∀ b ps, H b = some (.tbl ps) → ∃ more, H' b = some (.tbl (ps ++ more))
section
variable {fs fs' ex ex' : List Addr} {H H1 H2 : Hp} {h h1 h2 h' : Heap} {a x e : Addr} {o : HO}
theorem Un.any (u : Un fs ex H H1 h h1) {b : Addr} {ob : Obj} (q : h.get? b = some ob) (n : H b = none) (hx : b ∉ ex) : ∃ sl, h1.get? b = some { ob with slots := sl } := by
  by_cases hb : b ∈ fs
  · exact u.slot b ob q n hb hx
  · exact ⟨ob.slots, u.keep b ob q n hb hx⟩
theorem Un.kept (k : ∀ b u, h.get? b = some u → h'.get? b = some u) : Un fs ex H H h h' :=
  ⟨fun b ob q _ _ _ => k b ob q, fun b ob q _ _ _ => ⟨ob.slots, k b ob q⟩, fun _ _ _ n _ => n, fun b ob q _ => ⟨ob, k b ob q⟩, fun _ _ q => q, fun _ _ _ q => q, fun _ ps q => ⟨#[], by rw [q]; simp⟩⟩
theorem Un.refl : Un fs ex H H h h := Un.kept fun _ _ q => q
theorem Un.laid (k : ∀ b u, h.get? b = some u → h'.get? b = some u) (hp : h.objs.size ≤ a) (hn : H a = none) : Un fs ex H (upd H a o) h h' where
  keep := fun b u q _ _ _ => k b u q
  slot := fun b u q _ _ _ => ⟨u.slots, k b u q⟩
  free := fun b u q n _ => by rw [upd_ne (Nat.ne_of_lt (Nat.lt_of_lt_of_le (Heap.lt_size q) hp))]; exact n
  there := fun b u q _ => ⟨u, k b u q⟩
  tups := fun b xs q => by rw [upd_ne (ne_of_none q hn)]; exact q
  frzs := fun b u xs q => by rw [upd_ne (ne_of_none q hn)]; exact q
  tbls := fun b ps q => ⟨#[], by rw [upd_ne (ne_of_none q hn), q]; simp⟩
theorem Un.write (mu : Mut (H x)) (he : e = x ∨ H e = some (.own x)) (k : ∀ b u, b ≠ e → h.get? b = some u → h'.get? b = some u) (heo : ∃ u, h'.get? e = some u) : Un fs ex H (upd H x o) h h' := by
  have hx : ∀ b, H b = none → b ≠ x := fun b n z => by subst z; rw [n] at mu; exact mu
  have hb : ∀ b, H b = none → b ≠ e := fun b n z => by
    subst z
    rcases he with r | r
    · exact hx b n r
    · rw [n] at r; cases r
  have hm : ∀ b u, H b = some u → ¬ Mut (some u) → b ≠ x := fun b u q nm z => by subst z; rw [q] at mu; exact nm mu
  refine ⟨fun b u q n _ _ => k b u (hb b n) q, fun b u q n _ _ => ⟨u.slots, k b u (hb b n) q⟩, fun b u q n _ => by rw [upd_ne (hx b n)]; exact n, fun b u q _ => ?_,
    fun b xs q => by rw [upd_ne (hm b _ q fun z => z)]; exact q, fun b u xs q => by rw [upd_ne (hm b _ q fun z => z)]; exact q, fun b ps q => ⟨#[], by rw [upd_ne (hm b _ q fun z => z), q]; simp⟩⟩
  by_cases hbe : b = e
  · subst hbe; exact heo
  · exact ⟨u, k b u hbe q⟩
end

def trk (h : Heap) (H : Hp) : List Addr := (List.range h.objs.size).filter fun a => (H a).isSome
def hidT (h : Heap) (H : Hp) : Heap := PySem.W.hideAll h (trk h H)
theorem hidT_size (h : Heap) (H : Hp) : (hidT h H).objs.size = h.objs.size := PySem.W.hideAll_size _ _
theorem hidT_get {h : Heap} {H : Hp} {b : Addr} {o : Obj} (e : h.get? b = some o) (n : H b = none) : (hidT h H).get? b = some o :=
  PySem.W.hideAll_get _ e fun hm => by
    have q : (H b).isSome = true := (List.mem_filter.mp hm).2
    rw [n] at q; simp at q
theorem of_hidT {h : Heap} {H : Hp} {b : Addr} {o : Obj} (e : (hidT h H).get? b = some o) : h.get? b = some o ∧ H b = none := by
  have e' : h.get? b = some o := PySem.W.of_hideAll (trk h H) e
  refine ⟨e', ?_⟩
  cases q : H b with
  | none => rfl
  | some x =>
    have hm : b ∈ trk h H := List.mem_filter.mpr ⟨List.mem_range.mpr (Heap.lt_size e'), by simp [q]⟩
    have z : (hidT h H).get? b = none := PySem.W.hideAll_none (trk h H) hm
    rw [z] at e; cases e

end L2

namespace L2
open PySem PySem.Spec PyProof.Rows

/-- the module's facts, over the base: the heap at the law's entry without what is tracked there -/
structure Mod (K : PySem.W.Frag) (mg : Str → Option Value) (base : Heap) : Prop where
  kin : K.In base
  glob : base.Ns mainGlobals mg
  blt : ∃ mb, base.Ns builtinsNs mb ∧ ∀ x : Str, x ≠ "__name__" → mb x = bootBuiltins x
  nolimit : base.NoLimit

/-- the context: a def's body (or a comprehension's block) running. base: fixed through the whole law; s₀, H₀: the entry; outer: the frames whose slots others may change (a def's callers); stack: all frames that run;
   ex: iterators that were made ahead of the entry and are walked here (a comprehension's); fn: the names whose cells were made at the entry (a def: all; a comprehension's block: its own); calm: not within an except suite; pn: pins that every state bears; xe: what is wanted of an exception that leaves the code -/
structure Cx where
  prog : Program
  w : World
  K : PySem.W.Frag
  mg : Str → Option Value
  base : Heap
  A : Around
  N : List Str
  s₀ : Shared
  H₀ : Hp
  env : Env
  outer : List Env
  stack : List Env
  ex : List Addr
  fn : Str → Bool
  calm : Bool
  pn : List (Addr × Obj)
  xe : Value → Shared → Prop
/-- the callers' frames -/
def frs (l : List Env) : List Addr := l.filterMap (·.frame)
abbrev Cx.fs (X : Cx) : List Addr := frs X.outer

def Vis (sc : Scope) (x : Str) : Prop := sc.names.lookup x = some .local ∨ sc.names.lookup x = some .cell ∨ sc.names.lookup x = some .free
def Loc (sc : Scope) (x : Str) : Prop := sc.names.lookup x = some .local ∨ sc.names.lookup x = some .cell
def Look (env : Env) (h : Heap) (m : Str → Option Value) (x : Str) (u : Value) : Prop :=
  (env.kindOf x = some .local ∧ m x = some u) ∨ ((env.kindOf x = some .cell ∨ env.kindOf x = some .free) ∧ ∃ c, env.cells.lookup x = some c ∧ h.IsCell c (some u))

structure Cx.Ok (X : Cx) : Prop where
  mod : Mod X.K X.mg X.base
  kind : X.env.scope.kind = .function
  glob : X.env.globals = mainGlobals
  blt : X.env.builtins = builtinsNs
  above : X.s₀.heap.objs.size ≤ X.env.locals
  inj : ∀ x y c, X.env.cells.lookup x = some c → X.env.cells.lookup y = some c → x = y
  has : ∀ x, (X.env.kindOf x = some .cell ∨ X.env.kindOf x = some .free) → ∃ c, X.env.cells.lookup x = some c
  cab : ∀ x c, X.fn x = true → X.env.cells.lookup x = some c → X.s₀.heap.objs.size ≤ c
  hd : X.calm = true → X.A.handled = none
  frames : X.A.frames = some X.stack
  stk : X.stack = X.outer ∨ (X.stack = X.env :: X.outer ∧ X.env.frame = some X.env.locals)
  exf : ∀ b ∈ X.ex, b ≠ X.env.locals ∧ ∀ x c, X.env.cells.lookup x = some c → c ≠ b
  bs : ∀ b o, X.base.get? b = some o → X.s₀.heap.get? b = some o ∧ X.H₀ b = none
  bsz : X.base.objs.size ≤ X.s₀.heap.objs.size
  noex : ∀ b o, X.base.get? b = some o → b ∉ X.ex
  exfs : ∀ b ∈ X.ex, b ∉ X.fs
  funs : X.s₀.heap.FunFrames X.base X.outer
  frf : ∀ b ∈ X.fs, X.H₀ b = none

structure Inv (X : Cx) (pins : List (Addr × Obj)) (σ : List (Option V)) (H : Hp) (s : Shared) : Prop where
  ok : X.Ok
  os : s.os = X.s₀.os
  bare : AllBare s.gens
  base : Un X.fs X.ex X.H₀ H X.s₀.heap s.heap
  loc : ∃ m, s.heap.Ns X.env.locals m ∧ ∀ (i : Nat) (x : Str) (v : V), X.N[i]? = some x → σ[i]? = some (some v) → Vis X.env.scope x → ∃ u, RelV v u ∧ Look X.env s.heap m x u
  cell : ∀ x c, X.env.cells.lookup x = some c → ∃ v, s.heap.IsCell c v
  free : H X.env.locals = none
  freeC : ∀ x c, X.env.cells.lookup x = some c → H c = none
  pin : ∀ p ∈ X.pn ++ pins, s.heap.get? p.1 = some p.2 ∧ H p.1 = none ∧ p.1 ≠ X.env.locals ∧ p.1 ∉ X.fs ∧ ∀ v, p.2.data ≠ .cell v
  hok : HOk X.prog X.w H s.heap
  len : σ.length = X.N.length

section
variable {X : Cx} {pins : List (Addr × Obj)} {σ : List (Option V)} {H H' : Hp} {s : Shared} {h' : Heap}

theorem Cx.Ok.nofr (ok : X.Ok) {b : Addr} {o : Obj} (e : X.base.get? b = some o) : b ∉ X.fs := fun hb => by
  have := (ok.funs.mem hb).1
  rw [e] at this; cases this
theorem Inv.bs (I : Inv X pins σ H s) : ∀ b o, X.base.get? b = some o → s.heap.get? b = some o ∧ H b = none := fun b o e =>
  ⟨I.base.keep b o (I.ok.bs b o e).1 (I.ok.bs b o e).2 (I.ok.nofr e) (I.ok.noex b o e), I.base.free b o (I.ok.bs b o e).1 (I.ok.bs b o e).2 (I.ok.noex b o e)⟩
theorem Inv.bk (I : Inv X pins σ H s) : ∀ b o, X.base.get? b = some o → s.heap.get? b = some o := fun b o e => (I.bs b o e).1
theorem Inv.mod (I : Inv X pins σ H s) : Mod X.K X.mg X.base := I.ok.mod
theorem Inv.kIn (I : Inv X pins σ H s) : X.K.In s.heap := I.ok.mod.kin.keeps I.bk
theorem Inv.lt (I : Inv X pins σ H s) : X.env.locals < s.heap.objs.size := let ⟨_, hn, _⟩ := I.loc; hn.lt
theorem Inv.sz (I : Inv X pins σ H s) : X.s₀.heap.objs.size ≤ s.heap.objs.size := Nat.le_trans I.ok.above (Nat.le_of_lt I.lt)
theorem Inv.nofs (I : Inv X pins σ H s) {a : Addr} (h : s.heap.objs.size ≤ a) : a ∉ X.fs := fun hb => by
  obtain ⟨_, o, ho, _⟩ := I.ok.funs.mem hb
  exact absurd (Nat.lt_of_lt_of_le (Heap.lt_size ho) (Nat.le_trans I.sz h)) (Nat.lt_irrefl _)
theorem Inv.cne (I : Inv X pins σ H s) : ∀ x c, X.env.cells.lookup x = some c → c ≠ X.env.locals := fun x c e z => by
  obtain ⟨v, o, ho, hd⟩ := I.cell x c e
  obtain ⟨m, ⟨o', es, ep, ho', hd', _⟩, _⟩ := I.loc
  rw [z, ho'] at ho; cases ho; rw [hd'] at hd; cases hd
theorem Inv.funs (I : Inv X pins σ H s) : s.heap.FunFrames X.base X.outer := by
  have all : ∀ (l : List Env), (∀ b ∈ frs l, b ∈ X.fs) → X.s₀.heap.FunFrames X.base l → s.heap.FunFrames X.base l := by
    intro l
    induction l with
    | nil => intro _ _; trivial
    | cons env r ih =>
      intro hs hl
      obtain ⟨hk, ⟨L, o, hf, hn, ho, hd⟩, hr⟩ := hl
      have hL : L ∈ X.fs := hs L (by unfold frs; rw [List.filterMap_cons, hf]; exact List.mem_cons_self)
      obtain ⟨sl, e⟩ := I.base.slot L o ho (I.ok.frf L hL) hL fun z => I.ok.exfs L z hL
      exact ⟨hk, ⟨L, _, hf, hn, e, hd⟩, ih (fun b hb => hs b (by unfold frs; rw [List.filterMap_cons, hf]; exact List.mem_cons_of_mem _ hb)) hr⟩
  exact all X.outer (fun _ hb => hb) I.ok.funs

/-- the frames that run, for a call -/
theorem Inv.stack (I : Inv X pins σ H s) : s.heap.FunFrames X.base X.stack := by
  rcases I.ok.stk with e | ⟨e, hf⟩
  · rw [e]; exact I.funs
  · rw [e]
    obtain ⟨m, hn, _⟩ := I.loc
    refine .cons (by rw [I.ok.kind]; decide) hf hn ?_ I.funs
    exact Heap.get?_none_of_le (Nat.le_trans I.ok.bsz I.ok.above)
theorem Inv.stkSub (I : Inv X pins σ H s) : ∀ b ∈ frs X.stack, b ∈ X.env.locals :: X.fs := fun b hb => by
  rcases I.ok.stk with e | ⟨e, hf⟩
  · rw [e] at hb; exact List.mem_cons_of_mem _ hb
  · rw [e] at hb
    unfold frs at hb
    rw [List.filterMap_cons, hf] at hb
    exact hb
theorem Inv.stkFree (I : Inv X pins σ H s) : ∀ b ∈ frs X.stack, H b = none := fun b hb => by
  rcases List.mem_cons.mp (I.stkSub b hb) with e | hb
  · rw [e]; exact I.free
  · obtain ⟨_, o, ho, _⟩ := I.ok.funs.mem hb
    exact I.base.free b o ho (I.ok.frf b hb) fun z => I.ok.exfs b z hb

/-- THE STEP: the untracked objects but the frame and the records at ch are kept (the callers' frames up to slots), the frame's map is kept, the new abstract heap is held -/
theorem Inv.step {g' : Array GenState} {t' : Nat} {d' : Drawn} {ch : List Addr} (I : Inv X pins σ H s)
    (hch : ∀ b ∈ ch, (b ∈ X.ex ∨ X.s₀.heap.objs.size ≤ b) ∧ b ≠ X.env.locals ∧ (∀ x c, X.env.cells.lookup x = some c → c ≠ b) ∧ ∀ p ∈ X.pn ++ pins, p.1 ≠ b)
    (keep : ∀ b o, b ≠ X.env.locals → b ∉ X.fs → b ∉ ch → s.heap.get? b = some o → H b = none → h'.get? b = some o)
    (slot : ∀ b o, b ≠ X.env.locals → b ∈ X.fs → b ∉ ch → s.heap.get? b = some o → H b = none → ∃ sl, h'.get? b = some { o with slots := sl }) (free : ∀ b o, b ∉ ch → s.heap.get? b = some o → H b = none → H' b = none)
    (there : ∀ b o, b ∉ ch → s.heap.get? b = some o → ∃ o', h'.get? b = some o')
    (tups : ∀ b xs, H b = some (.tup xs) → H' b = some (.tup xs)) (frzs : ∀ b o u, H b = some (.frz o u) → H' b = some (.frz o u)) (tbls : ∀ b ps, H b = some (.tbl ps) → ∃ more, H' b = some (.tbl (ps ++ more)))
    (ns : ∀ m, s.heap.Ns X.env.locals m → h'.Ns X.env.locals m) (hok : HOk X.prog X.w H' h') (hg : AllBare g') :
    Inv X pins σ H' { s with heap := h', gens := g', drawn := d', toks := t' } := by
  have neL : ∀ b o, X.s₀.heap.get? b = some o → b ≠ X.env.locals := fun b o e => Nat.ne_of_lt (Nat.lt_of_lt_of_le (Heap.lt_size e) I.ok.above)
  have neC : ∀ b o, X.s₀.heap.get? b = some o → b ∉ X.ex → b ∉ ch := fun b o e hx hb => by
    rcases (hch b hb).1 with z | z
    · exact hx z
    · exact absurd (Nat.lt_of_lt_of_le (Heap.lt_size e) z) (Nat.lt_irrefl _)
  have cellK : ∀ x c, X.env.cells.lookup x = some c → ∀ v, s.heap.IsCell c v → h'.IsCell c v := fun x c e v ⟨o, ho, hd⟩ => by
    have nch : c ∉ ch := fun z => (hch c z).2.2.1 x c e rfl
    by_cases hc : c ∈ X.fs
    · obtain ⟨sl, q⟩ := slot c o (I.cne x c e) hc nch ho (I.freeC x c e)
      exact ⟨_, q, hd⟩
    · exact ⟨o, keep c o (I.cne x c e) hc nch ho (I.freeC x c e), hd⟩
  refine ⟨I.ok, I.os, hg, ⟨fun b o e n hb hx => ?_, fun b o e n hb hx => ?_, fun b o e n hx => ?_, fun b o e hx => ?_, fun b xs e => tups b xs (I.base.tups b xs e), fun b o xs e => frzs b o xs (I.base.frzs b o xs e), fun b ps e => ?_⟩, ?_, fun x c e => ?_, ?_, fun x c e => ?_, fun p hp => ?_, hok, I.len⟩
  · exact keep b o (neL b o e) hb (neC b o e hx) (I.base.keep b o e n hb hx) (I.base.free b o e n hx)
  · obtain ⟨sl, e1⟩ := I.base.slot b o e n hb hx
    obtain ⟨sl', e2⟩ := slot b _ (neL b o e) hb (neC b o e hx) e1 (I.base.free b o e n hx)
    exact ⟨sl', e2⟩
  · obtain ⟨o', e1⟩ := I.base.there b o e hx
    exact free b o' (neC b o e hx) e1 (I.base.free b o e n hx)
  · obtain ⟨o', e1⟩ := I.base.there b o e hx
    exact there b o' (neC b o e hx) e1
  · obtain ⟨m1, e1⟩ := I.base.tbls b ps e
    obtain ⟨m2, e2⟩ := tbls b _ e1
    exact ⟨m1 ++ m2, by rw [e2, Array.append_assoc]⟩
  · obtain ⟨m, hn, hl⟩ := I.loc
    refine ⟨m, ns m hn, fun i x v e1 e2 e3 => ?_⟩
    obtain ⟨u, r, l⟩ := hl i x v e1 e2 e3
    refine ⟨u, r, ?_⟩
    rcases l with l | ⟨k, c, e, z⟩
    · exact .inl l
    · exact .inr ⟨k, c, e, cellK x c e _ z⟩
  · obtain ⟨v, z⟩ := I.cell x c e
    exact ⟨v, cellK x c e v z⟩
  · obtain ⟨m, ⟨o, _, _, ho, _⟩, _⟩ := I.loc
    exact free _ o (fun z => (hch _ z).2.1 rfl) ho I.free
  · obtain ⟨v, o, ho, hd⟩ := I.cell x c e
    exact free c o (fun z => (hch c z).2.2.1 x c e rfl) ho (I.freeC x c e)
  · obtain ⟨e, n, ne, nf, d⟩ := I.pin p hp
    have nch : p.1 ∉ ch := fun z => (hch p.1 z).2.2.2 p hp rfl
    exact ⟨keep p.1 p.2 ne nf nch e n, free p.1 p.2 nch e n, ne, nf, d⟩
/-- .. where the frame's own object is kept too -/
theorem Inv.un {t' : Nat} (I : Inv X pins σ H s) (u : Un X.fs [] H H' s.heap h') (hok : HOk X.prog X.w H' h') : Inv X pins σ H' { s with heap := h', toks := t' } := by
  obtain ⟨m, ⟨o, es, ep, ho, r⟩, _⟩ := id I.loc
  obtain ⟨sl, hL⟩ := u.any ho I.free (by simp)
  exact I.step (g' := s.gens) (d' := s.drawn) (ch := []) (fun _ z => nomatch z) (fun b o _ hb _ e n => u.keep b o e n hb (by simp)) (fun b o _ hb _ e n => u.slot b o e n hb (by simp)) (fun b o _ e n => u.free b o e n (by simp)) (fun b o _ e => u.there b o e (by simp)) u.tups u.frzs u.tbls (fun m' hm => by
    obtain ⟨o', es', ep', ho', r'⟩ := hm
    rw [ho] at ho'; cases ho'
    exact ⟨_, es', ep', hL, r'⟩) hok I.bare
/-- behind a call (or a comprehension's block): the slots of this frame may have changed too, the records at ch may have turned -/
theorem Inv.call {g' : Array GenState} {t' : Nat} {d' : Drawn} {ch : List Addr} (I : Inv X pins σ H s) (u : Un (frs X.stack) ch H H' s.heap h') (hok : HOk X.prog X.w H' h') (hg : AllBare g')
    (hch : ∀ b ∈ ch, (b ∈ X.ex ∨ X.s₀.heap.objs.size ≤ b) ∧ b ≠ X.env.locals ∧ (∀ x c, X.env.cells.lookup x = some c → c ≠ b) ∧ ∀ p ∈ X.pn ++ pins, p.1 ≠ b) :
    Inv X pins σ H' { s with heap := h', gens := g', drawn := d', toks := t' } := by
  obtain ⟨m, ⟨o, es, ep, ho, r⟩, _⟩ := id I.loc
  obtain ⟨sl, hL⟩ := u.any ho I.free fun z => (hch _ z).2.1 rfl
  exact I.step (ch := ch) hch (fun b o hL hb hc e n => u.keep b o e n (fun z => (List.mem_cons.mp (I.stkSub b z)).elim hL hb) hc) (fun b o _ _ hc e n => u.any e n hc) (fun b o hc e n => u.free b o e n hc) (fun b o hc e => u.there b o e hc) u.tups u.frzs u.tbls (fun m' hm => by
    obtain ⟨o', es', ep', ho', r'⟩ := hm
    rw [ho] at ho'; cases ho'
    exact ⟨_, es', ep', hL, r'⟩) hok hg
/-- an untracked record of ours (an iterator) has turned -/
theorem Inv.turned {t' : Nat} {it : Addr} (I : Inv X pins σ H s) (k : ∀ b o, b ≠ it → s.heap.get? b = some o → h'.get? b = some o) (hn : H it = none) (hL : it ≠ X.env.locals)
    (h1 : it ∈ X.ex ∨ X.s₀.heap.objs.size ≤ it) (h2 : ∀ x c, X.env.cells.lookup x = some c → c ≠ it) (h3 : ∀ p ∈ X.pn ++ pins, p.1 ≠ it) : Inv X pins σ H { s with heap := h', toks := t' } := by
  have nit : ∀ b u, H b = some u → b ≠ it := fun b u e z => by rw [z, hn] at e; cases e
  refine I.step (g' := s.gens) (d' := s.drawn) (ch := [it]) (fun b hb => ?_) (fun b o _ _ hc e _ => k b o (fun z => hc (by simp [z])) e) (fun b o _ _ hc e _ => ⟨o.slots, k b o (fun z => hc (by simp [z])) e⟩) (fun _ _ _ _ n => n)
    (fun b o hc e => ⟨o, k b o (fun z => hc (by simp [z])) e⟩) (fun _ _ e => e) (fun _ _ _ e => e) (fun b ps e => ⟨#[], by rw [e]; simp⟩) (fun m hm => ?_) (fun b u e => ?_) I.bare
  · have e : b = it := by simpa using hb
    subst e
    exact ⟨h1, hL, h2, h3⟩
  · obtain ⟨o, es, ep, ho, r⟩ := hm
    exact ⟨o, es, ep, k _ o (Ne.symm hL) ho, r⟩
  · refine (I.hok b u e).stay (fun c v hc q => k c v ?_ q) (fun _ q => q) fun _ _ q => q
    rcases hc with z | z
    · rw [z]; exact nit b u e
    · exact nit c _ z
theorem Inv.tok (I : Inv X pins σ H s) (t : Nat) : Inv X pins σ H { s with toks := t } := I.un (h' := s.heap) (t' := t) Un.refl I.hok
/-- all objects kept -/
theorem Inv.kept {t' : Nat} (I : Inv X pins σ H s) (k : ∀ b u, s.heap.get? b = some u → h'.get? b = some u) : Inv X pins σ H { s with heap := h', toks := t' } := I.un (Un.kept k) (I.hok.kept k)
/-- a new object laid and tracked -/
theorem Inv.laid {a : Addr} {o : HO} {t' : Nat} (I : Inv X pins σ H s) (k : ∀ b u, s.heap.get? b = some u → h'.get? b = some u) (hp : s.heap.objs.size ≤ a) (new : ObjOk X.prog X.w (upd H a o) h' a o) :
    Inv X pins σ (upd H a o) { s with heap := h', toks := t' } := I.un (Un.laid k hp (I.hok.fresh hp)) (I.hok.laid k hp new)
/-- an object written -/
theorem Inv.write {x e : Addr} {o : HO} {t' : Nat} (I : Inv X pins σ H s) (mu : Mut (H x)) (he : e = x ∨ H e = some (.own x)) (k : ∀ b u, b ≠ e → s.heap.get? b = some u → h'.get? b = some u) (heo : ∃ u, h'.get? e = some u)
    (new : ObjOk X.prog X.w (upd H x o) h' x o) : Inv X pins σ (upd H x o) { s with heap := h', toks := t' } := I.un (Un.write mu he k heo) (I.hok.write mu he k heo new)
theorem Inv.pins_of {pins' : List (Addr × Obj)} (I : Inv X pins σ H s) (h : ∀ p ∈ pins', s.heap.get? p.1 = some p.2 ∧ H p.1 = none ∧ p.1 ≠ X.env.locals ∧ p.1 ∉ X.fs ∧ ∀ v, p.2.data ≠ .cell v) : Inv X pins' σ H s :=
  ⟨I.ok, I.os, I.bare, I.base, I.loc, I.cell, I.free, I.freeC, fun p hp => (List.mem_append.mp hp).elim (fun z => I.pin p (List.mem_append_left _ z)) (h p), I.hok, I.len⟩

theorem nodup_ix {N : List Str} (hN : N.Nodup) {i j : Nat} {x : Str} (a : N[i]? = some x) (b : N[j]? = some x) : i = j := by
  obtain ⟨h1, e1⟩ := List.getElem?_eq_some_iff.mp a
  obtain ⟨h2, e2⟩ := List.getElem?_eq_some_iff.mp b
  exact (List.getElem_inj hN).mp (e1.trans e2.symm)

/-- a name is stored; what changed -/
theorem store_ok2 {M : Model} {A : Around} {E : Value → Shared → Prop} {i : Nat} {x : Str} {v : V} {u : Value} {Q : Unit → Shared → Prop} (I : Inv X pins σ H s) (hN : X.N.Nodup) (hi : X.N[i]? = some x) (hx : Loc X.env.scope x) (r : RelV v u)
    (h : ∀ s', Inv X pins (σ.set i (some v)) H s' → (∃ a, Heap.SameBut a s.heap s'.heap ∧ (a = X.env.locals ∨ X.env.cells.lookup x = some a)) → Q () s') (hf : X.fn x = true ∨ X.env.scope.names.lookup x = some .local := by first | exact .inl rfl | exact .inr rfl | assumption) : wpAny M A (storeName X.env x u) Q E s := by
  obtain ⟨m, hn, hl⟩ := id I.loc
  have hcls : (X.env.scope.kind == .class || (X.env.scope.kind == .module && X.env.locals != X.env.globals)) = false := by rw [I.ok.kind]; rfl
  have hiσ : i < σ.length := by rw [I.len]; exact (List.getElem?_eq_some_iff.mp hi).1
  have cne := I.cne
  have tracked : ∀ {a : Addr} {h' : Heap}, (∃ o, s.heap.get? a = some o ∧ H a = none) → Heap.SameBut a s.heap h' → HOk X.prog X.w H h' := fun {a h'} ha hs b ob e => by
    obtain ⟨_, _, hfree⟩ := ha
    refine (I.hok b ob e).stay (fun c w' hc q => (hs.2 c ?_).trans q) (fun _ q => q) fun _ _ q => q
    rintro rfl
    rcases hc with rfl | hc
    · rw [hfree] at e; cases e
    · rw [hfree] at hc; cases hc
  rcases hx with hk | hk
  · refine wpAny_storeName_local hk hn (fun h' hn' hs => ?_) hcls
    obtain ⟨oL, _, _, hoL, _⟩ := id hn
    refine h _ ⟨I.ok, I.os, I.bare, ⟨fun b o e n hb hx => ?_, fun b o e n hb hx => ?_, I.base.free, fun b o e hx => ?_, I.base.tups, I.base.frzs, I.base.tbls⟩, ⟨_, hn', fun j y v' e1 e2 e3 => ?_⟩, fun y c e => ?_, I.free, I.freeC, fun p hp => ?_, tracked ⟨oL, hoL, I.free⟩ hs, by simpa using I.len⟩ ⟨_, hs, .inl rfl⟩
    · exact (hs.2 b (Nat.ne_of_lt (Nat.lt_of_lt_of_le (Heap.lt_size e) I.ok.above))).trans (I.base.keep b o e n hb hx)
    · obtain ⟨sl, e1⟩ := I.base.slot b o e n hb hx
      exact ⟨sl, (hs.2 b (Nat.ne_of_lt (Nat.lt_of_lt_of_le (Heap.lt_size e) I.ok.above))).trans e1⟩
    · obtain ⟨o', e1⟩ := I.base.there b o e hx
      exact ⟨o', (hs.2 b (Nat.ne_of_lt (Nat.lt_of_lt_of_le (Heap.lt_size e) I.ok.above))).trans e1⟩
    · by_cases hj : j = i
      · subst hj
        rw [hi] at e1; cases e1
        rw [List.getElem?_set_self hiσ] at e2
        cases e2
        exact ⟨u, r, .inl ⟨hk, by simp⟩⟩
      · rw [List.getElem?_set_ne (Ne.symm hj)] at e2
        obtain ⟨u', r', q⟩ := hl j y v' e1 e2 e3
        refine ⟨u', r', ?_⟩
        rcases q with ⟨k, e⟩ | ⟨k, c, e, z⟩
        · refine .inl ⟨k, ?_⟩
          have : y ≠ x := fun e => hj (nodup_ix hN e1 (e ▸ hi))
          simp [this, e]
        · exact .inr ⟨k, c, e, z.sameBut hs (cne y c e)⟩
    · obtain ⟨w', z⟩ := I.cell y c e
      exact ⟨w', z.sameBut hs (cne y c e)⟩
    · obtain ⟨e, n, ne, nf, d⟩ := I.pin p hp
      exact ⟨(hs.2 p.1 ne).trans e, n, ne, nf, d⟩
  · have hfn : X.fn x = true := by
      rcases hf with z | z
      · exact z
      · rw [z] at hk; cases hk
    obtain ⟨c, hc⟩ := I.ok.has x (.inl hk)
    obtain ⟨w', z⟩ := I.cell x c hc
    refine wpAny_storeName_cell I.ok.kind hk hc z (fun h' hc' hs => ?_)
    obtain ⟨oc, hoc, hocd⟩ := id z
    refine h { s with heap := h' } ⟨I.ok, I.os, I.bare, ⟨fun b o e n hb hx => ?_, fun b o e n hb hx => ?_, I.base.free, fun b o e hx => ?_, I.base.tups, I.base.frzs, I.base.tbls⟩, ⟨m, hn.sameBut hs (Ne.symm (cne x c hc)), fun j y v' e1 e2 e3 => ?_⟩, fun y c' e => ?_, I.free, I.freeC, fun p hp => ?_, tracked ⟨oc, hoc, I.freeC x c hc⟩ hs, by simpa using I.len⟩ ⟨c, hs, .inr hc⟩
    · exact (hs.2 b (Nat.ne_of_lt (Nat.lt_of_lt_of_le (Heap.lt_size e) (I.ok.cab x c hfn hc)))).trans (I.base.keep b o e n hb hx)
    · obtain ⟨sl, e1⟩ := I.base.slot b o e n hb hx
      exact ⟨sl, (hs.2 b (Nat.ne_of_lt (Nat.lt_of_lt_of_le (Heap.lt_size e) (I.ok.cab x c hfn hc)))).trans e1⟩
    · obtain ⟨o', e1⟩ := I.base.there b o e hx
      exact ⟨o', (hs.2 b (Nat.ne_of_lt (Nat.lt_of_lt_of_le (Heap.lt_size e) (I.ok.cab x c hfn hc)))).trans e1⟩
    · by_cases hj : j = i
      · subst hj
        rw [hi] at e1; cases e1
        rw [List.getElem?_set_self hiσ] at e2
        cases e2
        exact ⟨u, r, .inr ⟨.inl hk, c, hc, hc'⟩⟩
      · rw [List.getElem?_set_ne (Ne.symm hj)] at e2
        obtain ⟨u', r', q⟩ := hl j y v' e1 e2 e3
        refine ⟨u', r', ?_⟩
        rcases q with q | ⟨k, c', e, z'⟩
        · exact .inl q
        · refine .inr ⟨k, c', e, z'.sameBut hs ?_⟩
          rintro rfl
          exact hj (nodup_ix hN e1 (I.ok.inj _ _ _ e hc ▸ hi))
    · by_cases hcc : c' = c
      · subst hcc; exact ⟨_, hc'⟩
      · obtain ⟨w2, z2⟩ := I.cell y c' e
        exact ⟨w2, z2.sameBut hs hcc⟩
    · obtain ⟨e, n, ne, nf, d⟩ := I.pin p hp
      refine ⟨(hs.2 p.1 ?_).trans e, n, ne, nf, d⟩
      intro q
      rw [q, hoc] at e
      have q' : oc = p.2 := Option.some.inj e
      exact d w' (by rw [← q']; exact hocd)
theorem store_ok {M : Model} {A : Around} {E : Value → Shared → Prop} {i : Nat} {x : Str} {v : V} {u : Value} {Q : Unit → Shared → Prop} (I : Inv X pins σ H s) (hN : X.N.Nodup) (hi : X.N[i]? = some x) (hx : Loc X.env.scope x) (r : RelV v u)
    (h : ∀ s', Inv X pins (σ.set i (some v)) H s' → Q () s') (hf : X.fn x = true ∨ X.env.scope.names.lookup x = some .local := by first | exact .inl rfl | exact .inr rfl | assumption) : wpAny M A (storeName X.env x u) Q E s :=
  store_ok2 I hN hi hx r (fun s' I' _ => h s' I') hf
/-- behind a call or a block, the state as it is -/
theorem Inv.call' {s' : Shared} {ch : List Addr} (I : Inv X pins σ H s) (ho : s'.os = s.os) (u : Un (frs X.stack) ch H H' s.heap s'.heap) (hok : HOk X.prog X.w H' s'.heap) (hg : AllBare s'.gens)
    (hch : ∀ b ∈ ch, (b ∈ X.ex ∨ X.s₀.heap.objs.size ≤ b) ∧ b ≠ X.env.locals ∧ (∀ x c, X.env.cells.lookup x = some c → c ≠ b) ∧ ∀ p ∈ X.pn ++ pins, p.1 ≠ b) : Inv X pins σ H' s' := by
  obtain ⟨h', g', d', t', o'⟩ := s'
  have e : o' = s.os := ho
  subst e
  exact I.call (g' := g') (t' := t') (d' := d') u hok hg hch
end

/-- an exception: its class, its own dict's address (where it has one), the abstract heap behind it -/
abbrev XK := Value → Option Addr → Hp → Prop
abbrev St := List (Option V)
abbrev VK := V → Hp → Prop
/-- an expression's reading; a test's; an argument list's -/
abbrev TE := St → Hp → VK → Prop
abbrev TT := St → Hp → (Bool → Hp → Prop) → Prop
abbrev TA := St → Hp → (List V → Hp → Prop) → Prop
/-- what is wanted behind a statement -/
structure Ends where
  nx : St → Hp → Prop
  rt : VK
  bk : St → Hp → Prop := fun _ _ => False
  ct : St → Hp → Prop := fun _ _ => False
abbrev TS := Ends → St → Hp → Prop

def EP (X : Cx) (pins : List (Addr × Obj)) (σ : St) (Q : VK) (u : Value) (s' : Shared) : Prop := ∃ v H', Inv X pins σ H' s' ∧ RelV v u ∧ Q v H'
def TP (X : Cx) (pins : List (Addr × Obj)) (σ : St) (Q : Bool → Hp → Prop) (b : Bool) (s' : Shared) : Prop := ∃ H', Inv X pins σ H' s' ∧ Q b H'
def AP (X : Cx) (pins : List (Addr × Obj)) (σ : St) (Q : List V → Hp → Prop) (us : List Value) (s' : Shared) : Prop := ∃ vs H', Inv X pins σ H' s' ∧ Vals vs us ∧ Q vs H'
def SP (X : Cx) (pins : List (Addr × Obj)) (D : Ends) (f : Flow) (s' : Shared) : Prop :=
  match f with
  | .next => ∃ σ' H', Inv X pins σ' H' s' ∧ D.nx σ' H'
  | .brk => ∃ σ' H', Inv X pins σ' H' s' ∧ D.bk σ' H'
  | .cont => ∃ σ' H', Inv X pins σ' H' s' ∧ D.ct σ' H'
  | .ret u => ∃ v σ' H', Inv X pins σ' H' s' ∧ RelV v u ∧ D.rt v H'

def PE (X : Cx) (e : Expr) (t : TE) : Prop :=
  ∀ (pins : List (Addr × Obj)) (s : Shared) (σ : St) (H : Hp) (Q : VK), Inv X pins σ H s → t σ H Q → wpAny (model X.prog X.w) X.A (eval e X.env) (EP X pins σ Q) X.xe s
def PT (X : Cx) (e : Expr) (t : TT) : Prop :=
  ∀ (pins : List (Addr × Obj)) (s : Shared) (σ : St) (H : Hp) (Q : Bool → Hp → Prop), Inv X pins σ H s → t σ H Q → wpAny (model X.prog X.w) X.A (isTrue e X.env (eval e X.env)) (TP X pins σ Q) X.xe s
/-- a test whatever its 'whole' is (and, or) -/
def PW (X : Cx) (e : Expr) (t : TT) : Prop :=
  ∀ (whole : Sem Value) (pins : List (Addr × Obj)) (s : Shared) (σ : St) (H : Hp) (Q : Bool → Hp → Prop), Inv X pins σ H s → t σ H Q → wpAny (model X.prog X.w) X.A (isTrue e X.env whole) (TP X pins σ Q) X.xe s
theorem PW.pt {X : Cx} {e : Expr} {t : TT} (h : PW X e t) : PT X e t := h _
/-- an argument list (no star), from the left -/
def PA (X : Cx) (es : List Expr) (t : TA) : Prop :=
  ∀ (pos : Pos) (pins : List (Addr × Obj)) (s : Shared) (σ : St) (H : Hp) (Q : List V → Hp → Prop), Inv X pins σ H s → t σ H Q → wpAny (model X.prog X.w) X.A (spliced (backTo pos (starEach es X.env))) (AP X pins σ Q) X.xe s
def PS (X : Cx) (st : Stmt) (t : TS) : Prop :=
  ∀ (pins : List (Addr × Obj)) (s : Shared) (σ : St) (H : Hp) (D : Ends), Inv X pins σ H s → t D σ H → wpAny (model X.prog X.w) X.A (exec st X.env) (SP X pins D) X.xe s
def PSs (X : Cx) (st : List Stmt) (t : TS) : Prop :=
  ∀ (pins : List (Addr × Obj)) (s : Shared) (σ : St) (H : Hp) (D : Ends), Inv X pins σ H s → t D σ H → wpAny (model X.prog X.w) X.A (execs st X.env) (SP X pins D) X.xe s
/-- weaken the end -/
theorem thn {α : Type} {t : Sem α} {Q Q' : α → Shared → Prop} {M : Model} {A : Around} {E : Value → Shared → Prop} {s : Shared} (h : wpAny M A t Q E s) (hQ : ∀ a s, Q a s → Q' a s) : wpAny M A t Q' E s := wpAny_mono h hQ fun _ _ x => x
end L2

namespace L2
open PySem PySem.Spec PyProof.Rows
section
variable {X : Cx}

def tVar (i : Nat) : TE := fun σ H Q => ∃ v, σ[i]? = some (some v) ∧ Q v H
def tC (v : V) : TE := fun _ H Q => Q v H
theorem pe_var {i : Nat} {x : Str} {pos : Pos} (hN : X.N[i]? = some x) (hv : Vis X.env.scope x) (hd : (x == ("__debug__" : Str)) = false := by decide) (hcd : (x == ("__classdict__" : Str)) = false := by decide) : PE X (.Name x pos) (tVar i) := by
  intro pins s σ H Q I h
  obtain ⟨v, e, h⟩ := h
  obtain ⟨m, hn, hl⟩ := I.loc
  obtain ⟨u, r, l⟩ := hl i x v hN e hv
  have fin : EP X pins σ Q u s := ⟨v, H, I, r, h⟩
  rcases l with ⟨hk, hm⟩ | ⟨hk, c, hc, hcell⟩
  · exact wpAny_Name (wpAny_loadName_local I.ok.kind hk hn hm fin) hd
  · rcases hk with hk | hk
    · exact wpAny_Name (wpAny_loadName_cell I.ok.kind hk hc hcell fin) hd
    · exact wpAny_Name (wpAny_loadName_free I.ok.kind hk hc hcell fin hcd) hd
theorem pe_int {i j pos} : PE X (.Constant (.int i) j pos) (tC (.int i)) := fun _ _ _ H _ I h => wpAny_Constant_int ⟨.int i, H, I.tok _, ⟨_, rfl⟩, h⟩
theorem pe_bl {b j pos} : PE X (.Constant (.bool b) j pos) (tC (.bl b)) := fun _ _ _ H _ I h => Constant_bool ⟨.bl b, H, I, rfl, h⟩
theorem pe_non {j pos} : PE X (.Constant .none j pos) (tC .non) := fun _ _ _ H _ I h => Constant_none ⟨.non, H, I, rfl, h⟩
theorem pe_str {x j pos} : PE X (.Constant (.str x) j pos) (tC (.str x)) := fun _ _ _ H _ I h => Calls.Constant_str ⟨.str x, H, I.tok _, ⟨_, rfl⟩, h⟩

/-- a global name of the def -/
def Gl (X : Cx) (x : Str) : Prop := X.env.kindOf x = some .globalImplicit
theorem ld_glob {E : Value → Shared → Prop} {pins : List (Addr × Obj)} {s : Shared} {σ : St} {H : Hp} {x : Str} {u : Value} {pos : Pos} {Q : Value → Shared → Prop} (I : Inv X pins σ H s) (hg : Gl X x) (hm : X.mg x = some u) (h : Q u s)
    (hd : (x == ("__debug__" : Str)) = false := by decide) : wpAny (model X.prog X.w) X.A (eval (.Name x pos) X.env) Q E s :=
  Calls.Name_function_global I.ok.kind hg (Calls.loadGlobal_global (by rw [I.ok.glob]; exact I.mod.glob.keeps I.bk) hm h) hd
theorem ld_blt {E : Value → Shared → Prop} {pins : List (Addr × Obj)} {s : Shared} {σ : St} {H : Hp} {x : Str} {u : Value} {pos : Pos} {Q : Value → Shared → Prop} (I : Inv X pins σ H s) (hg : Gl X x) (hm : X.mg x = none) (hv : bootBuiltins x = some u) (h : Q u s)
    (hn : x ≠ "__name__" := by decide) (hd : (x == ("__debug__" : Str)) = false := by decide) : wpAny (model X.prog X.w) X.A (eval (.Name x pos) X.env) Q E s := by
  obtain ⟨mb, h1, h2⟩ := I.mod.blt
  exact Calls.Name_function_global I.ok.kind hg (Calls.loadGlobal_builtin (by rw [I.ok.glob]; exact I.mod.glob.keeps I.bk) hm (by rw [I.ok.blt]; exact h1.keeps I.bk) ((h2 x hn).trans hv) h) hd
/-- a module's constant, a class, a function, as a value -/
theorem pe_glob {x : Str} {v : V} {u : Value} {pos : Pos} (hg : Gl X x) (hm : X.mg x = some u) (r : RelV v u) (hd : (x == ("__debug__" : Str)) = false := by decide) : PE X (.Name x pos) (tC v) :=
  fun _ _ _ H _ I h => ld_glob I hg hm ⟨v, H, I, r, h⟩ hd
theorem pe_bltn {x : Str} {v : V} {u : Value} {pos : Pos} (hg : Gl X x) (hm : X.mg x = none) (hv : bootBuiltins x = some u) (r : RelV v u) (hn : x ≠ "__name__" := by decide) (hd : (x == ("__debug__" : Str)) = false := by decide) : PE X (.Name x pos) (tC v) :=
  fun _ _ _ H _ I h => ld_blt I hg hm hv ⟨v, H, I, r, h⟩ hn hd

variable {a b : Expr} {ta tb : TE} {pos : Pos}
def PC (X : Cx) (op : CmpOp) (a b : Expr) (t : TE) : Prop :=
  ∀ (pins : List (Addr × Obj)) (s : Shared) (σ : St) (H : Hp) (Q : VK), Inv X pins σ H s → t σ H Q →
    wpAny (model X.prog X.w) X.A (eval a X.env) (fun v s₁ => wpAny (model X.prog X.w) X.A (eval b X.env) (fun u s₂ => wpAny (model X.prog X.w) X.A (compareOp op v u) (EP X pins σ Q) X.xe s₂) X.xe s₁) X.xe s
/-- a comparison as a value, as a test -/
def tB (t : TE) : TT := fun σ H Q => t σ H fun x H1 => ∃ c, x = .bl c ∧ Q c H1
theorem pe_cmp {op : CmpOp} {t : TE} (h : PC X op a b t) (h1 : behindInMarks op b = false := by first | exact nobehind _ (by decide) (by decide) | rfl) : PE X (.Compare a [op] [b] pos) t := fun pins s σ H Q I hw => wpAny_Compare1 (h pins s σ H Q I hw) h1
/-- an expression whose value is a bool, as a test -/
theorem pt_val {e : Expr} {t : TE} (h : PE X e t) (he : ∀ whole, isTrue e X.env whole = (do let v ← whole; standAt e.pos; holding [v] (truthy v)) := by intro _; rfl) : PT X e (tB t) := by
  intro pins s σ H Q I hw
  refine isTrue_plain (thn (h pins s σ H _ I hw) fun v s1 ⟨x, H1, I1, r1, q1⟩ => ?_) (he _)
  obtain ⟨d, rfl, q⟩ := q1
  cases r1
  exact wpAny_truthy_bool ⟨H1, I1, q⟩

variable {tA tB' : TT} {rest : List Expr}
def tAnd (t u : TT) : TT := fun σ H Q => t σ H fun c H1 => if c = true then u σ H1 Q else Q false H1
def tOr (t u : TT) : TT := fun σ H Q => t σ H fun c H1 => if c = true then Q true H1 else u σ H1 Q
def tNot (t : TT) : TT := fun σ H Q => t σ H fun c H1 => Q (!c) H1
theorem pw_and1 (ha : PT X a tA) : PW X (.BoolOp .And [a] pos) tA := by
  intro wh pins s σ H Q I h
  refine isTrue_and (thn (ha pins s σ H Q I h) fun c s1 e => ?_)
  cases c with
  | true => exact isTrue_and_nil e
  | false => exact e
theorem pw_or1 (ha : PT X a tA) : PW X (.BoolOp .Or [a] pos) tA := by
  intro wh pins s σ H Q I h
  refine isTrue_or (thn (ha pins s σ H Q I h) fun c s1 e => ?_)
  cases c with
  | false => exact isTrue_or_nil e
  | true => exact e
theorem pw_and (ha : PT X a tA) (hb : PW X (.BoolOp .And (b :: rest) pos) tB') : PW X (.BoolOp .And (a :: b :: rest) pos) (tAnd tA tB') := by
  intro wh pins s σ H Q I h
  refine isTrue_and (thn (ha pins s σ H _ I h) fun c s1 ⟨H1, I1, q1⟩ => ?_)
  cases c with
  | true => exact hb wh pins s1 σ H1 Q I1 q1
  | false => exact ⟨H1, I1, q1⟩
theorem pw_or (ha : PT X a tA) (hb : PW X (.BoolOp .Or (b :: rest) pos) tB') : PW X (.BoolOp .Or (a :: b :: rest) pos) (tOr tA tB') := by
  intro wh pins s σ H Q I h
  refine isTrue_or (thn (ha pins s σ H _ I h) fun c s1 ⟨H1, I1, q1⟩ => ?_)
  cases c with
  | true => exact ⟨H1, I1, q1⟩
  | false => exact hb wh pins s1 σ H1 Q I1 q1
theorem pt_not (ha : PT X a tA) : PT X (.UnaryOp .Not a pos) (tNot tA) := by
  intro pins s σ H Q I h
  exact isTrue_not (ha pins s σ H (fun c H1 => Q (!c) H1) I h)
/-- .. as values (bools) -/
def tAndV (ta tb : TE) : TE := fun σ H Q => ta σ H fun x H1 => ∃ c, x = .bl c ∧ if c = true then tb σ H1 Q else Q (.bl false) H1
def tOrV (ta tb : TE) : TE := fun σ H Q => ta σ H fun x H1 => ∃ c, x = .bl c ∧ if c = true then Q (.bl true) H1 else tb σ H1 Q
def tNotV (ta : TE) : TE := fun σ H Q => ta σ H fun x H1 => ∃ c, x = .bl c ∧ Q (.bl (!c)) H1
theorem pe_one {op} {t : TE} (h : PE X a t) : PE X (.BoolOp op [a] pos) t := fun pins s σ H Q I hw => BoolOp_one (h pins s σ H Q I hw)
theorem pe_and (ha : PE X a ta) (hb : PE X (.BoolOp .And (b :: rest) pos) tb) : PE X (.BoolOp .And (a :: b :: rest) pos) (tAndV ta tb) := by
  intro pins s σ H Q I h
  refine BoolOp_and (thn (ha pins s σ H _ I h) fun v s1 ⟨x, H1, I1, r1, q1⟩ => ?_)
  obtain ⟨c, rfl, q1⟩ := q1
  cases r1
  refine wpAny_truthy_bool ?_
  cases c with
  | true => exact hb pins s1 σ H1 Q I1 q1
  | false => exact ⟨.bl false, H1, I1, rfl, q1⟩
theorem pe_or (ha : PE X a ta) (hb : PE X (.BoolOp .Or (b :: rest) pos) tb) : PE X (.BoolOp .Or (a :: b :: rest) pos) (tOrV ta tb) := by
  intro pins s σ H Q I h
  refine BoolOp_or (thn (ha pins s σ H _ I h) fun v s1 ⟨x, H1, I1, r1, q1⟩ => ?_)
  obtain ⟨c, rfl, q1⟩ := q1
  cases r1
  refine wpAny_truthy_bool ?_
  cases c with
  | false => exact hb pins s1 σ H1 Q I1 q1
  | true => exact ⟨.bl true, H1, I1, rfl, q1⟩
theorem pe_not (ha : PE X a ta) : PE X (.UnaryOp .Not a pos) (tNotV ta) := by
  intro pins s σ H Q I h
  refine UnaryOp_ (thn (ha pins s σ H _ I h) fun v s1 ⟨x, H1, I1, r1, q1⟩ => ?_)
  obtain ⟨c, rfl, q1⟩ := q1
  cases r1
  exact not_of (wpAny_truthy_bool ⟨.bl (!c), H1, I1, rfl, q1⟩)
end
end L2

namespace L2
open PySem PySem.Spec PyProof.Rows

def SqL (K : PySem.W.Frag) (H : Hp) (a : Addr) (xs : List V) : Prop :=
  Rd H a (.lst xs) ∨
    ∃ (o : Obj) (its : Array Value) (n : Nat), K.lookup a = some o ∧ o.cls = .type "list" ∧ o.dict = none ∧ o.data = .seq its n ∧ its.size ≤ sizeLine ∧ Vals xs its.toList
def SqT (K : PySem.W.Frag) (H : Hp) (a : Addr) (xs : List V) : Prop :=
  Rd H a (.tup xs) ∨
    ∃ (o : Obj) (its : Array Value) (n : Nat), K.lookup a = some o ∧ o.cls = .type "tuple" ∧ o.data = .seq its n ∧ its.size ≤ sizeLine ∧ Vals xs its.toList
def absV : Value → Option V
  | .none => some .non
  | .bool b => some (.bl b)
  | .int i _ => some (.int i)
  | .str x _ => some (.str x)
  | .bytes b _ => some (.byt b)
  | .float b _ => some (.flt b)
  | .ref a => some (.ref a)
  | .type n => some (.ty n)
  | _ => none
theorem RelV.abs {x : V} {u : Value} (r : RelV x u) : absV u = some x := by
  cases x with
  | non => cases r; rfl
  | bl _ => cases r; rfl
  | int _ => obtain ⟨t, rfl⟩ := r; rfl
  | str _ => obtain ⟨t, rfl⟩ := r; rfl
  | byt _ => obtain ⟨t, rfl⟩ := r; rfl
  | flt _ => obtain ⟨t, rfl⟩ := r; rfl
  | ref _ => cases r; rfl
  | ty _ => cases r; rfl
theorem RelV.inj {x y : V} {u : Value} (r : RelV x u) (q : RelV y u) : x = y := Option.some.inj (r.abs.symm.trans q.abs)
theorem Vals.inj : ∀ {xs ys : List V} {us : List Value}, Vals xs us → Vals ys us → xs = ys
  | _, _, _, .nil, .nil => rfl
  | _, _, _, .cons r t, .cons r' t' => by rw [r.inj r', Vals.inj t t']
section
variable {X : Cx} {pins : List (Addr × Obj)} {σ : St} {H : Hp} {s : Shared} {a : Addr} {xs ys : List V}
theorem SqL.of {K : PySem.W.Frag} (h : H a = some (.lst xs)) : SqL K H a xs := .inl (.inl h)
theorem SqT.of {K : PySem.W.Frag} (h : H a = some (.tup xs)) : SqT K H a xs := .inl (.inl h)
theorem Inv.list (I : Inv X pins σ H s) (h : SqL X.K H a xs) : ∃ its : List Value, Vals xs its ∧ PlainL s.heap a its.toArray ∧ xs.length ≤ sizeLine := by
  rcases h with h | ⟨o, its, n, hk, hc, hd, hs, hz, r⟩
  · obtain ⟨z, its, n, r, e⟩ := h.ok I.hok
    exact ⟨its, r, ⟨_, n, e, rfl, rfl, rfl⟩, z⟩
  · refine ⟨its.toList, r, ⟨o, n, I.kIn a o hk, hc, hd, by simpa using hs⟩, ?_⟩
    have e := r.length
    simp only [Array.length_toList] at e
    omega
theorem Inv.tuple (I : Inv X pins σ H s) (h : SqT X.K H a xs) : ∃ its : List Value, Vals xs its ∧ IsTup s.heap a its.toArray ∧ xs.length ≤ sizeLine := by
  rcases h with h | ⟨o, its, n, hk, hc, hs, hz, r⟩
  · obtain ⟨z, its, r, p⟩ := h.ok I.hok
    exact ⟨its, r, p, z.1⟩
  · refine ⟨its.toList, r, ⟨o, I.kIn a o hk, hc, n, by simpa using hs⟩, ?_⟩
    have e := r.length
    simp only [Array.length_toList] at e
    omega
theorem Inv.list_inj (I : Inv X pins σ H s) (h : SqL X.K H a xs) (h' : SqL X.K H a ys) : xs = ys := by
  obtain ⟨its, r, ⟨o, n, e, _, _, d⟩, _⟩ := I.list h
  obtain ⟨its', r', ⟨o', n', e', _, _, d'⟩, _⟩ := I.list h'
  rw [e] at e'; cases e'
  rw [d] at d'
  injection d' with d1 _
  have : its = its' := by simpa using congrArg Array.toList d1
  subst this
  exact r.inj r'
theorem Inv.tuple_inj (I : Inv X pins σ H s) (h : SqT X.K H a xs) (h' : SqT X.K H a ys) : xs = ys := by
  obtain ⟨its, r, ⟨o, e, _, n, d⟩, _⟩ := I.tuple h
  obtain ⟨its', r', ⟨o', e', _, n', d'⟩, _⟩ := I.tuple h'
  rw [e] at e'; cases e'
  rw [d] at d'
  injection d' with d1 _
  have : its = its' := by simpa using congrArg Array.toList d1
  subst this
  exact r.inj r'
end

abbrev Cx.wish (X : Cx) (E : Value → Shared → Prop) : Cx := { X with xe := E }
/-- no exception leaves -/
abbrev Cx.nox (X : Cx) : Cx := X.wish fun _ _ => False
theorem Cx.Ok.wish {X : Cx} (ok : X.Ok) (E : Value → Shared → Prop) : (X.wish E).Ok :=
  ⟨ok.mod, ok.kind, ok.glob, ok.blt, ok.above, ok.inj, ok.has, ok.cab, ok.hd, ok.frames, ok.stk, ok.exf, ok.bs, ok.bsz, ok.noex, ok.exfs, ok.funs, ok.frf⟩
theorem Cx.Ok.unwish {X : Cx} {E : Value → Shared → Prop} (ok : (X.wish E).Ok) : X.Ok :=
  ⟨ok.mod, ok.kind, ok.glob, ok.blt, ok.above, ok.inj, ok.has, ok.cab, ok.hd, ok.frames, ok.stk, ok.exf, ok.bs, ok.bsz, ok.noex, ok.exfs, ok.funs, ok.frf⟩
section
variable {X : Cx} {pins : List (Addr × Obj)} {σ : St} {H : Hp} {s : Shared} {E : Value → Shared → Prop}
theorem Inv.wish (I : Inv X pins σ H s) (E : Value → Shared → Prop) : Inv (X.wish E) pins σ H s := ⟨I.ok.wish E, I.os, I.bare, I.base, I.loc, I.cell, I.free, I.freeC, I.pin, I.hok, I.len⟩
theorem Inv.unwish (I : Inv (X.wish E) pins σ H s) : Inv X pins σ H s := ⟨I.ok.unwish, I.os, I.bare, I.base, I.loc, I.cell, I.free, I.freeC, I.pin, I.hok, I.len⟩
theorem SP.unwish {D : Ends} {f : Flow} {s' : Shared} (h : SP (X.wish E) pins D f s') : SP X pins D f s' := by
  cases f with
  | next => obtain ⟨σ', H', I, q⟩ := h; exact ⟨σ', H', I.unwish, q⟩
  | brk => obtain ⟨σ', H', I, q⟩ := h; exact ⟨σ', H', I.unwish, q⟩
  | cont => obtain ⟨σ', H', I, q⟩ := h; exact ⟨σ', H', I.unwish, q⟩
  | ret u => obtain ⟨v, σ', H', I, r, q⟩ := h; exact ⟨v, σ', H', I.unwish, r, q⟩
theorem PSs.nox {st : List Stmt} {t : TS} (h : PSs X.nox st t) : PSs X st t := fun pins s σ H D I hw =>
  wpAny_mono (h pins s σ H D (I.wish _) hw) (fun _ _ q => q.unwish) fun _ _ z => False.elim z
end

section
variable {X : Cx} {st : Stmt} {rest : List Stmt} {t u : TS} {e : Expr} {te : TE} {pos : Pos}
def tNext : TS := fun D σ H => D.nx σ H
def tSeq (t u : TS) : TS := fun D σ H => t { D with nx := u D } σ H
theorem pss_nil : PSs X [] tNext := fun _ _ σ H _ I h => wpAny_execs_nil ⟨σ, H, I, h⟩
theorem pss_cons (h1 : PS X st t) (h2 : PSs X rest u) : PSs X (st :: rest) (tSeq t u) := by
  intro pins s σ H D I h
  refine wpAny_execs_cons (thn (h1 pins s σ H { D with nx := u D } I h) fun f s1 q => ?_)
  cases f with
  | next =>
    obtain ⟨σ', H', I', q⟩ := q
    exact h2 pins s1 σ' H' D I' q
  | ret v => exact q
  | brk => exact q
  | cont => exact q
theorem pss_one (h1 : PS X st t) : PSs X [st] t := by
  intro pins s σ H D I h
  refine wpAny_execs_cons (thn (h1 pins s σ H D I h) fun f s1 q => ?_)
  cases f with
  | next => exact wpAny_execs_nil q
  | ret v => exact q
  | brk => exact q
  | cont => exact q
/-- in a def's body nothing is shown -/
theorem Inv.quiet {pins : List (Addr × Obj)} {σ : St} {H : Hp} {s : Shared} (I : Inv X pins σ H s) : interactive X.env = false := by simp [interactive, I.ok.kind]
/-- an expression whose value is dropped -/
def tDrop (te : TE) : TS := fun D σ H => te σ H fun _ H1 => D.nx σ H1
theorem ps_expr (he : PE X e te) (hs : swapsWith e none pos.line X.env = pure false := by rfl) : PS X (.Expr e pos) (tDrop te) := by
  intro pins s σ H D I h
  exact wpAny_Expr_any (thn (he pins s σ H _ I h) fun v s1 ⟨x, H1, I1, r1, q1⟩ => ⟨σ, H1, I1, q1⟩) I.quiet hs
def tRet (te : TE) : TS := fun D σ H => te σ H D.rt
theorem ps_ret (he : PE X e te) : PS X (.Return (some e) pos) (tRet te) := by
  intro pins s σ H D I h
  exact wpAny_Return_some (thn (he pins s σ H _ I h) fun v s1 ⟨x, H1, I1, r1, q1⟩ => ⟨x, σ, H1, I1, r1, q1⟩)
def tIfS (c : TT) (t u : TS) : TS := fun D σ H => c σ H fun b H1 => if b = true then t D σ H1 else u D σ H1
theorem ps_if {c : Expr} {a b : List Stmt} {tc : TT} (hc : PT X c tc) (ha : PSs X a t) (hb : PSs X b u) : PS X (.If c a b pos) (tIfS tc t u) := by
  intro pins s σ H D I h
  refine wpAny_If (thn (hc pins s σ H _ I h) fun d s1 ⟨H1, I1, q1⟩ => ?_)
  cases d with
  | true => exact ha pins s1 σ H1 D I1 q1
  | false => exact hb pins s1 σ H1 D I1 q1
end

abbrev TG := V → St → Hp → (St → Hp → Prop) → Prop
abbrev TGs := List V → St → Hp → (St → Hp → Prop) → Prop
def PG (X : Cx) (target : Expr) (t : TG) : Prop :=
  ∀ (pins : List (Addr × Obj)) (s : Shared) (σ : St) (H : Hp) (v : V) (u : Value) (Q : St → Hp → Prop), Inv X pins σ H s → RelV v u → t v σ H Q →
    wpAny (model X.prog X.w) X.A (assign target X.env u) (fun _ s' => ∃ σ' H', Inv X pins σ' H' s' ∧ Q σ' H') X.xe s
/-- several targets, one after another -/
def PGs (X : Cx) (ts : List Expr) (t : TGs) : Prop :=
  ∀ (pins : List (Addr × Obj)) (s : Shared) (σ : St) (H : Hp) (vs : List V) (us : List Value) (Q : St → Hp → Prop), Inv X pins σ H s → Vals vs us → t vs σ H Q →
    wpAny (model X.prog X.w) X.A (assignInOrder ((assignEach ts X.env).map (·.2)) us) (fun _ s' => ∃ σ' H', Inv X pins σ' H' s' ∧ Q σ' H') X.xe s
/-- o[i] = v, by values -/
abbrev TSet := V → V → V → Hp → (Hp → Prop) → Prop
def PSet (X : Cx) (t : TSet) : Prop :=
  ∀ (pins : List (Addr × Obj)) (s : Shared) (σ : St) (H : Hp) (o i v : V) (ov iv u : Value) (Q : Hp → Prop), Inv X pins σ H s → RelV o ov → RelV i iv → RelV v u → t o i v H Q →
    wpAny (model X.prog X.w) X.A (setItem ov iv u) (fun _ s' => ∃ H', Inv X pins σ H' s' ∧ Q H') X.xe s
/-- a op= b, by values -/
abbrev TIp := V → V → Hp → VK → Prop
def PIp (X : Cx) (op : Operator) (t : TIp) : Prop :=
  ∀ (pins : List (Addr × Obj)) (s : Shared) (σ : St) (H : Hp) (x y : V) (v u : Value) (Q : VK), Inv X pins σ H s → RelV x v → RelV y u → t x y H Q →
    wpAny (model X.prog X.w) X.A (inplaceOp op v u) (EP X pins σ Q) X.xe s
section
variable {X : Cx} {pos : Pos}
def gName (i : Nat) : TG := fun v σ H Q => Q (σ.set i (some v)) H
theorem pg_name {i : Nat} {x : Str} (hN : X.N.Nodup) (hi : X.N[i]? = some x) (hx : Loc X.env.scope x) (hf : X.fn x = true ∨ X.env.scope.names.lookup x = some .local := by first | exact .inl rfl | exact .inr rfl | assumption) : PG X (.Name x pos) (gName i) := by
  intro pins s σ H v u Q I r h
  exact wpAny_assign_Name (store_ok I hN hi hx r (fun s' I' => ⟨_, H, I', h⟩) hf)
def gNil : TGs := fun vs σ H Q => vs = [] ∧ Q σ H
def gCons (t : TG) (u : TGs) : TGs := fun vs σ H Q => ∃ v r, vs = v :: r ∧ t v σ H fun σ' H' => u r σ' H' Q
theorem pgs_nil : PGs X [] gNil := by
  intro pins s σ H vs us Q I r h
  obtain ⟨e, h⟩ := h
  subst e
  cases r
  exact assignInOrder_nil ⟨σ, H, I, h⟩
theorem pgs_cons {e : Expr} {es : List Expr} {t : TG} {u : TGs} (h1 : PG X e t) (h2 : PGs X es u)
    (hs : (assignEach (e :: es) X.env).map (·.2) = assign e X.env :: (assignEach es X.env).map (·.2) := by rfl) : PGs X (e :: es) (gCons t u) := by
  intro pins s σ H vs us Q I r h
  obtain ⟨v, vr, e1, h⟩ := h
  subst e1
  cases r with
  | cons r rr =>
    rw [hs]
    refine assignInOrder_cons (thn (h1 pins s σ H _ _ _ I r h) fun _ s1 ⟨σ1, H1, I1, q1⟩ => ?_)
    exact h2 pins s1 σ1 H1 _ _ Q I1 rr q1
/-- (a, b, ..) = a tuple of that length -/
def gTup (K : PySem.W.Frag) (n : Nat) (t : TGs) : TG := fun v σ H Q => ∃ a xs, v = .ref a ∧ SqT K H a xs ∧ xs.length = n ∧ t xs σ H Q
theorem pg_tup {es : List Expr} {k : Nat} {t : TGs} {n : Nat} (hc : X.calm = true) (h : PGs X es t)
    (hn : (assignEach es X.env).length = n := by rfl) (hst : (assignEach es X.env).findIdx? (·.1) = none := by rfl) : PG X (.Tuple es k pos) (gTup X.K n t) := by
  intro pins s σ H v u Q I r hw
  obtain ⟨a, xs, e1, hq, hl, hw⟩ := hw
  subst e1
  cases r
  obtain ⟨its, rv, ht, hz⟩ := I.tuple hq
  refine assign_Tuple_tuple (I.ok.hd hc) ht (by simp [hn, ← hl, rv.length]) hst fun h' hx => ?_
  have I1 : Inv X pins σ H { s with heap := h' } := I.kept (t' := s.toks) fun b o e => hx b o (Nat.ne_of_lt (Heap.lt_size e)) e
  exact h pins _ σ H xs _ Q I1 (by simpa using rv) hw
/-- target = value -/
def tAsg (te : TE) (g : TG) : TS := fun D σ H => te σ H fun x H1 => g x σ H1 D.nx
theorem ps_asg {tg e : Expr} {te : TE} {g : TG} (he : PE X e te) (hg : PG X tg g) (hs : swapsWithSole [tg] e pos.line X.env = pure false := by rfl) (hw : swappedStores [tg] e X.env = pure none := by rfl)
    (h1 : (assignEach [tg] X.env).map (·.2) = [assign tg X.env] := by rfl) : PS X (.Assign [tg] e pos) (tAsg te g) := by
  intro pins s σ H D I h
  refine wpAny_Assign_stores (thn (he pins s σ H _ I h) fun v s1 ⟨x, H1, I1, r1, q1⟩ => ?_) hs hw
  rw [h1]
  exact thn (hg pins s1 σ H1 x v _ I1 r1 q1) fun _ s2 q => q
/-- name = value -/
theorem ps_set {i : Nat} {x : Str} {e : Expr} {te : TE} {pos' : Pos} (hN : X.N.Nodup) (hi : X.N[i]? = some x) (hx : Loc X.env.scope x) (he : PE X e te) (hs : swapsWith e (some (.Name x pos')) pos.line X.env = pure false := by rfl) (hf : X.fn x = true ∨ X.env.scope.names.lookup x = some .local := by first | exact .inl rfl | exact .inr rfl | assumption) :
    PS X (.Assign [.Name x pos'] e pos) (tAsg te (gName i)) := by
  intro pins s σ H D I h
  refine wpAny_Assign_Name (thn (he pins s σ H _ I h) fun v s1 ⟨y, H1, I1, r1, q1⟩ => ?_) hs
  exact store_ok I1 hN hi hx r1 (fun s2 I2 => ⟨_, H1, I2, q1⟩) hf
/-- name op= e -/
def tAug (i : Nat) (te : TE) (ti : TIp) : TS := fun D σ H => ∃ x, σ[i]? = some (some x) ∧ te σ H fun y H1 => ti x y H1 fun z H2 => D.nx (σ.set i (some z)) H2
theorem ps_aug {i : Nat} {x : Str} {e : Expr} {te : TE} {op : Operator} {ti : TIp} {pos' : Pos} (hN : X.N.Nodup) (hi : X.N[i]? = some x) (hx : Loc X.env.scope x) (he : PE X e te) (ho : PIp X op ti) (hf : X.fn x = true ∨ X.env.scope.names.lookup x = some .local := by first | exact .inl rfl | exact .inr rfl | assumption) :
    PS X (.AugAssign (.Name x pos') op e pos) (tAug i te ti) := by
  intro pins s σ H D I h
  obtain ⟨v, e1, h⟩ := h
  obtain ⟨m, hn, hl⟩ := I.loc
  have vis : Vis X.env.scope x := by rcases hx with k | k; exact .inl k; exact .inr (.inl k)
  obtain ⟨u, r, l⟩ := hl i x v hi e1 vis
  refine wpAny_AugAssign_Name ?_
  have go : wpAny (model X.prog X.w) X.A (eval e X.env) (fun w s₂ => wpAny (model X.prog X.w) X.A (inplaceOp op u w) (fun r s₃ => wpAny (model X.prog X.w) X.A (storeName X.env x r) (fun _ => SP X pins D .next) X.xe s₃) X.xe s₂) X.xe s := by
    refine thn (he pins s σ H _ I h) fun w s1 ⟨y, H1, I1, r1, q1⟩ => ?_
    refine thn (ho pins s1 σ H1 v y u w _ I1 r r1 q1) fun z s2 ⟨zv, H2, I2, r2, q2⟩ => ?_
    exact store_ok I2 hN hi hx r2 (fun s3 I3 => ⟨_, H2, I3, q2⟩) hf
  rcases l with ⟨hk, hm⟩ | ⟨hk, c, hc, hcell⟩
  · exact wpAny_loadName_local I.ok.kind hk hn hm go
  · rcases hk with hk | hk
    · exact wpAny_loadName_cell I.ok.kind hk hc hcell go
    · rcases hx with k | k
      · have : X.env.scope.names.lookup x = some .free := hk
        rw [k] at this; cases this
      · have : X.env.scope.names.lookup x = some .free := hk
        rw [k] at this; cases this
/-- ints -/
def ipI (f : Int → Int → Int) : TIp := fun x y H Q => ∃ i j, x = .int i ∧ y = .int j ∧ Q (.int (f i j)) H
theorem ip_add : PIp X .Add (ipI fun i j => i + j) := by
  intro pins s σ H x y v u Q I r1 r2 h
  obtain ⟨i, j, e1, e2, q⟩ := h
  subst e1; subst e2
  obtain ⟨t, rfl⟩ := r1
  obtain ⟨t', rfl⟩ := r2
  exact iadd_int ⟨.int _, H, I.tok _, ⟨_, rfl⟩, q⟩
end

section
variable {X : Cx} {pos : Pos}
/-- the invariant W with its measure -/
def tWhile (c : TT) (tb : TS) : TS := fun D σ H => ∃ W : Nat → St → Hp → Prop, (∃ m, W m σ H) ∧ ∀ m σ H, W m σ H →
  c σ H fun b H1 => if b = true then ∃ N : St → Hp → Prop, (∀ σ' H', N σ' H' → ∃ m', m' < m ∧ W m' σ' H') ∧ tb { D with nx := N, ct := N, bk := D.nx } σ H1 else D.nx σ H1
theorem ps_while {c : Expr} {body : List Stmt} {tc : TT} {tb : TS} (hp : PassesOwn (model X.prog X.w) X.A X.env X.xe) (hc : PT X c tc) (hb : PSs X body tb) : PS X (.While c body [] pos) (tWhile tc tb) := by
  intro pins s σ H D I h
  obtain ⟨W, ⟨m0, w0⟩, turn⟩ := h
  refine wpAny_While (codeAny_whileLoop (fun n s' => ∃ σ' H', Inv X pins σ' H' s' ∧ W n σ' H') ?_ m0 ⟨σ, H, I, w0⟩)
  rintro n s1 ⟨σ1, H1, I1, w1⟩
  refine wpAny_passesOwn hp (thn (hc pins s1 σ1 H1 _ I1 (turn n σ1 H1 w1)) fun b s2 ⟨H2, I2, q2⟩ => ?_)
  cases b with
  | true =>
    obtain ⟨N, hN, q2⟩ := q2
    rw [if_pos rfl]
    refine wpAny_passesOwn hp (thn (hb pins s2 σ1 H2 _ I2 q2) fun f s3 q3 => ?_)
    cases f with
    | next =>
      obtain ⟨σ3, H3, I3, n3⟩ := q3
      obtain ⟨m', hm, w3⟩ := hN σ3 H3 n3
      exact ⟨m', hm, σ3, H3, I3, w3⟩
    | cont =>
      obtain ⟨σ3, H3, I3, n3⟩ := q3
      obtain ⟨m', hm, w3⟩ := hN σ3 H3 n3
      exact ⟨m', hm, σ3, H3, I3, w3⟩
    | brk => exact q3
    | ret v => exact q3
  | false =>
    rw [if_neg Bool.false_ne_true]
    exact wpAny_execs_nil ⟨σ1, H2, I2, q2⟩
end

/-- at turn i: it yields x (the heap may grow), or it stops -/
structure It where
  go : Nat → Hp → Prop
  yld : Nat → Hp → V → Hp → Prop
  stop : Nat → Hp → Prop
/-- the iterator's own objects may turn: they are not the frame's, not pinned, younger than the entry (or a comprehension's own) -/
def FpOk (X : Cx) (pins : List (Addr × Obj)) (H : Hp) (b : Addr) : Prop :=
  H b = none ∧ b ≠ X.env.locals ∧ b ∉ X.fs ∧ (b ∈ X.ex ∨ X.s₀.heap.objs.size ≤ b) ∧ (∀ x c, X.env.cells.lookup x = some c → c ≠ b) ∧ ∀ p ∈ X.pn ++ pins, p.1 ≠ b
theorem Inv.fpOk {X : Cx} {pins : List (Addr × Obj)} {σ : St} {H H' : Hp} {s : Shared} {b : Addr} (I : Inv X pins σ H s) (hb : s.heap.objs.size ≤ b) (hn : H' b = none) : FpOk X pins H' b := by
  refine ⟨hn, Nat.ne_of_gt (Nat.lt_of_lt_of_le I.lt hb), I.nofs hb, .inr (Nat.le_trans I.sz hb), fun x c e z => ?_, fun p hp z => ?_⟩
  · obtain ⟨v, q⟩ := I.cell x c e
    exact absurd (Nat.lt_of_lt_of_le q.lt (by rw [z]; exact hb)) (Nat.lt_irrefl _)
  · exact absurd (Nat.lt_of_lt_of_le (Heap.lt_size (I.pin p hp).1) (by rw [z]; exact hb)) (Nat.lt_irrefl _)
structure Turn (P : Program) (w : World) (K : PySem.W.Frag) (tg : Expr) (J : It) (fp : List Addr) (it : Addr) (tn : Nat → Heap → Prop) : Prop where
  mem : it ∈ fp
  obj : ∀ i h, tn i h → ∀ b ∈ fp, ∃ o, h.get? b = some o ∧ ∀ v, o.data ≠ .cell v
  keep : ∀ i h h', tn i h → (∀ b ∈ fp, ∀ o, h.get? b = some o → h'.get? b = some o) → tn i h'
  item : ∀ (X : Cx), X.prog = P → X.w = w → X.K = K → X.calm = true → ∀ (i : Nat) (pins : List (Addr × Obj)) (s : Shared) (σ : St) (H : Hp) (E : Value → Shared → Prop), Inv X pins σ H s → (∀ b ∈ fp, FpOk X pins H b) → tn i s.heap → J.go i H →
    wpAny (model P w) X.A (pyNext (.ref it)) (fun r s1 => ∃ u, r = some u ∧
      wpAny (model P w) X.A (letOwnedTupleGo tg (.ref it) u) (fun _ s2 => ∃ x H', Inv X pins σ H' s2 ∧ RelV x u ∧ J.yld i H x H' ∧ tn (i + 1) s2.heap ∧ ∀ b ∈ fp, H' b = none) E s1) E s
  done : ∀ (X : Cx), X.prog = P → X.w = w → X.K = K → X.calm = true → ∀ (i : Nat) (pins : List (Addr × Obj)) (s : Shared) (σ : St) (H : Hp) (E : Value → Shared → Prop), Inv X pins σ H s → (∀ b ∈ fp, FpOk X pins H b) → tn i s.heap → J.stop i H →
    wpAny (model P w) X.A (pyNext (.ref it)) (fun r s1 => r = none ∧ Inv X pins σ H s1) E s
  self : ∀ (A : Around) (i : Nat) (s : Shared) (Q : Value → Shared → Prop) (E : Value → Shared → Prop), tn i s.heap → Q (.ref it) s → wpAny (model P w) A (pyIter (.ref it)) Q E s
abbrev TI := St → Hp → (It → Hp → Prop) → Prop
/-- an iterator has come -/
def PIE (X : Cx) (pins : List (Addr × Obj)) (σ : St) (tg : Expr) (R : It → Hp → Prop) (itv : Value) (s2 : Shared) : Prop :=
  ∃ (it : Addr) (fp : List Addr) (tn : Nat → Heap → Prop) (J : It) (H' : Hp), itv = .ref it ∧ Inv X pins σ H' s2 ∧ Turn X.prog X.w X.K tg J fp it tn ∧ tn 0 s2.heap ∧ (∀ b ∈ fp, FpOk X pins H' b) ∧ R J H'
def PI (X : Cx) (tg iter : Expr) (wi : TI) : Prop :=
  ∀ (pins : List (Addr × Obj)) (s : Shared) (σ : St) (H : Hp) (R : It → Hp → Prop), Inv X pins σ H s → wi σ H R →
    wpAny (model X.prog X.w) X.A (eval iter X.env) (fun v s1 => wpAny (model X.prog X.w) X.A (pyIter v) (PIE X pins σ tg R) X.xe s1) X.xe s

/-- the step ahead of the store is nothing for an iterator that keeps no tuple -/
theorem go_of {M : Model} {A : Around} {E : Value → Shared → Prop} {s : Shared} {tg : Expr} {it : Addr} {u : Value} {o : Obj} {n : String} {vs : Array Value} {Q : Unit → Shared → Prop} (ho : s.heap.get? it = some o) (hc : o.cls = .type n) (hd : o.data = .fields vs)
    (hn : ["enumerate", "zip", "dict_itemiterator", "dict_reverseitemiterator", "odict_iterator", "itertools.zip_longest", "itertools.pairwise"].contains n = false) (hQ : Q () s) : wpAny M A (letOwnedTupleGo tg (.ref it) u) Q E s := by
  unfold letOwnedTupleGo
  cases tg <;> first
    | exact wpAny_pure hQ
    | (cases u <;> first
        | exact wpAny_pure hQ
        | (refine wpAny_bind (wpAny_load ho ?_)
           rw [hc, hd]
           show wpAny M A (if (["enumerate", "zip", "dict_itemiterator", "dict_reverseitemiterator", "odict_iterator", "itertools.zip_longest", "itertools.pairwise"].contains n && vs[0]? == some (rawInt _)) = true then _ else _) Q E s
           rw [if_neg (by intro h; rw [hn, Bool.false_and] at h; cases h)]
           exact wpAny_pure hQ))

/-- the list at a, as it stands at each turn (a loop may append to it) -/
def Itl (K : PySem.W.Frag) (a : Addr) : It :=
  ⟨fun i H => ∃ xs x, SqL K H a xs ∧ xs[i]? = some x, fun i H x H' => H' = H ∧ ∀ xs, SqL K H a xs → xs[i]? = some x, fun i H => ∃ xs, SqL K H a xs ∧ xs.length ≤ i⟩
def Itt (K : PySem.W.Frag) (a : Addr) : It :=
  ⟨fun i H => ∃ xs x, SqT K H a xs ∧ xs[i]? = some x, fun i H x H' => H' = H ∧ ∀ xs, SqT K H a xs → xs[i]? = some x, fun i H => ∃ xs, SqT K H a xs ∧ xs.length ≤ i⟩
/-- lo, lo + 1, .. (n of them) -/
def Itr (lo : Int) (n : Nat) : It := ⟨fun i _ => i < n, fun i H x H' => H' = H ∧ x = .int (lo + i), fun i _ => n ≤ i⟩
theorem turn_list {P : Program} {w : World} {K : PySem.W.Frag} {tg : Expr} (a it : Addr) : Turn P w K tg (Itl K a) [it] it (fun i h => h.IsListIter it a i) where
  mem := by simp
  obj := fun i h st b hb => by
    have e : b = it := by simpa using hb
    subst e
    obtain ⟨o, e, c, d⟩ := st
    exact ⟨o, e, fun v z => by rw [d] at z; cases z⟩
  keep := fun i h h' st k => st.at fun o e => k it (by simp) o e
  item := by
    intro X hP hw hK hc i pins s σ H E I hf st hg
    subst hP hw hK
    obtain ⟨xs, x, hq, hx⟩ := hg
    obtain ⟨its, rv, p, hz⟩ := I.list hq
    obtain ⟨u, hu, ru⟩ := rv.get hx
    obtain ⟨f0, f1, f2, f3, f4, f5⟩ := hf it (by simp)
    refine wpAny_pyNext_list_item st p.isList (x := u) (by simpa using hu) fun h' st' sb => ?_
    have I1 : Inv X pins σ H { s with heap := h' } := I.turned (t' := s.toks) (fun b o hb e => (sb.2 b hb).trans e) f0 f1 f3 f4 f5
    obtain ⟨o, e, c, d⟩ := id st'
    exact ⟨u, rfl, go_of (s := { s with heap := h' }) e c d (by decide) ⟨x, H, I1, ru, ⟨rfl, fun ys hy => by rw [I.list_inj hy hq]; exact hx⟩, st', fun b hb => (hf b hb).1⟩⟩
  done := by
    intro X hP hw hK hc i pins s σ H E I hf st hg
    subst hP hw hK
    obtain ⟨xs, hq, hx⟩ := hg
    obtain ⟨its, rv, p, hz⟩ := I.list hq
    obtain ⟨f0, f1, f2, f3, f4, f5⟩ := hf it (by simp)
    have hl := rv.length
    exact wpAny_pyNext_list_end (I.ok.hd hc) st p.isList (by simp; omega) fun h' eb => ⟨rfl, I.turned (t' := s.toks) (fun b o hb e => eb b o hb e) f0 f1 f3 f4 f5⟩
  self := fun _ _ _ _ _ st h => wpAny_pyIter_listiter st h
theorem turn_tuple {P : Program} {w : World} {K : PySem.W.Frag} {tg : Expr} (a it : Addr) : Turn P w K tg (Itt K a) [it] it (fun i h => h.IsTupleIter it a i) where
  mem := by simp
  obj := fun i h st b hb => by
    have e : b = it := by simpa using hb
    subst e
    obtain ⟨o, e, c, d⟩ := st
    exact ⟨o, e, fun v z => by rw [d] at z; cases z⟩
  keep := fun i h h' st k => st.at fun o e => k it (by simp) o e
  item := by
    intro X hP hw hK hc i pins s σ H E I hf st hg
    subst hP hw hK
    obtain ⟨xs, x, hq, hx⟩ := hg
    obtain ⟨its, rv, p, hz⟩ := I.tuple hq
    obtain ⟨u, hu, ru⟩ := rv.get hx
    obtain ⟨f0, f1, f2, f3, f4, f5⟩ := hf it (by simp)
    refine wpAny_pyNext_tuple_item st (show s.heap.IsTuple a its.toArray from p) (x := u) (by simpa using hu) fun h' st' sb => ?_
    have I1 : Inv X pins σ H { s with heap := h' } := I.turned (t' := s.toks) (fun b o hb e => (sb.2 b hb).trans e) f0 f1 f3 f4 f5
    obtain ⟨o, e, c, d⟩ := id st'
    exact ⟨u, rfl, go_of (s := { s with heap := h' }) e c d (by decide) ⟨x, H, I1, ru, ⟨rfl, fun ys hy => by rw [I.tuple_inj hy hq]; exact hx⟩, st', fun b hb => (hf b hb).1⟩⟩
  done := by
    intro X hP hw hK hc i pins s σ H E I hf st hg
    subst hP hw hK
    obtain ⟨xs, hq, hx⟩ := hg
    obtain ⟨its, rv, p, hz⟩ := I.tuple hq
    obtain ⟨f0, f1, f2, f3, f4, f5⟩ := hf it (by simp)
    have hl := rv.length
    exact wpAny_pyNext_tuple_end (I.ok.hd hc) st (show s.heap.IsTuple a its.toArray from p) (by simp; omega) fun h' eb => ⟨rfl, I.turned (t' := s.toks) (fun b o hb e => eb b o hb e) f0 f1 f3 f4 f5⟩
  self := fun _ _ _ _ _ st h => wpAny_pyIter_tupleiter st h
theorem turn_range {P : Program} {w : World} {K : PySem.W.Frag} {tg : Expr} (it : Addr) (lo : Int) (n : Nat) : Turn P w K tg (Itr lo n) [it] it (fun i h => IsRangeIter h it (lo + (i : Nat) * 1) ((n : Int) - (i : Nat)) 1) where
  mem := by simp
  obj := fun i h st b hb => by
    have e : b = it := by simpa using hb
    subst e
    exact ⟨_, st, fun v z => by
      have z' : Data.fields _ = Data.cell v := z
      cases z'⟩
  keep := fun i h h' st k => k it (by simp) _ st
  item := by
    intro X hP hw hK hc i pins s σ H E I hf st hg
    subst hP hw hK
    obtain ⟨f0, f1, f2, f3, f4, f5⟩ := hf it (by simp)
    have W := Walks.range (prog := X.prog) (w := X.w) (I.ok.hd hc) it lo 1 n
    refine W.item i s _ _ hg st fun v h' tk hv st' kk => ?_
    obtain ⟨t, rfl⟩ := hv
    have I1 : Inv X pins σ H { s with heap := h', toks := tk } := I.turned (fun b o hb e => kk b o (by simpa using hb) e) f0 f1 f3 f4 f5
    refine ⟨_, rfl, go_of (s := { s with heap := h', toks := tk }) (n := "range_iterator") st' rfl rfl (by decide) ⟨.int (lo + i), H, I1, ⟨t, ?_⟩, ⟨rfl, rfl⟩, st', fun b hb => (hf b hb).1⟩⟩
    rw [Int.mul_one]
  done := by
    intro X hP hw hK hc i pins s σ H E I hf st hg
    subst hP hw hK
    obtain ⟨f0, f1, f2, f3, f4, f5⟩ := hf it (by simp)
    exact wpAny_pyNext_range_end (I.ok.hd hc) st (by have : n ≤ i := hg; omega) fun h' eb => ⟨rfl, I.turned (t' := s.toks) (fun b o hb e => eb b o hb e) f0 f1 f3 f4 f5⟩
  self := fun _ _ _ _ _ st h => wpAny_pyIter_rangeiter st h
end L2

namespace L2
open PySem PySem.Spec PyProof.Rows
section
variable {X : Cx} {tg : Expr}
def iList (K : PySem.W.Frag) (tl : TE) : TI := fun σ H R => tl σ H fun x H1 => ∃ a, x = .ref a ∧ (∃ xs, SqL K H1 a xs) ∧ R (Itl K a) H1
def iTup (K : PySem.W.Frag) (tl : TE) : TI := fun σ H R => tl σ H fun x H1 => ∃ a, x = .ref a ∧ (∃ xs, SqT K H1 a xs) ∧ R (Itt K a) H1
theorem pi_list {l : Expr} {tl : TE} (hl : PE X l tl) : PI X tg l (iList X.K tl) := by
  intro pins s σ H R I h
  refine thn (hl pins s σ H _ I h) fun v s1 ⟨x, H1, I1, r1, q1⟩ => ?_
  obtain ⟨a, e, ⟨xs, hq⟩, q⟩ := q1
  subst e
  cases r1
  obtain ⟨its, rv, p, hz⟩ := I1.list hq
  refine wpAny_pyIter_list p.isList ?_
  refine ⟨s1.heap.objs.size, [s1.heap.objs.size], _, _, H1, rfl, I1.kept (t' := s1.toks) fun b o e => Heap.get?_push_of_some _ e, turn_list a _, ⟨_, Heap.get?_push_size _ rfl, rfl, rfl⟩, fun b hb => ?_, q⟩
  have e : b = s1.heap.objs.size := by simpa using hb
  subst e
  exact I1.fpOk (Nat.le_refl _) (I1.hok.fresh (Nat.le_refl _))
theorem pi_tup {l : Expr} {tl : TE} (hl : PE X l tl) : PI X tg l (iTup X.K tl) := by
  intro pins s σ H R I h
  refine thn (hl pins s σ H _ I h) fun v s1 ⟨x, H1, I1, r1, q1⟩ => ?_
  obtain ⟨a, e, ⟨xs, hq⟩, q⟩ := q1
  subst e
  cases r1
  obtain ⟨its, rv, p, hz⟩ := I1.tuple hq
  refine wpAny_pyIter_tuple (show s1.heap.IsTuple a its.toArray from p) ?_
  refine ⟨s1.heap.objs.size, [s1.heap.objs.size], _, _, H1, rfl, I1.kept (t' := s1.toks) fun b o e => Heap.get?_push_of_some _ e, turn_tuple a _, ⟨_, Heap.get?_push_size _ rfl, rfl, rfl⟩, fun b hb => ?_, q⟩
  have e : b = s1.heap.objs.size := by simpa using hb
  subst e
  exact I1.fpOk (Nat.le_refl _) (I1.hok.fresh (Nat.le_refl _))
/-- a range object just made, walked -/
theorem range_it {pins : List (Addr × Obj)} {σ : St} {H : Hp} {s : Shared} {R : It → Hp → Prop} {E : Value → Shared → Prop} {lo hi : Int} {t u v : Tok} {tk : Nat} (I : Inv X pins σ H s) (h1 : -(2 ^ 62) ≤ lo) (h2 : lo < 2 ^ 62) (h3 : -(2 ^ 62) ≤ hi) (h4 : hi < 2 ^ 62)
    (q : R (Itr lo (hi - lo).toNat) H) : wpAny (model X.prog X.w) X.A (pyIter (.ref s.heap.objs.size)) (PIE X pins σ tg R) E { s with heap := s.heap.push { cls := .type "range", data := .fields #[.int lo t, .int hi u, .int 1 v] }, toks := tk } := by
  refine wpAny_pyIter_range (IsRange.new ..) (small_one h1 h2 h3 h4) ?_
  have I1 : Inv X pins σ H { s with heap := s.heap.push { cls := .type "range", data := .fields #[.int lo t, .int hi u, .int 1 v] }, toks := tk } := I.kept fun b o e => Heap.get?_push_of_some _ e
  refine ⟨(s.heap.push { cls := .type "range", data := .fields #[.int lo t, .int hi u, .int 1 v] }).objs.size, [(s.heap.push { cls := .type "range", data := .fields #[.int lo t, .int hi u, .int 1 v] }).objs.size], _, _, H, rfl,
    I1.kept (t' := tk) fun b o e => Heap.get?_push_of_some _ e, turn_range _ lo (hi - lo).toNat, ?_, fun b hb => ?_, q⟩
  · have e1 : lo + ((0 : Nat) : Int) * 1 = lo := by simp
    have e2 : (((hi - lo).toNat : Nat) : Int) - ((0 : Nat) : Int) = Builtin.Range.rangeSize lo hi 1 := by rw [rangeSize_one]; split <;> omega
    show IsRangeIter _ _ (lo + ((0 : Nat) : Int) * 1) ((((hi - lo).toNat : Nat) : Int) - ((0 : Nat) : Int)) 1
    rw [e1, e2]
    exact Heap.get?_push_size _ rfl
  · have e : b = (s.heap.push { cls := .type "range", data := .fields #[.int lo t, .int hi u, .int 1 v] }).objs.size := by simpa using hb
    subst e
    exact I1.fpOk (Nat.le_refl _) (I1.hok.fresh (Nat.le_refl _))
def iRng1 (ta : TA) : TI := fun σ H R => ta σ H fun vs H1 => ∃ j : Int, vs = [.int j] ∧ -(2 ^ 62) ≤ j ∧ j < 2 ^ 62 ∧ R (Itr 0 j.toNat) H1
theorem pi_range1 {a : Expr} {ta : TA} {p pos : Pos} (hg : Gl X "range") (hm : X.mg "range" = none) (ha : PA X [a] ta) (hs : starEach [a] X.env = [(false, eval a X.env)] := by rfl) : PI X tg (.Call (.Name "range" p) [a] [] pos) (iRng1 ta) := by
  intro pins s σ H R I h
  refine Call_ (ld_blt I hg hm boot_range (PyProof.Rows.callWith_type1 (thn (ha pos pins s σ H _ I h) fun us s1 ⟨vs, H1, I1, r1, q1⟩ => ?_) hs rfl))
  obtain ⟨j, e, q1, q2, q⟩ := q1
  subst e
  cases r1 with
  | cons r rr =>
    cases rr
    obtain ⟨t, rfl⟩ := r
    exact call_range_1 (range_it I1 (by omega) (by omega) q1 q2 (by simpa using q))
/-- W: the invariant by the turn and a measure; N: what the body is to reach -/
def tFor (wi : TI) (g : TG) (tb : TS) : TS := fun D σ H => wi σ H fun J H1 => ∃ W : Nat → Nat → St → Hp → Prop, (∃ m, W 0 m σ H1) ∧ ∀ i m σ H, W i m σ H →
  (J.stop i H ∧ D.nx σ H) ∨ (J.go i H ∧ ∃ N : St → Hp → Prop, (∀ σ' H', N σ' H' → ∃ m', m' < m ∧ W (i + 1) m' σ' H') ∧ ∀ x H', J.yld i H x H' → g x σ H' fun σ2 H2 => tb { D with nx := N, ct := N, bk := D.nx } σ2 H2)
/-- the records at fp as they stand -/
def pinsAt (fp : List Addr) (h : Heap) : List (Addr × Obj) := fp.filterMap fun b => (h.get? b).map fun o => (b, o)
theorem mem_pinsAt {fp : List Addr} {h : Heap} {b : Addr} {o : Obj} (hb : b ∈ fp) (e : h.get? b = some o) : (b, o) ∈ pinsAt fp h := List.mem_filterMap.mpr ⟨b, hb, by rw [e]; rfl⟩
theorem of_pinsAt {fp : List Addr} {h : Heap} {p : Addr × Obj} (hp : p ∈ pinsAt fp h) : p.1 ∈ fp ∧ h.get? p.1 = some p.2 := by
  obtain ⟨b, hb, e⟩ := List.mem_filterMap.mp hp
  cases q : h.get? b with
  | none => rw [q] at e; cases e
  | some o =>
    rw [q] at e
    have e' : (b, o) = p := Option.some.inj e
    subst e'
    exact ⟨hb, q⟩
theorem Inv.pinned {pins : List (Addr × Obj)} {σ : St} {H : Hp} {s : Shared} {fp : List Addr} (I : Inv X pins σ H s) (hf : ∀ b ∈ fp, FpOk X pins H b) (ho : ∀ b ∈ fp, ∃ o, s.heap.get? b = some o ∧ ∀ v, o.data ≠ .cell v) : Inv X (pins ++ pinsAt fp s.heap) σ H s :=
  I.pins_of fun p hp => (List.mem_append.mp hp).elim (fun z => I.pin p (List.mem_append_right _ z)) fun z => by
    obtain ⟨hb, e⟩ := of_pinsAt z
    obtain ⟨f0, f1, f2, _⟩ := hf p.1 hb
    obtain ⟨o, e', d⟩ := ho p.1 hb
    rw [e] at e'; cases e'
    exact ⟨e, f0, f1, f2, d⟩
theorem Inv.unpinned {pins pl : List (Addr × Obj)} {σ : St} {H : Hp} {s : Shared} (I : Inv X (pins ++ pl) σ H s) : Inv X pins σ H s := I.pins_of fun p hp => I.pin p (List.mem_append_right _ (List.mem_append_left _ hp))
theorem ps_for {iter : Expr} {body : List Stmt} {wi : TI} {g : TG} {tb : TS} {pos : Pos} (hp : PassesOwn (model X.prog X.w) X.A X.env X.xe) (hc : X.calm = true) (hi : PI X tg iter wi) (hg : PG X tg g) (hb : PSs X body tb)
    (hs : ∀ x, foldedSetIterable iter X.env x = pure x := by intro _; rfl) : PS X (.For tg iter body [] pos) (tFor wi g tb) := by
  intro pins s σ H D I h
  refine wpAny_For (thn (hi pins s σ H _ I h) fun v s1 h1 => thn h1 fun itv s2 h2 => ?_) hs
  obtain ⟨it, fp, tn, J, H2, e, I2, T, st2, f2, W, ⟨m0, w0⟩, turn⟩ := h2
  subst e
  -- what stays true of the iterator's objects through the loop
  have stat : ∀ {H' : Hp}, (∀ b ∈ fp, H' b = none) → ∀ b ∈ fp, FpOk X pins H' b := fun hn b hb => ⟨hn b hb, (f2 b hb).2⟩
  refine codeAny_forLoop_any (fun n s' => ∃ i σ' H', Inv X pins σ' H' s' ∧ tn i s'.heap ∧ (∀ b ∈ fp, H' b = none) ∧ W i n σ' H') ?_ m0 ⟨0, σ, H2, I2, st2, fun b hb => (f2 b hb).1, w0⟩
  rintro n s3 ⟨i, σ3, H3, I3, st3, fr3, w3⟩
  rcases turn i n σ3 H3 w3 with ⟨stop, qn⟩ | ⟨go, N, hN, step⟩
  · refine wpAny_passesOwn hp (thn (T.done X rfl rfl rfl hc i pins s3 σ3 H3 X.xe I3 (stat fr3) st3 stop) fun r s4 ⟨hr, I4⟩ => ?_)
    subst hr
    exact wpAny_execs_nil ⟨σ3, H3, I4, qn⟩
  · refine wpAny_passesOwn hp (thn (T.item X rfl rfl rfl hc i pins s3 σ3 H3 X.xe I3 (stat fr3) st3 go) fun r s4 ⟨u, hr, h4⟩ => ?_)
    subst hr
    refine wpAny_passesOwn hp (thn h4 fun _ s5 ⟨x, H5, I5, r5, y5, st5, fr5⟩ => ?_)
    have I5' := I5.pinned (stat fr5) (T.obj _ _ st5)
    refine wpAny_passesOwn hp (thn (hg _ s5 σ3 H5 x u _ I5' r5 (step x H5 y5)) fun _ s6 ⟨σ6, H6, I6, q6⟩ => ?_)
    refine wpAny_passesOwn hp (thn (hb _ s6 σ6 H6 _ I6 q6) fun f s7 q7 => ?_)
    have again : ∀ {σ7 : St} {H7 : Hp}, Inv X (pins ++ pinsAt fp s5.heap) σ7 H7 s7 → N σ7 H7 → ∃ m, m < n ∧ ∃ i σ' H', Inv X pins σ' H' s7 ∧ tn i s7.heap ∧ (∀ b ∈ fp, H' b = none) ∧ W i m σ' H' := fun {σ7 H7} I7 n7 => by
      obtain ⟨m', hm, w7⟩ := hN σ7 H7 n7
      refine ⟨m', hm, i + 1, σ7, H7, I7.unpinned, T.keep _ _ _ st5 fun b hb o e => (I7.pin (b, o) (List.mem_append_right _ (List.mem_append_right _ (mem_pinsAt hb e)))).1, fun b hb => ?_, w7⟩
      obtain ⟨o, e, d⟩ := T.obj _ _ st5 b hb
      exact (I7.pin (b, o) (List.mem_append_right _ (List.mem_append_right _ (mem_pinsAt hb e)))).2.1
    cases f with
    | next => obtain ⟨σ7, H7, I7, n7⟩ := q7; exact again I7 n7
    | cont => obtain ⟨σ7, H7, I7, n7⟩ := q7; exact again I7 n7
    | brk => obtain ⟨σ7, H7, I7, q7⟩ := q7; exact ⟨σ7, H7, I7.unpinned, q7⟩
    | ret v => obtain ⟨x7, σ7, H7, I7, r7, q7⟩ := q7; exact ⟨x7, σ7, H7, I7.unpinned, r7, q7⟩
end

/-- over a list that the body leaves as it is -/
theorem for_list {K : PySem.W.Frag} {a : Addr} {xs : List V} {g : TG} {tb : TS} {D : Ends} {σ : St} {H : Hp} (Pv : Nat → St → Hp → Prop) (h0 : Pv 0 σ H) (hl : ∀ i σ H, i ≤ xs.length → Pv i σ H → SqL K H a xs)
    (hs : ∀ i x σ H, xs[i]? = some x → Pv i σ H → g x σ H fun σ2 H2 => tb { D with nx := Pv (i + 1), ct := Pv (i + 1), bk := D.nx } σ2 H2) (hd : ∀ σ H, Pv xs.length σ H → D.nx σ H) :
    ∃ W : Nat → Nat → St → Hp → Prop, (∃ m, W 0 m σ H) ∧ ∀ i m σ H, W i m σ H →
      ((Itl K a).stop i H ∧ D.nx σ H) ∨ ((Itl K a).go i H ∧ ∃ N : St → Hp → Prop, (∀ σ' H', N σ' H' → ∃ m', m' < m ∧ W (i + 1) m' σ' H') ∧ ∀ x H', (Itl K a).yld i H x H' → g x σ H' fun σ2 H2 => tb { D with nx := N, ct := N, bk := D.nx } σ2 H2) := by
  refine ⟨fun i m σ H => m = xs.length - i ∧ i ≤ xs.length ∧ Pv i σ H, ⟨xs.length, by simp, Nat.zero_le _, h0⟩, ?_⟩
  rintro i m σ H ⟨rfl, hi, p⟩
  have q := hl i σ H hi p
  by_cases hlt : i < xs.length
  · refine .inr ⟨⟨xs, xs[i], q, by simp [hlt]⟩, Pv (i + 1), fun σ' H' p' => ⟨xs.length - (i + 1), by omega, rfl, hlt, p'⟩, fun x H' y => ?_⟩
    obtain ⟨e, y⟩ := y
    subst e
    exact hs i x σ _ (y xs q) p
  · have e : i = xs.length := by omega
    subst e
    exact .inl ⟨⟨xs, q, Nat.le_refl _⟩, hd σ H p⟩
theorem for_tup {K : PySem.W.Frag} {a : Addr} {xs : List V} {g : TG} {tb : TS} {D : Ends} {σ : St} {H : Hp} (Pv : Nat → St → Hp → Prop) (h0 : Pv 0 σ H) (hl : ∀ i σ H, i ≤ xs.length → Pv i σ H → SqT K H a xs)
    (hs : ∀ i x σ H, xs[i]? = some x → Pv i σ H → g x σ H fun σ2 H2 => tb { D with nx := Pv (i + 1), ct := Pv (i + 1), bk := D.nx } σ2 H2) (hd : ∀ σ H, Pv xs.length σ H → D.nx σ H) :
    ∃ W : Nat → Nat → St → Hp → Prop, (∃ m, W 0 m σ H) ∧ ∀ i m σ H, W i m σ H →
      ((Itt K a).stop i H ∧ D.nx σ H) ∨ ((Itt K a).go i H ∧ ∃ N : St → Hp → Prop, (∀ σ' H', N σ' H' → ∃ m', m' < m ∧ W (i + 1) m' σ' H') ∧ ∀ x H', (Itt K a).yld i H x H' → g x σ H' fun σ2 H2 => tb { D with nx := N, ct := N, bk := D.nx } σ2 H2) := by
  refine ⟨fun i m σ H => m = xs.length - i ∧ i ≤ xs.length ∧ Pv i σ H, ⟨xs.length, by simp, Nat.zero_le _, h0⟩, ?_⟩
  rintro i m σ H ⟨rfl, hi, p⟩
  have q := hl i σ H hi p
  by_cases hlt : i < xs.length
  · refine .inr ⟨⟨xs, xs[i], q, by simp [hlt]⟩, Pv (i + 1), fun σ' H' p' => ⟨xs.length - (i + 1), by omega, rfl, hlt, p'⟩, fun x H' y => ?_⟩
    obtain ⟨e, y⟩ := y
    subst e
    exact hs i x σ _ (y xs q) p
  · have e : i = xs.length := by omega
    subst e
    exact .inl ⟨⟨xs, q, Nat.le_refl _⟩, hd σ H p⟩
theorem for_range {lo : Int} {n : Nat} {g : TG} {tb : TS} {D : Ends} {σ : St} {H : Hp} (Pv : Nat → St → Hp → Prop) (h0 : Pv 0 σ H)
    (hs : ∀ i σ H, i < n → Pv i σ H → g (.int (lo + i)) σ H fun σ2 H2 => tb { D with nx := Pv (i + 1), ct := Pv (i + 1), bk := D.nx } σ2 H2) (hd : ∀ σ H, Pv n σ H → D.nx σ H) :
    ∃ W : Nat → Nat → St → Hp → Prop, (∃ m, W 0 m σ H) ∧ ∀ i m σ H, W i m σ H →
      ((Itr lo n).stop i H ∧ D.nx σ H) ∨ ((Itr lo n).go i H ∧ ∃ N : St → Hp → Prop, (∀ σ' H', N σ' H' → ∃ m', m' < m ∧ W (i + 1) m' σ' H') ∧ ∀ x H', (Itr lo n).yld i H x H' → g x σ H' fun σ2 H2 => tb { D with nx := N, ct := N, bk := D.nx } σ2 H2) := by
  refine ⟨fun i m σ H => m = n - i ∧ i ≤ n ∧ Pv i σ H, ⟨n, by simp, Nat.zero_le _, h0⟩, ?_⟩
  rintro i m σ H ⟨rfl, hi, p⟩
  by_cases hlt : i < n
  · refine .inr ⟨hlt, Pv (i + 1), fun σ' H' p' => ⟨n - (i + 1), by omega, rfl, hlt, p'⟩, fun x H' y => ?_⟩
    obtain ⟨e, y⟩ := y
    subst e y
    exact hs i σ _ hlt p
  · have e : i = n := by omega
    subst e
    exact .inl ⟨Nat.le_refl _, hd σ H p⟩
/-- while, by a word and a measure of the state -/
theorem while_by {c : TT} {tb : TS} {D : Ends} {σ : St} {H : Hp} (Pv : St → Hp → Prop) (μ : St → Hp → Nat) (h0 : Pv σ H)
    (hs : ∀ σ H, Pv σ H → c σ H fun b H1 => if b = true then tb { D with nx := fun σ' H' => Pv σ' H' ∧ μ σ' H' < μ σ H, ct := fun σ' H' => Pv σ' H' ∧ μ σ' H' < μ σ H, bk := D.nx } σ H1 else D.nx σ H1)
    (mono : ∀ σ H Q Q', (∀ b H1, Q b H1 → Q' b H1) → c σ H Q → c σ H Q') : tWhile c tb D σ H := by
  refine ⟨fun m σ H => m = μ σ H ∧ Pv σ H, ⟨_, rfl, h0⟩, ?_⟩
  rintro m σ H ⟨rfl, p⟩
  refine mono σ H _ _ (fun b H1 q => ?_) (hs σ H p)
  cases b with
  | true => exact ⟨_, fun σ' H' ⟨p', l⟩ => ⟨_, l, rfl, p'⟩, q⟩
  | false => exact q
end L2

namespace L2
open PySem PySem.Spec PyProof.Rows

abbrev R2 := V → V → Hp → VK → Prop
/-- a two-place operation on values: f is binaryOp op, inplaceOp op or compareOp op -/
def OpR (X : Cx) (f : Value → Value → Sem Value) (r : R2) : Prop :=
  ∀ (pins : List (Addr × Obj)) (s : Shared) (σ : St) (H : Hp) (x y : V) (v u : Value) (Q : VK), Inv X pins σ H s → RelV x v → RelV y u → r x y H Q →
    wpAny (model X.prog X.w) X.A (f v u) (EP X pins σ Q) X.xe s
/-- a one-place operation -/
def UnR (X : Cx) (f : Value → Sem Value) (r : V → Hp → VK → Prop) : Prop :=
  ∀ (pins : List (Addr × Obj)) (s : Shared) (σ : St) (H : Hp) (x : V) (v : Value) (Q : VK), Inv X pins σ H s → RelV x v → r x H Q →
    wpAny (model X.prog X.w) X.A (f v) (EP X pins σ Q) X.xe s
/-- a call of a value that is known (a builtin, a type) with values -/
def CallR (X : Cx) (f : Value) (r : List V → Hp → VK → Prop) : Prop :=
  ∀ (pins : List (Addr × Obj)) (s : Shared) (σ : St) (H : Hp) (xs : List V) (us : List Value) (Q : VK), Inv X pins σ H s → Vals xs us → r xs H Q →
    wpAny (model X.prog X.w) X.A (call f us) (EP X pins σ Q) X.xe s
def tOp (r : R2) (ta tb : TE) : TE := fun σ H Q => ta σ H fun x H1 => tb σ H1 fun y H2 => r x y H2 Q
def tUn (r : V → Hp → VK → Prop) (ta : TE) : TE := fun σ H Q => ta σ H fun x H1 => r x H1 Q
/-- ints in, under C, and a value out -/
def rI (C : Int → Int → Prop) (g : Int → Int → V) : R2 := fun x y H Q => ∃ i j, x = .int i ∧ y = .int j ∧ C i j ∧ Q (g i j) H
def rI0 (g : Int → Int → V) : R2 := fun x y H Q => ∃ i j, x = .int i ∧ y = .int j ∧ Q (g i j) H
def rU (g : Int → V) : V → Hp → VK → Prop := fun x H Q => ∃ i, x = .int i ∧ Q (g i) H

section
variable {X : Cx} {a b c : Expr} {ta tb tc : TE} {pos : Pos}

theorem binT (ha : PE X a ta) (hb : PE X b tb) {pins : List (Addr × Obj)} {s : Shared} {σ : St} {H : Hp} {R : V → V → Hp → Prop} (I : Inv X pins σ H s)
    (h : ta σ H fun x H1 => tb σ H1 fun y H2 => R x y H2) {Q : Value → Shared → Prop} {f : Value → Value → Sem Value}
    (hf : ∀ v u s2 x y H2, Inv X pins σ H2 s2 → RelV x v → RelV y u → R x y H2 → wpAny (model X.prog X.w) X.A (f v u) Q X.xe s2) :
    wpAny (model X.prog X.w) X.A (eval a X.env) (fun v s₁ => wpAny (model X.prog X.w) X.A (eval b X.env) (fun u s₂ => wpAny (model X.prog X.w) X.A (f v u) Q X.xe s₂) X.xe s₁) X.xe s := by
  refine thn (ha pins s σ H _ I h) fun v s1 ⟨x, H1, I1, r1, q1⟩ => ?_
  refine thn (hb pins s1 σ H1 _ I1 q1) fun u s2 ⟨y, H2, I2, r2, q2⟩ => ?_
  exact hf v u s2 x y H2 I2 r1 r2 q2

theorem pe_op {op : Operator} {r : R2} (ho : OpR X (binaryOp op) r) (ha : PE X a ta) (hb : PE X b tb) : PE X (.BinOp a op b pos) (tOp r ta tb) := by
  intro pins s σ H Q I h
  exact wpAny_BinOp (binT ha hb I h fun v u s2 x y H2 I2 rx ry q => ho pins s2 σ H2 x y v u Q I2 rx ry q)
theorem pe_un {op : UnaryOp} {r : V → Hp → VK → Prop} (ho : UnR X (unaryOp op) r) (ha : PE X a ta) : PE X (.UnaryOp op a pos) (tUn r ta) := by
  intro pins s σ H Q I h
  exact UnaryOp_ (thn (ha pins s σ H _ I h) fun v s1 ⟨x, H1, I1, r1, q1⟩ => ho pins s1 σ H1 x v Q I1 r1 q1)
theorem opI {f : Value → Value → Sem Value} {C : Int → Int → Prop} {g : Int → Int → Int}
    (rule : ∀ (i j : Int) (t u : Tok) (s : Shared) (Q : Value → Shared → Prop) (E : Value → Shared → Prop), C i j → Q (.int (g i j) s.toks) { s with toks := s.toks + 1 } → wpAny (model X.prog X.w) X.A (f (.int i t) (.int j u)) Q E s) :
    OpR X f (rI C fun i j => .int (g i j)) := by
  intro pins s σ H x y v u Q I rx ry h
  obtain ⟨i, j, rfl, rfl, hc, q⟩ := h
  obtain ⟨t, rfl⟩ := rx
  obtain ⟨t', rfl⟩ := ry
  exact rule i j t t' s _ _ hc ⟨.int (g i j), H, I.tok _, ⟨_, rfl⟩, q⟩
theorem opI0 {f : Value → Value → Sem Value} {g : Int → Int → Int}
    (rule : ∀ (i j : Int) (t u : Tok) (s : Shared) (Q : Value → Shared → Prop) (E : Value → Shared → Prop), Q (.int (g i j) s.toks) { s with toks := s.toks + 1 } → wpAny (model X.prog X.w) X.A (f (.int i t) (.int j u)) Q E s) :
    OpR X f (rI0 fun i j => .int (g i j)) := by
  intro pins s σ H x y v u Q I rx ry h
  obtain ⟨i, j, rfl, rfl, q⟩ := h
  obtain ⟨t, rfl⟩ := rx
  obtain ⟨t', rfl⟩ := ry
  exact rule i j t t' s _ _ ⟨.int (g i j), H, I.tok _, ⟨_, rfl⟩, q⟩
theorem opB0 {f : Value → Value → Sem Value} {g : Int → Int → Bool}
    (rule : ∀ (i j : Int) (t u : Tok) (s : Shared) (Q : Value → Shared → Prop) (E : Value → Shared → Prop), Q (.bool (g i j)) s → wpAny (model X.prog X.w) X.A (f (.int i t) (.int j u)) Q E s) :
    OpR X f (rI0 fun i j => .bl (g i j)) := by
  intro pins s σ H x y v u Q I rx ry h
  obtain ⟨i, j, rfl, rfl, q⟩ := h
  obtain ⟨t, rfl⟩ := rx
  obtain ⟨t', rfl⟩ := ry
  exact rule i j t t' s _ _ ⟨.bl (g i j), H, I, rfl, q⟩

def CDiv (i j : Int) : Prop := 0 < j ∧ j < 1073741824
def CPow (i j : Int) : Prop := 0 ≤ j ∧ j ≤ 1000000 ∧ i.natAbs < 2 ^ 64
def CMul (i j : Int) : Prop := (-(2 ^ 64) < i ∧ i < 2 ^ 64) ∨ (-(2 ^ 64) < j ∧ j < 2 ^ 64)
theorem CMul.ok {i j : Int} (h : CMul i j) : IntMulOk i j := by
  rcases h with ⟨h1, h2⟩ | ⟨h1, h2⟩
  · exact .of_left (intBits_le_64 h1 h2)
  · exact .of_right (intBits_le_64 h1 h2)
theorem op_add : OpR X (binaryOp .Add) (rI0 fun i j => .int (i + j)) := opI0 fun _ _ _ _ _ _ _ q => add_int q
theorem op_sub : OpR X (binaryOp .Sub) (rI0 fun i j => .int (i - j)) := opI0 fun _ _ _ _ _ _ _ q => sub_int q
theorem op_mul : OpR X (binaryOp .Mult) (rI CMul fun i j => .int (i * j)) := opI fun _ _ _ _ _ _ _ hc q => mul_int q hc.ok
/-- // by a positive divisor -/
theorem op_fdiv : OpR X (binaryOp .FloorDiv) (rI CDiv fun i j => .int (i / j)) := opI fun i j _ _ _ _ _ hc q => by
  have h1 : (0 : Int) < j := hc.1
  have h2 : j < 1073741824 := hc.2
  exact floordiv_int (by omega) (by rw [Int.fdiv_eq_ediv_of_nonneg i (by omega)]; exact q) (.inl (PyProof.noPylong_small (by omega)))
/-- % by a positive divisor of any size -/
theorem op_mod : OpR X (binaryOp .Mod) (rI (fun _ j => 0 < j) fun i j => .int (i % j)) := opI fun i j _ _ _ _ _ hc q => by
  have h1 : (0 : Int) < j := hc
  exact mod_int' (by omega) (by rw [Int.fmod_eq_emod_of_nonneg i (by omega)]; exact q)
theorem op_pow : OpR X (binaryOp .Pow) (rI CPow fun i j => .int (i ^ j.toNat)) := opI fun _ _ _ _ _ _ _ hc q => pow_int_small hc.1 hc.2.1 hc.2.2 q
theorem unI {f : Value → Sem Value} {g : Int → Int}
    (rule : ∀ (i : Int) (t : Tok) (s : Shared) (Q : Value → Shared → Prop) (E : Value → Shared → Prop), Q (.int (g i) s.toks) { s with toks := s.toks + 1 } → wpAny (model X.prog X.w) X.A (f (.int i t)) Q E s) :
    UnR X f (rU fun i => .int (g i)) := by
  intro pins s σ H x v Q I rx h
  obtain ⟨i, rfl, q⟩ := h
  obtain ⟨t, rfl⟩ := rx
  exact rule i t s _ _ ⟨.int (g i), H, I.tok _, ⟨_, rfl⟩, q⟩
theorem un_neg : UnR X (unaryOp .USub) (rU fun i => .int (-i)) := unI fun _ _ _ _ _ q => neg_int q
end

/-- the scalars that == tells apart as data does -/
def scal : V → V → Bool
  | .non, .non => true | .non, .int _ => true | .int _, .non => true | .non, .bl _ => true | .bl _, .non => true | .non, .str _ => true | .str _, .non => true
  | .int _, .int _ => true | .bl _, .bl _ => true | .str _, .str _ => true | .byt _, .byt _ => true
  | .int _, .str _ => true | .str _, .int _ => true | .bl _, .str _ => true | .str _, .bl _ => true
  | _, _ => false
def rEq : R2 := fun x y H Q => scal x y = true ∧ Q (.bl (decide (x = y))) H
def rNe : R2 := fun x y H Q => scal x y = true ∧ Q (.bl (!decide (x = y))) H

theorem dec_int {i j : Int} : decide (V.int i = V.int j) = (i == j) := by
  rw [Bool.eq_iff_iff]
  simp
theorem dec_bl {i j : Bool} : decide (V.bl i = V.bl j) = (i == j) := by
  rw [Bool.eq_iff_iff]
  simp
theorem dec_str {i j : Str} : decide (V.str i = V.str j) = (i == j) := by
  rw [Bool.eq_iff_iff]
  simp
theorem dec_byt {i j : Array UInt8} : decide (V.byt i = V.byt j) = (i.toList == j.toList) := by
  rw [Bool.eq_iff_iff]
  cases i
  cases j
  simp

section
variable {X : Cx} {a b c : Expr} {ta tb tc : TE} {pos : Pos}
theorem fin_bl {pins : List (Addr × Obj)} {σ : St} {H : Hp} {s : Shared} {Q : VK} {k k' : Bool} (I : Inv X pins σ H s) (q : Q (.bl k) H) (e : k = k') : EP X pins σ Q (.bool k') s := by
  subst e
  exact ⟨.bl k, H, I, rfl, q⟩
theorem op_eq : OpR X (compareOp .Eq) rEq := by
  intro pins s σ H x y v u Q I rx ry h
  obtain ⟨hs, q⟩ := h
  cases x with
  | non =>
    cases rx
    cases y with
    | non => cases ry; exact PySem.EqNone.eq_none_none (fin_bl I q (by simp))
    | bl j => cases ry; exact PySem.EqNone.eq_none_bool (fin_bl I q (by simp))
    | int j => obtain ⟨t', rfl⟩ := ry; exact PySem.EqNone.eq_none_int (fin_bl I q (by simp))
    | str j => obtain ⟨t', rfl⟩ := ry; exact PySem.EqNone.eq_none_str (fin_bl I q (by simp))
    | _ => exact absurd (show false = true from hs) Bool.false_ne_true
  | bl i =>
    cases rx
    cases y with
    | non => cases ry; exact PySem.EqNone.eq_bool_none (fin_bl I q (by simp))
    | bl j => cases ry; exact eq_bool (fin_bl I q dec_bl)
    | str j => obtain ⟨t', rfl⟩ := ry; exact PySem.EqMixed.eq_bool_str (fin_bl I q (by simp))
    | _ => exact absurd (show false = true from hs) Bool.false_ne_true
  | int i =>
    obtain ⟨t, rfl⟩ := rx
    cases y with
    | non => cases ry; exact PySem.EqNone.eq_int_none (fin_bl I q (by simp))
    | int j => obtain ⟨t', rfl⟩ := ry; exact eq_int (fin_bl I q dec_int)
    | str j => obtain ⟨t', rfl⟩ := ry; exact PySem.EqMixed.eq_int_str (fin_bl I q (by simp))
    | _ => exact absurd (show false = true from hs) Bool.false_ne_true
  | str i =>
    obtain ⟨t, rfl⟩ := rx
    cases y with
    | non => cases ry; exact PySem.EqNone.eq_str_none (fin_bl I q (by simp))
    | bl j => cases ry; exact PySem.EqMixed.eq_str_bool (fin_bl I q (by simp))
    | int j => obtain ⟨t', rfl⟩ := ry; exact PySem.EqMixed.eq_str_int (fin_bl I q (by simp))
    | str j => obtain ⟨t', rfl⟩ := ry; exact eq_str (fin_bl I q dec_str)
    | _ => exact absurd (show false = true from hs) Bool.false_ne_true
  | byt i =>
    obtain ⟨t, rfl⟩ := rx
    cases y with
    | byt j => obtain ⟨t', rfl⟩ := ry; exact PySem.W.eq_bytes (fin_bl I q dec_byt)
    | _ => exact absurd (show false = true from hs) Bool.false_ne_true
  | _ => cases y <;> exact absurd (show false = true from hs) Bool.false_ne_true
theorem op_ne : OpR X (compareOp .NotEq) rNe := by
  intro pins s σ H x y v u Q I rx ry h
  obtain ⟨hs, q⟩ := h
  cases x with
  | non =>
    cases rx
    cases y with
    | non => cases ry; exact PySem.EqNone.ne_none_none (fin_bl I q (by simp))
    | bl j => cases ry; exact PySem.EqNone.ne_none_bool (fin_bl I q (by simp))
    | int j => obtain ⟨t', rfl⟩ := ry; exact PySem.EqNone.ne_none_int (fin_bl I q (by simp))
    | str j => obtain ⟨t', rfl⟩ := ry; exact PySem.EqNone.ne_none_str (fin_bl I q (by simp))
    | _ => exact absurd (show false = true from hs) Bool.false_ne_true
  | bl i =>
    cases rx
    cases y with
    | non => cases ry; exact PySem.EqNone.ne_bool_none (fin_bl I q (by simp))
    | bl j => cases ry; exact ne_bool (fin_bl I q (congrArg not dec_bl))
    | str j => obtain ⟨t', rfl⟩ := ry; exact PySem.EqMixed.ne_bool_str (fin_bl I q (by simp))
    | _ => exact absurd (show false = true from hs) Bool.false_ne_true
  | int i =>
    obtain ⟨t, rfl⟩ := rx
    cases y with
    | non => cases ry; exact PySem.EqNone.ne_int_none (fin_bl I q (by simp))
    | int j => obtain ⟨t', rfl⟩ := ry; exact ne_int (fin_bl I q (congrArg not dec_int))
    | str j => obtain ⟨t', rfl⟩ := ry; exact PySem.EqMixed.ne_int_str (fin_bl I q (by simp))
    | _ => exact absurd (show false = true from hs) Bool.false_ne_true
  | str i =>
    obtain ⟨t, rfl⟩ := rx
    cases y with
    | non => cases ry; exact PySem.EqNone.ne_str_none (fin_bl I q (by simp))
    | bl j => cases ry; exact PySem.EqMixed.ne_str_bool (fin_bl I q (by simp))
    | int j => obtain ⟨t', rfl⟩ := ry; exact PySem.EqMixed.ne_str_int (fin_bl I q (by simp))
    | str j => obtain ⟨t', rfl⟩ := ry; exact ne_str (fin_bl I q (congrArg not dec_str))
    | _ => exact absurd (show false = true from hs) Bool.false_ne_true
  | byt i =>
    obtain ⟨t, rfl⟩ := rx
    cases y with
    | byt j => obtain ⟨t', rfl⟩ := ry; exact PySem.W.ne_bytes (fin_bl I q (congrArg not dec_byt))
    | _ => exact absurd (show false = true from hs) Bool.false_ne_true
  | _ => cases y <;> exact absurd (show false = true from hs) Bool.false_ne_true

theorem op_lt : OpR X (compareOp .Lt) (rI0 fun i j => .bl (decide (i < j))) := opB0 fun _ _ _ _ _ _ _ q => lt_int q
theorem op_le : OpR X (compareOp .LtE) (rI0 fun i j => .bl (decide (i ≤ j))) := opB0 fun _ _ _ _ _ _ _ q => le_int q
theorem op_gt : OpR X (compareOp .Gt) (rI0 fun i j => .bl (decide (j < i))) := opB0 fun _ _ _ _ _ _ _ q => gt_int q
/-- is None, is not None: the right side a value none -/
theorem op_isN : OpR X (compareOp .Is) (fun x y H Q => y = .non ∧ Q (.bl (decide (x = .non))) H) := by
  intro pins s σ H x y v u Q I rx ry h
  obtain ⟨rfl, q⟩ := h
  cases ry
  refine is_none_gen (fin_bl I q ?_)
  cases x <;> first
    | (cases rx; rfl)
    | (obtain ⟨t, rfl⟩ := rx; rfl)
theorem op_notN : OpR X (compareOp .IsNot) (fun x y H Q => y = .non ∧ Q (.bl (!decide (x = .non))) H) := by
  intro pins s σ H x y v u Q I rx ry h
  obtain ⟨rfl, q⟩ := h
  cases ry
  refine isnot_none_gen (fin_bl I q ?_)
  cases x <;> first
    | (cases rx; rfl)
    | (obtain ⟨t, rfl⟩ := rx; rfl)

theorem nomark (b : Expr) {op : CmpOp} (h : op ≠ .In := by decide) (h2 : op ≠ .NotIn := by decide) : behindInMarks op b = false := by
  have e1 : (op == CmpOp.In) = false := by cases op <;> first | rfl | exact absurd rfl h
  have e2 : (op == CmpOp.NotIn) = false := by cases op <;> first | rfl | exact absurd rfl h2
  cases b <;> simp [behindInMarks, e1, e2]
/-- a comparison as a value; hm: nomark b, or (for in, not in) by with_unfolding_all rfl -/
theorem pe_cmpR {op : CmpOp} {r : R2} (ho : OpR X (compareOp op) r) (ha : PE X a ta) (hb : PE X b tb) (hm : behindInMarks op b = false) : PE X (.Compare a [op] [b] pos) (tOp r ta tb) := by
  intro pins s σ H Q I h
  exact wpAny_Compare1 (binT ha hb I h fun v u s2 x y H2 I2 rx ry q => ho pins s2 σ H2 x y v u Q I2 rx ry q) hm
/-- a reading of a value as a test -/
def tTest (t : TE) : TT := fun σ H Q => t σ H fun x H' => ∃ k, x = .bl k ∧ Q k H'
theorem pt_cmpR {op : CmpOp} {r : R2} (ho : OpR X (compareOp op) r) (ha : PE X a ta) (hb : PE X b tb) (hm : behindInMarks op b = false) : PT X (.Compare a [op] [b] pos) (tTest (tOp r ta tb)) := by
  intro pins s σ H Q I h
  refine wpAny_isTrue_Compare1 (thn (ha pins s σ H _ I h) fun v s1 ⟨x, H1, I1, r1, q1⟩ => thn (hb pins s1 σ H1 _ I1 q1) fun u s2 ⟨y, H2, I2, r2, q2⟩ =>
    thn (ho pins s2 σ H2 x y v u _ I2 r1 r2 q2) fun c s3 ⟨z, H3, I3, r3, k, e, q3⟩ => ?_) hm
  subst e
  cases r3
  exact wpAny_truthy_bool ⟨H3, I3, q3⟩
/-- a op1 b op2 c -/
def tChain (r r' : R2) (ta tb tc : TE) : TE := fun σ H Q => ta σ H fun x H1 => tb σ H1 fun y H2 => r x y H2 fun z H3 => ∃ k, z = .bl k ∧
  (if k = true then tc σ H3 fun w' H4 => r' y w' H4 Q else Q (.bl false) H3)
theorem pe_chain {op op' : CmpOp} {r r' : R2} (ho : OpR X (compareOp op) r) (ho' : OpR X (compareOp op') r') (ha : PE X a ta) (hb : PE X b tb) (hc : PE X c tc)
    (hm : lastMarks [op, op'] [b, c] = false := by with_unfolding_all rfl) : PE X (.Compare a [op, op'] [b, c] pos) (tChain r r' ta tb tc) := by
  intro pins s σ H Q I h
  refine Compare_chain (thn (ha pins s σ H _ I h) fun v s1 ⟨x, H1, I1, r1, q1⟩ => chain_link (thn (hb pins s1 σ H1 _ I1 q1) fun u s2 ⟨y, H2, I2, r2, q2⟩ =>
    thn (ho pins s2 σ H2 x y v u _ I2 r1 r2 q2) fun d s3 ⟨z, H3, I3, r3, k, e, q3⟩ => ?_)) hm
  subst e
  cases r3
  refine wpAny_truthy_bool ?_
  cases k with
  | false => exact ite_ff ⟨.bl false, H3, I3, rfl, q3⟩
  | true => exact ite_tt (chain_last (thn (hc pins s3 σ H3 _ I3 q3) fun w' s4 ⟨z', H4, I4, r4, q4⟩ => ho' pins s4 σ H4 y z' u w' Q I4 r2 r4 q4))
theorem line63 : (sizeLine : Nat) < 2 ^ 63 := by rw [sizeLine_eq]; decide
theorem vals1 {x : V} {us : List Value} (r : Vals [x] us) : ∃ u, us = [u] ∧ RelV x u := by
  cases r with
  | cons r1 r2 => cases r2; exact ⟨_, rfl, r1⟩
theorem vals2 {x y : V} {us : List Value} (r : Vals [x, y] us) : ∃ u w', us = [u, w'] ∧ RelV x u ∧ RelV y w' := by
  cases r with
  | cons r1 r2 =>
    cases r2 with
    | cons r3 r4 => cases r4; exact ⟨_, _, rfl, r1, r3⟩
theorem call_abs : CallR X (.builtin "abs") (fun xs H Q => ∃ i, xs = [.int i] ∧ Q (.int (if i < 0 then -i else i)) H) := by
  intro pins s σ H xs us Q I r h
  obtain ⟨i, rfl, q⟩ := h
  obtain ⟨u, rfl, t, rfl⟩ := vals1 r
  exact call_abs_int fun u tk => ⟨.int (if i < 0 then -i else i), H, I.tok _, ⟨_, rfl⟩, q⟩
theorem call_max2 (hc : X.calm = true) : CallR X (.builtin "max") (fun xs H Q => ∃ i j, xs = [.int i, .int j] ∧ Q (.int (if j > i then j else i)) H) := by
  intro pins s σ H xs us Q I r h
  obtain ⟨i, j, rfl, q⟩ := h
  obtain ⟨u, w', rfl, ⟨t, rfl⟩, ⟨t', rfl⟩⟩ := vals2 r
  refine max_two_ints (I.ok.hd hc) fun h' tk k => ⟨_, H, I.kept k, ?_, q⟩
  by_cases hj : j > i
  · rw [if_pos hj, if_pos hj]; exact ⟨_, rfl⟩
  · rw [if_neg hj, if_neg hj]; exact ⟨_, rfl⟩
theorem call_min2 (hc : X.calm = true) : CallR X (.builtin "min") (fun xs H Q => ∃ i j, xs = [.int i, .int j] ∧ Q (.int (if j < i then j else i)) H) := by
  intro pins s σ H xs us Q I r h
  obtain ⟨i, j, rfl, q⟩ := h
  obtain ⟨u, w', rfl, ⟨t, rfl⟩, ⟨t', rfl⟩⟩ := vals2 r
  refine min_two_ints (I.ok.hd hc) fun h' tk k => ⟨_, H, I.kept k, ?_, q⟩
  by_cases hj : j < i
  · rw [if_pos hj, if_pos hj]; exact ⟨_, rfl⟩
  · rw [if_neg hj, if_neg hj]; exact ⟨_, rfl⟩
theorem call_int1 : CallR X (.type "int") (fun xs H Q => (∃ i, xs = [.int i] ∧ Q (.int i) H) ∨ ∃ k, xs = [.bl k] ∧ Q (.int (if k then 1 else 0)) H) := by
  intro pins s σ H xs us Q I r h
  rcases h with ⟨i, rfl, q⟩ | ⟨k, rfl, q⟩
  · obtain ⟨u, rfl, t, rfl⟩ := vals1 r
    exact call_int_int ⟨.int i, H, I, ⟨_, rfl⟩, q⟩
  · obtain ⟨u, rfl, r1⟩ := vals1 r
    cases r1
    exact call_int_bool ⟨.int (if k then 1 else 0), H, I.tok _, ⟨_, rfl⟩, q⟩
end
end L2

namespace L2
open PySem PySem.Spec PyProof.Rows

structure ObjM (h : Heap) (x dx C : Addr) (mA : Str → Option Value) : Prop where
  obj : h.get? x = some (PySem.W.instObj C dx)
  ns : h.Ns1 dx mA
  ne : dx ≠ x

theorem lookIn_ns {h : Heap} {dx : Addr} {mA : Str → Option Value} (n : h.Ns1 dx mA) : ∃ od, h.get? dx = some od ∧ ∀ name, PySem.W.lookIn name od = some (mA name) := by
  obtain ⟨o, es, ep, ho, hd, hk, _, hm⟩ := n
  refine ⟨o, ho, fun name => ?_⟩
  have e := hm name
  unfold nsFind findBy at e
  rw [← Array.find?_toList] at e
  unfold PySem.W.lookIn
  rw [hd]
  dsimp only
  split
  · rename_i y q
    rw [q] at e
    exact congrArg some e
  · rename_i q
    rw [q] at e
    have a : es.toList.any (·.refKey) = false := by
      rw [List.any_eq_false]
      intro y hy
      obtain ⟨z, t, hkey⟩ := hk y (Array.mem_toList_iff.mp hy)
      simp [DictEntry.refKey, hkey]
    have a' : ¬ es.toList.any (·.refKey) = true := by rw [a]; exact Bool.false_ne_true
    rw [if_neg a']
    exact congrArg some e

theorem ObjM.look {h : Heap} {x dx C : Addr} {mA : Str → Option Value} (I : ObjM h x dx C mA) : ∃ od, PySem.W.InstAt h x (PySem.W.instObj C dx) C (some od) ∧ ∀ name, PySem.W.lookIn name od = some (mA name) :=
  let ⟨od, ho, hl⟩ := lookIn_ns I.ns
  ⟨od, ⟨I.obj, rfl, rfl, ho⟩, hl⟩

section
variable {prog : Program} {w : World} {A : Around} {E : Value → Shared → Prop} {s : Shared} {K : PySem.W.Frag} {x dx C f : Addr} {mA : Str → Option Value} {name : Str} {v : Value}

theorem get_map {expr : Bool} {Q : Value → Shared → Prop} (X : K.In s.heap) (I : ObjM s.heap x dx C mA) (hg : PySem.W.plainGet K C name = true) (hh : PySem.W.hasDictIn K C = true)
    (ha : PySem.W.findIn K (.ref C) name = some none) (hv : mA name = some v) (hv' : PySem.W.handedIn v = true) (h : Q v { s with toks := s.toks + 1 }) :
    wpAny (model prog w) A (getAttr (.ref x) name expr) Q E s := by
  obtain ⟨od, J, hl⟩ := I.look
  exact PySem.W.get_value X J (PySem.W.plainGet_of hg).1 (PySem.W.findObj_own hh ha rfl (by rw [hl, hv])) hv' h

theorem get_meth {pl : Sem Bool} {Q : Value × List Value → Shared → Prop} (X : K.In s.heap) (I : ObjM s.heap x dx C mA) (hg : PySem.W.plainGet K C name = true)
    (hf : PySem.W.findIn K (.ref C) name = some (some (.ref f))) (ht : PySem.W.isFn K (.ref f) = true) (hv : mA name = none) (h : Q (.ref f, [.ref x]) s) :
    wpAny (model prog w) A (getMethod (.ref x) name pl) Q E s := by
  obtain ⟨od, J, hl⟩ := I.look
  exact PySem.W.method_fn X J (PySem.W.plainGet_of hg).1 (PySem.W.plainGet_of hg).2 hf (beq_iff_eq.mp ht) (by show (PySem.W.lookIn name od).map (·.isSome) = some false; rw [hl, hv]; rfl) h

theorem set_map {ns : List Str} {Q : Unit → Shared → Prop} (X : K.In s.heap) (I : ObjM s.heap x dx C mA)
    (hs : PySem.W.findIn K (.ref C) "__setattr__" = some (some (.builtin "object.__setattr__"))) (hp : PySem.W.plainOver K C = true) (ht : PySem.W.takerIn K C name = some none) (hh : PySem.W.hasDictIn K C = true)
    (hw : PySem.Within mA ns) (hsz : ns.length ≤ sizeLine)
    (h : ∀ h', ObjM h' x dx C (fun y => if y = name then some v else mA y) → Heap.SameBut dx s.heap h' → Q () { s with heap := h', toks := s.toks + 2 }) :
    wpAny (model prog w) A (setAttr (.ref x) name v) Q E s := by
  obtain ⟨od, J, hl⟩ := I.look
  refine PySem.W.set_plain X J hs (PySem.W.osa_open (s := { s with toks := s.toks + 1 }) (r := none) X J hp ht fun b => ?_)
  obtain ⟨cd, hc, hd'⟩ := PySem.W.any_some hh
  have hx : s.heap.get? x = some ⟨.ref C, some dx, .plain, #[]⟩ := I.obj
  refine wpAny_bind (wpAny_pure (wpAny_bind (wpAny_bind (wpAny_loadPart hx (wpAny_bind (PySem.W.Looks.here (s := { s with toks := s.toks + 1 }) (PySem.W.looks_clsIn X hc) ?_))))))
  rw [hd']
  refine wpAny_pure (a := some dx) (wpAny_bind (wpAny_pure (wpAny_bind ?_)))
  refine wpAny_nsSet1 (s := { s with toks := s.toks + 1 }) I.ns fun h' hn2 hs2 => ?_
  obtain ⟨oD, esD, epD, hoD, hdD, hcD⟩ := hn2.count (PySem.Within.cons name v hw)
  refine wpAny_bind (wpAny_lookBehind hoD (by rw [hdD]; exact pastItsLine_dict (Nat.le_trans hcD (by rw [List.length_cons]; omega))) ?_)
  exact wpAny_pure (h _ ⟨(hs2.2 _ (Ne.symm I.ne)).trans I.obj, hn2, I.ne⟩ hs2)

/-- C(..): the dict at the heap's end, the instance behind it; then its __init__ -/
theorem make_map {R : Result → Shared → Prop} {vs : List Value} {kw : List (Str × Value)} (X : K.In s.heap) (hm : PySem.W.makesIn K C = true)
    (hi : PySem.W.findIn K (.ref C) "__init__" = some (some (.ref f))) (hf : PySem.W.typeIn K (.ref f) = some (.type "function"))
    (h : codeAny (model prog w) (A.under (.builtin "type.__call__" ⟨.ref C :: vs, kw⟩)) (.call (.ref f) ⟨.ref (s.heap.objs.size + 1) :: vs, kw⟩) (PySem.W.InitBack (s.heap.objs.size + 1) R)
      { s with heap := (s.heap.push PySem.W.emptyDict).push (PySem.W.instObj C s.heap.objs.size) }) :
    codeAny (model prog w) A (.call (.ref C) ⟨vs, kw⟩) R s := by
  obtain ⟨hh, g, d, t, os⟩ := s
  exact PySem.W.make_core (PySem.W.makes_of X hm) (PySem.W.looks_findIn X hi) (fun self => PySem.W.bind_fn X self hf) (.inl rfl) h
end

def putF (f : Str) (v : V) : List (Str × V) → List (Str × V)
  | [] => [(f, v)]
  | (g, x) :: r => if g = f then (g, v) :: r else (g, x) :: putF f v r
theorem lookup_putF (f g : Str) (v : V) : ∀ fs : List (Str × V), (putF f v fs).lookup g = if g = f then some v else fs.lookup g
  | [] => by
    show List.lookup g [(f, v)] = _
    by_cases h : g = f
    · have hb : (g == f) = true := beq_iff_eq.mpr h
      simp only [List.lookup, hb, if_pos h]
    · have hb : (g == f) = false := beq_eq_false_iff_ne.mpr h
      simp only [List.lookup, hb, if_neg h]
  | (k, x) :: r => by
    have ih := lookup_putF f g v r
    rw [show putF f v ((k, x) :: r) = (if k = f then (k, v) :: r else (k, x) :: putF f v r) from rfl]
    by_cases hk : k = f
    · rw [if_pos hk]
      by_cases h : g = k
      · have hb : (g == k) = true := beq_iff_eq.mpr h
        simp only [List.lookup, hb, if_pos (h.trans hk)]
      · have hb : (g == k) = false := beq_eq_false_iff_ne.mpr h
        simp only [List.lookup, hb, if_neg (fun e : g = f => h (e.trans hk.symm))]
    · rw [if_neg hk]
      by_cases h : g = k
      · have hb : (g == k) = true := beq_iff_eq.mpr h
        simp only [List.lookup, hb, if_neg (fun e : g = f => hk (h.symm.trans e))]
      · have hb : (g == k) = false := beq_eq_false_iff_ne.mpr h
        simp only [List.lookup, hb]
        exact ih
theorem keys_putF (f : Str) (v : V) : ∀ fs : List (Str × V), f ∈ (putF f v fs).map (·.1) ∧ ∀ g, g ∈ fs.map (·.1) → g ∈ (putF f v fs).map (·.1)
  | [] => ⟨by simp [putF], fun g h => by simp at h⟩
  | (k, x) :: r => by
    obtain ⟨i1, i2⟩ := keys_putF f v r
    rw [show putF f v ((k, x) :: r) = (if k = f then (k, v) :: r else (k, x) :: putF f v r) from rfl]
    by_cases hk : k = f
    · rw [if_pos hk]
      subst hk
      exact ⟨by simp, fun g h => by simpa using h⟩
    · rw [if_neg hk]
      refine ⟨?_, fun g h => ?_⟩
      · rw [List.map_cons]
        exact List.mem_cons_of_mem _ i1
      · rw [List.map_cons] at h ⊢
        rcases List.mem_cons.mp h with e | e
        · exact List.mem_cons.mpr (.inl e)
        · exact List.mem_cons_of_mem _ (i2 g e)
theorem length_putF (f : Str) (v : V) : ∀ fs : List (Str × V), (putF f v fs).length ≤ fs.length + 1
  | [] => by simp [putF]
  | (k, x) :: r => by
    have ih := length_putF f v r
    rw [show putF f v ((k, x) :: r) = (if k = f then (k, v) :: r else (k, x) :: putF f v r) from rfl]
    by_cases hk : k = f
    · rw [if_pos hk, List.length_cons, List.length_cons]; omega
    · rw [if_neg hk, List.length_cons, List.length_cons]; omega

theorem RelO.some_of {v : V} {o : Option Value} (r : RelO (some v) o) : ∃ u, o = some u ∧ RelV v u := by
  cases o with
  | none => exact (show False from r).elim
  | some u => exact ⟨u, rfl, r⟩
theorem RelO.none_of {o : Option Value} (r : RelO none o) : o = none := by
  cases o with
  | none => rfl
  | some u => exact (show False from r).elim
theorem handed_of {v : V} {u : Value} (r : RelV v u) : PySem.W.handedIn u = true := by
  cases v with
  | non => cases (show u = Value.none from r); rfl
  | bl b => cases (show u = Value.bool b from r); rfl
  | int i => obtain ⟨t, e⟩ := (show ∃ t, u = Value.int i t from r); cases e; rfl
  | str x => obtain ⟨t, e⟩ := (show ∃ t, u = Value.str x t from r); cases e; rfl
  | byt b => obtain ⟨t, e⟩ := (show ∃ t, u = Value.bytes b t from r); cases e; rfl
  | flt b => obtain ⟨t, e⟩ := (show ∃ t, u = Value.float b t from r); cases e; rfl
  | ref a => cases (show u = Value.ref a from r); rfl
  | ty n => cases (show u = Value.type n from r); rfl

section
variable {P : Program} {w : World} {H H' : Hp} {h h' : Heap} {a C dx : Addr} {fs fs' : List (Str × V)}
theorem ins_get (hok : HOk P w H h) (e : H a = some (.ins C dx fs)) : ∃ mA, ObjM h a dx C mA ∧ (∀ f, RelO (fs.lookup f) (mA f)) ∧ PySem.Within mA (fs.map (·.1)) ∧ fs.length ≤ 1000 ∧ H dx = some (.own a) := by
  obtain ⟨d, z, ne, ob, mA, n, r, q⟩ := (show ObjOk P w H h a (.ins C dx fs) from hok a _ e)
  exact ⟨mA, ⟨ob, n, ne⟩, r, q, z, d⟩
end

structure Cls (K : PySem.W.Frag) (C : Addr) : Prop where
  pg : PySem.W.plainGet K C Str.empty = true
  hd : PySem.W.hasDictIn K C = true
  po : PySem.W.plainOver K C = true
  sa : PySem.W.findIn K (.ref C) "__setattr__" = some (some (.builtin "object.__setattr__"))
theorem Cls.get {K : PySem.W.Frag} {C : Addr} (c : Cls K C) (f : Str) : PySem.W.plainGet K C f = true := c.pg
/-- no class of it has the name -/
def NoAttr (K : PySem.W.Frag) (C : Addr) (f : Str) : Prop := PySem.W.findIn K (.ref C) f = some none
theorem NoAttr.taker {K : PySem.W.Frag} {C : Addr} {f : Str} (n : NoAttr K C f) : PySem.W.takerIn K C f = some none := by
  unfold PySem.W.takerIn
  rw [show PySem.W.findIn K (.ref C) f = some none from n]
  rfl
/-- a method: a plain def of the class or of one above it -/
structure Meth (K : PySem.W.Frag) (C : Addr) (m : Str) (f : Addr) : Prop where
  at_ : PySem.W.findIn K (.ref C) m = some (some (.ref f))
  fn : PySem.W.isFn K (.ref f) = true
  kp : PySem.W.keepIn K (.ref f) = true

section
variable {X : Cx} {pins : List (Addr × Obj)} {σ : St} {H : Hp} {s : Shared} {a C dx : Addr} {fs : List (Str × V)} {f : Str} {v : V} {A : Around} {E : Value → Shared → Prop}

theorem getattr_ok {b : Bool} {Q : Value → Shared → Prop} (I : Inv X pins σ H s) (e : H a = some (.ins C dx fs)) (c : Cls X.K C) (n : NoAttr X.K C f) (l : fs.lookup f = some v)
    (h : ∀ u s', Inv X pins σ H s' → RelV v u → Q u s') : wpAny (model X.prog X.w) A (getAttr (.ref a) f b) Q E s := by
  obtain ⟨mA, O, r, _, _, _⟩ := ins_get I.hok e
  obtain ⟨u, hu, ru⟩ := RelO.some_of (v := v) (o := mA f) (by rw [← l]; exact r f)
  exact get_map I.kIn O (c.get f) c.hd n hu (handed_of ru) (h u _ (I.tok _) ru)

theorem getmeth_ok {m : Str} {g : Addr} {pl : Sem Bool} {Q : Value × List Value → Shared → Prop} (I : Inv X pins σ H s) (e : H a = some (.ins C dx fs)) (c : Cls X.K C) (k : Meth X.K C m g) (l : fs.lookup m = none)
    (h : Q (.ref g, [.ref a]) s) : wpAny (model X.prog X.w) A (getMethod (.ref a) m pl) Q E s := by
  obtain ⟨mA, O, r, _, _, _⟩ := ins_get I.hok e
  have hn : mA m = none := RelO.none_of (by rw [← l]; exact r m)
  exact get_meth I.kIn O (c.get m) k.at_ k.fn hn h

theorem setattr_ok {y : V} {u : Value} {Q : Unit → Shared → Prop} (I : Inv X pins σ H s) (e : H a = some (.ins C dx fs)) (c : Cls X.K C) (n : NoAttr X.K C f) (hl : fs.length < 1000) (ry : RelV y u)
    (h : ∀ s', Inv X pins σ (upd H a (.ins C dx (putF f y fs))) s' → Q () s') : wpAny (model X.prog X.w) A (setAttr (.ref a) f u) Q E s := by
  obtain ⟨mA, O, r, wi, _, ho⟩ := ins_get I.hok e
  have hz : (fs.map (·.1)).length ≤ sizeLine := by rw [List.length_map, sizeLine_eq]; omega
  refine set_map I.kIn O c.sa c.po n.taker c.hd wi hz fun h' O' sb => h _ ?_
  have hd : ∃ o, h'.get? dx = some o := let ⟨o, _, _, e', _⟩ := O'.ns; ⟨o, e'⟩
  refine I.write (x := a) (e := dx) (by rw [e]; exact True.intro) (.inr ho) (fun b q hb z => (sb.2 b hb).trans z) hd ?_
  refine ⟨by rw [upd_ne O.ne]; exact ho, ?_, O.ne, O'.obj, _, O'.ns, fun g => ?_, fun g hg => ?_⟩
  · have := length_putF f y fs; omega
  · show RelO ((putF f y fs).lookup g) (if g = f then some u else mA g)
    rw [lookup_putF]
    by_cases q : g = f
    · rw [if_pos q, if_pos q]; exact ry
    · rw [if_neg q, if_neg q]; exact r g
  · by_cases q : g = f
    · rw [q]; exact (keys_putF f y fs).1
    · refine (keys_putF f y fs).2 g (wi g fun z => hg ?_)
      show (if g = f then some u else mA g) = none
      rw [if_neg q]; exact z

/-- a new instance, tracked, without attributes -/
theorem Inv.made (I : Inv X pins σ H s) : Inv X pins σ (upd (upd H s.heap.objs.size (.own (s.heap.objs.size + 1))) (s.heap.objs.size + 1) (.ins C s.heap.objs.size []))
    { s with heap := (s.heap.push PySem.W.emptyDict).push (PySem.W.instObj C s.heap.objs.size) } := by
  have e1 : (s.heap.push PySem.W.emptyDict).get? s.heap.objs.size = some PySem.W.emptyDict := Heap.get?_push_size s.heap rfl
  have e2 : ((s.heap.push PySem.W.emptyDict).push (PySem.W.instObj C s.heap.objs.size)).get? (s.heap.objs.size + 1) = some (PySem.W.instObj C s.heap.objs.size) := by
    have := Heap.get?_push_size (s.heap.push PySem.W.emptyDict) (o := PySem.W.instObj C s.heap.objs.size) rfl
    rwa [Heap.size_push] at this
  have e3 : (s.heap.push PySem.W.emptyDict).Ns s.heap.objs.size (fun _ => none) := ⟨PySem.W.emptyDict, #[], _, e1, rfl, (fun e he => absurd he (by simp)), fun _ => rfl⟩
  have I1 := I.laid (a := s.heap.objs.size) (o := .own (s.heap.objs.size + 1)) (h' := s.heap.push PySem.W.emptyDict) (t' := s.toks) (fun b u q => Heap.get?_push_of_some _ q) (Nat.le_refl _) ⟨_, e1⟩
  refine I1.laid (a := s.heap.objs.size + 1) (o := .ins C s.heap.objs.size []) (t' := s.toks) (fun b u q => Heap.get?_push_of_some _ q) (Nat.le_of_eq (Heap.size_push _ _)) ?_
  have ne : s.heap.objs.size ≠ s.heap.objs.size + 1 := Nat.ne_of_lt (Nat.lt_succ_self _)
  refine ⟨by rw [upd_ne ne, upd_same], Nat.zero_le _, ne, e2, fun _ => none, (Heap.Ns1.of_empty e3).at fun o q => Heap.get?_push_of_some _ q, fun _ => True.intro, fun y hy => absurd rfl hy⟩

/-- e.f where nothing but the object is asked: through attributeBase (super) and the last hold -/
theorem attr_of {prog : Program} {w : World} {env : Env} {e : Expr} {f : Str} {pos : Pos} {s : Shared} {Q : Value → Shared → Prop} (hb : attributeBase e f env (eval e env) = eval e env)
    (h : wpAny (model prog w) A (eval e env) (fun o s₁ => wpAny (model prog w) A (getAttr o f true) Q E s₁) E s) : wpAny (model prog w) A (eval (.Attribute e f pos) env) Q E s :=
  Attribute_any_ h (by rw [arm_eval_Attribute, hb])
end

/-- e.f, an attribute of the instance -/
def tFld (K : PySem.W.Frag) (ta : TE) (f : Str) : TE := fun σ H Q => ta σ H fun x H1 => ∃ a C dx fs v, x = .ref a ∧ H1 a = some (.ins C dx fs) ∧ Cls K C ∧ NoAttr K C f ∧ fs.lookup f = some v ∧ Q v H1
/-- e.f = value -/
def sFld (K : PySem.W.Frag) (ta tv : TE) (f : Str) : TS := fun D σ H => tv σ H fun y H1 => ta σ H1 fun x H2 => ∃ a C dx fs, x = .ref a ∧ H2 a = some (.ins C dx fs) ∧ Cls K C ∧ NoAttr K C f ∧ fs.length < 1000 ∧
  D.nx σ (upd H2 a (.ins C dx (putF f y fs)))
section
variable {X : Cx} {o e value : Expr} {f : Str} {pos pos' tpos : Pos} {ta tv : TE}
theorem pe_fld (he : PE X e ta) (hb : attributeBase e f X.env (eval e X.env) = eval e X.env) : PE X (.Attribute e f pos) (tFld X.K ta f) := by
  intro pins s σ H Q I h
  refine attr_of hb (thn (he pins s σ H _ I h) fun u s1 ⟨x, H1, I1, rx, a, C, dx, fs, v, ex, ea, c, n, l, q⟩ => ?_)
  subst ex
  obtain rfl : u = Value.ref a := rx
  exact getattr_ok I1 ea c n l fun u' s2 I2 ru => ⟨v, H1, I2, ru, q⟩
theorem ps_fld (ha : PE X o ta) (hv : PE X value tv) (hs : swapsWith value (some (.Attribute o f pos')) pos.line X.env = pure false) : PS X (.Assign [.Attribute o f pos'] value pos) (sFld X.K ta tv f) := by
  intro pins s σ H D I h
  refine plainObj_wpAny_Assign_Attribute (thn (hv pins s σ H _ I h) fun u s1 ⟨y, H1, I1, ry, q⟩ => thn (ha pins s1 σ H1 _ I1 q) fun ov s2 ⟨x, H2, I2, rx, a, C, dx, fs, ex, ea, c, n, l, q2⟩ => ?_) hs
  subst ex
  obtain rfl : ov = Value.ref a := rx
  exact setattr_ok I2 ea c n l ry fun s3 I3 => ⟨σ, _, I3, q2⟩
end

section
variable {X : Cx} {pins : List (Addr × Obj)} {σ : St} {H : Hp} {s : Shared} {A : Around} {E : Value → Shared → Prop} {Q : Value → Shared → Prop} {c : Value} {b : Bool}
/-- the type of a value, as the fragment's deciders take it; for an instance its class -/
inductive TyOf (K : PySem.W.Frag) (H : Hp) : V → Value → Prop where
  | non : TyOf K H .non (.type "NoneType")
  | bl (x : Bool) : TyOf K H (.bl x) (.type "bool")
  | int (i : Int) : TyOf K H (.int i) (.type "int")
  | str (x : Str) : TyOf K H (.str x) (.type "str")
  | flt (x : UInt64) : TyOf K H (.flt x) (.type "float")
  | lst {a : Addr} {xs : List V} (e : H a = some (.lst xs)) : TyOf K H (.ref a) (.type "list")
  | frz {a : Addr} {o : Obj} {xs : List V} (e : H a = some (.frz o (.lst xs))) : TyOf K H (.ref a) (.type "list")
  | tup {a : Addr} {xs : List V} (e : H a = some (.tup xs)) : TyOf K H (.ref a) (.type "tuple")
  | dK {a : Addr} {kvs : List (Key × V)} (e : H a = some (.dK kvs)) : TyOf K H (.ref a) (.type "dict")
  | dT {a : Addr} {kvs : List (List Key × V)} (e : H a = some (.dT kvs)) : TyOf K H (.ref a) (.type "dict")
  | ins {a C dx : Addr} {fs : List (Str × V)} (e : H a = some (.ins C dx fs)) (cl : Cls K C) (ha : PySem.W.findIn K (.ref C) "__class__" = some (some (.builtin "object.__class__")))
      (hn : PySem.W.specialIn K (.builtin "object.__class__") "__get__" = some (some (.builtin "getset_descriptor.__get__"))) (htk : PySem.W.takesIn K (.builtin "object.__class__") = some true)
      (hm : PySem.W.mroIn K C (.type "object") = some true) : TyOf K H (.ref a) (.ref C)
/-- isinstance(x, c) for one class c, a built-in or an own one: kitOne's answer -/
theorem isinst_ok {x : V} {u t : Value} (I : Inv X pins σ H s) (rx : RelV x u) (ty : TyOf X.K H x t) (e : PySem.W.kitOne X.K t c = some b) (h : ∀ tk, Q (.bool b) { s with toks := tk }) :
    wpAny (model X.prog X.w) A (call (.builtin "isinstance") [u, c]) Q E s := by
  cases ty with
  | non => cases (show u = Value.none from rx); exact PySem.W.kia_one PySem.W.kitx_none I.kIn True.intro e (fun z => nomatch z) h
  | bl y => cases (show u = Value.bool y from rx); exact PySem.W.kia_one PySem.W.kitx_bool I.kIn True.intro e (fun z => nomatch z) h
  | int i => obtain ⟨t, q⟩ := (show ∃ t, u = Value.int i t from rx); cases q; exact PySem.W.kia_one PySem.W.kitx_int I.kIn True.intro e (fun z => nomatch z) h
  | str y => obtain ⟨t, q⟩ := (show ∃ t, u = Value.str y t from rx); cases q; exact PySem.W.kia_one PySem.W.kitx_str I.kIn True.intro e (fun z => nomatch z) h
  | flt y => obtain ⟨t, q⟩ := (show ∃ t, u = Value.float y t from rx); cases q; exact PySem.W.kia_one PySem.W.kitx_float I.kIn True.intro e (fun z => nomatch z) h
  | @lst a xs ea =>
    cases (show u = Value.ref a from rx)
    obtain ⟨_, _, n, _, h1⟩ := (show ObjOk X.prog X.w H s.heap a (.lst xs) from I.hok a _ ea)
    exact PySem.W.kia_one PySem.W.kitx_list I.kIn ⟨_, h1, rfl⟩ e (fun z => nomatch z) h
  | @frz a ob xs ea =>
    cases (show u = Value.ref a from rx)
    obtain ⟨_, _, _, n, _, h1⟩ := (show ObjOk X.prog X.w H s.heap a (.frz ob (.lst xs)) from I.hok a _ ea)
    exact PySem.W.kia_one PySem.W.kitx_list I.kIn ⟨_, h1, rfl⟩ e (fun z => nomatch z) h
  | @tup a xs ea =>
    cases (show u = Value.ref a from rx)
    obtain ⟨_, _, _, p⟩ := (show ObjOk X.prog X.w H s.heap a (.tup xs) from I.hok a _ ea)
    obtain ⟨o, h1, h2, _⟩ := p
    exact PySem.W.kia_one PySem.W.kitx_tuple I.kIn ⟨o, h1, h2⟩ e (fun z => nomatch z) h
  | @dK a kvs ea =>
    cases (show u = Value.ref a from rx)
    obtain ⟨_, _, vs, _, p⟩ := (show ObjOk X.prog X.w H s.heap a (.dK kvs) from I.hok a _ ea)
    obtain ⟨o, es, ep, h1, h2, _⟩ := p
    exact PySem.W.kia_one PySem.W.kitx_dict I.kIn ⟨o, h1, h2.1⟩ e (fun z => nomatch z) h
  | @dT a kvs ea =>
    cases (show u = Value.ref a from rx)
    obtain ⟨_, _, xs, _, o, es, ep, h1, h2, _⟩ := (show ObjOk X.prog X.w H s.heap a (.dT kvs) from I.hok a _ ea)
    exact PySem.W.kia_one PySem.W.kitx_dict I.kIn ⟨o, h1, h2.1⟩ e (fun z => nomatch z) h
  | @ins a C dx fs ea cl ha hn htk hm =>
    cases (show u = Value.ref a from rx)
    obtain ⟨mA, O, _⟩ := ins_get I.hok ea
    obtain ⟨od, J, _⟩ := O.look
    exact PySem.W.kia_one (PySem.W.kitx_own (cl.get _) cl.hd ha hn htk hm) I.kIn J e (fun z => nomatch z) h
end
end L2

namespace L2
open PySem PySem.Spec PyProof.Rows

structure Room (k : Nat) (A : Around) : Prop where
  hd : A.handled = none
  dp : A.depth + 3 * k + 5 < recursionLimit
  un : A.units + 16 * k + 200 < cLine
theorem Room.mono {j k : Nat} {A : Around} (r : Room k A) (h : j ≤ k) : Room j A := ⟨r.hd, by have := r.dp; omega, by have := r.un; omega⟩
theorem Room.deeper {k : Nat} {A : Around} (r : Room (k + 1) A) (env : Env) : Room k (A.deeper env) :=
  ⟨r.hd, by have := r.dp; show A.depth + 1 + 3 * k + 5 < _; omega, by have := r.un; show A.units + 3 + 16 * k + 200 < _; omega⟩
theorem make_depth {A : Around} {C : Addr} {us : List Value} {kw : List (Str × Value)} : (A.under (.builtin "type.__call__" ⟨.ref C :: us, kw⟩)).depth = A.depth + 1 := by
  first | rfl | simp [Around.under, Code.weight, Code.isCreation, Code.isGuard, Code.isCaller, Code.frames, Code.isFrame, guardIds]
theorem make_units {A : Around} {C : Addr} {us : List Value} {kw : List (Str × Value)} : (A.under (.builtin "type.__call__" ⟨.ref C :: us, kw⟩)).units = A.units + 1 := by
  first | rfl | simp [Around.under, Code.cUnits, Code.frames, Code.isFrame]
theorem Room.make {k : Nat} {A : Around} (r : Room (k + 1) A) (C : Addr) (us : List Value) (kw : List (Str × Value)) : Room k (A.under (.builtin "type.__call__" ⟨.ref C :: us, kw⟩)) :=
  ⟨r.hd, by have := r.dp; rw [make_depth]; omega, by have := r.un; rw [make_units]; omega⟩
theorem Room.depth {k : Nat} {A : Around} (r : Room k A) : A.depth < recursionLimit := by have := r.dp; omega
theorem Room.units {k : Nat} {A : Around} (r : Room k A) : A.units + 64 < cLine := by have := r.un; omega
def tNil : TA := fun _ H Q => Q [] H
def tCons (ta : TE) (tr : TA) : TA := fun σ H Q => ta σ H fun x H1 => tr σ H1 fun xs H2 => Q (x :: xs) H2
section
variable {X : Cx} {e : Expr} {es : List Expr} {te : TE} {t : TA} {pos : Pos}
theorem pa_nil : PA X [] tNil := fun _ _ _ _ H Q I h => Calls.spliced_nil ⟨[], H, I, .nil, h⟩
theorem pa_cons (ha : PE X e te) (hr : PA X es t) (hs : starEach (e :: es) X.env = (false, eval e X.env) :: starEach es X.env := by rfl) : PA X (e :: es) (tCons te t) := by
  intro pos pins s σ H Q I h
  rw [hs]
  show wpAny _ _ (spliced ((false, eval e X.env) :: backTo pos (starEach es X.env))) _ _ s
  refine Calls.spliced_cons (thn (ha pins s σ H _ I h) fun u s1 ⟨x, H1, I1, r1, q1⟩ => ?_)
  exact thn (hr pos pins s1 σ H1 _ I1 q1) fun us s2 ⟨xs, H2, I2, r2, q2⟩ => ⟨x :: xs, H2, I2, .cons r1 r2, q2⟩

/-- a tuple, a list of written items -/
def tTup (t : TA) : TE := fun σ H Q => t σ H fun xs H1 => xs.length ≤ sizeLine ∧ ∀ p, H1 p = none → Q (.ref p) (upd H1 p (.tup xs))
def tLst (t : TA) : TE := fun σ H Q => t σ H fun xs H1 => xs.length ≤ sizeLine ∧ ∀ p, H1 p = none → Q (.ref p) (upd H1 p (.lst xs))
theorem pe_tup {x1} (h : PA X es t) : PE X (.Tuple es x1 pos) (tTup t) := by
  intro pins s σ H Q I hq
  refine wpAny_Tuple_spliced (thn (h pos pins s σ H _ I hq) fun us s1 ⟨xs, H1, I1, r, z, q⟩ => ⟨by rw [← r.length]; exact z, ?_⟩)
  have hf : H1 s1.heap.objs.size = none := I1.hok.fresh (Nat.le_refl _)
  refine ⟨.ref s1.heap.objs.size, upd H1 s1.heap.objs.size (.tup xs), I1.laid (t' := s1.toks) (fun b u e => Heap.get?_push_of_some _ e) (Nat.le_refl _) ?_, rfl, q _ hf⟩
  exact ⟨⟨z, _, Heap.get?_push_size _ rfl, rfl⟩, us, r, ⟨_, Heap.get?_push_size _ rfl, rfl, _, rfl⟩⟩
theorem pe_lst (h : PA X es t) : PE X (.List es pos) (tLst t) := by
  intro pins s σ H Q I hq
  refine wpAny_List_spliced (thn (h pos pins s σ H _ I hq) fun us s1 ⟨xs, H1, I1, r, z, q⟩ => ⟨by rw [← r.length]; exact z, ?_⟩)
  have hf : H1 s1.heap.objs.size = none := I1.hok.fresh (Nat.le_refl _)
  refine ⟨.ref s1.heap.objs.size, upd H1 s1.heap.objs.size (.lst xs), I1.laid (t' := s1.toks) (fun b u e => Heap.get?_push_of_some _ e) (Nat.le_refl _) ?_, rfl, q _ hf⟩
  exact ⟨z, us, 0, r, Heap.get?_push_size _ rfl⟩
end

/-- a def's promise: the bound arguments in the parameters' order, the heap, the wanted end, the wanted exception -/
abbrev Sp := List V → Hp → VK → XK → Prop
/-- how an exception lies behind a call (file 08 gives it): the callers' frames, abstract heap and state ahead of the call, the wish, the exception, the state -/
abbrev CXT := List Env → Hp → Shared → XK → Value → Shared → Prop

/-- the state at a call -/
structure Env0 (P : Program) (w : World) (K : PySem.W.Frag) (mg : Str → Option Value) (base : Heap) (A : Around) (outer : List Env) (s : Shared) (H : Hp) : Prop where
  frames : A.frames = some outer
  mod : Mod K mg base
  bs : ∀ b o, base.get? b = some o → s.heap.get? b = some o ∧ H b = none
  bsz : base.objs.size ≤ s.heap.objs.size
  funs : s.heap.FunFrames base outer
  frf : ∀ b ∈ frs outer, H b = none
  hok : HOk P w H s.heap
  bare : AllBare s.gens
/-- a call's end -/
def CE (outer : List Env) (P : Program) (w : World) (H : Hp) (s : Shared) (Q : VK) (u : Value) (s' : Shared) : Prop :=
  ∃ v H', s'.os = s.os ∧ AllBare s'.gens ∧ Un (frs outer) [] H H' s.heap s'.heap ∧ HOk P w H' s'.heap ∧ RelV v u ∧ Q v H'
def CR (CX : CXT) (outer : List Env) (P : Program) (w : World) (H : Hp) (s : Shared) (Q : VK) (E : XK) (r : Result) (s' : Shared) : Prop :=
  match r with
  | .ok (.ret u) => CE outer P w H s Q u s'
  | .ok _ => False
  | .error e => CX outer H s E e s'
structure FnOk (P : Program) (w : World) (K : PySem.W.Frag) (mg : Str → Option Value) (base : Heap) (CX : CXT) (k : Nat) (f : Addr) (fd : FuncData) (ps : List Str) (sp : Sp) : Prop where
  len : ∀ vs H Q E, sp vs H Q E → vs.length = ps.length
  run : ∀ (A : Around) (outer : List Env) (s : Shared) (H : Hp) (args : Args) (us : List Value) (vs : List V) (Q : VK) (E : XK), Room k A → Env0 P w K mg base A outer s H → BindsTo s fd args (ps.zip us) → Vals vs us → sp vs H Q E →
    codeAny (model P w) A (.call (.ref f) args) (CR CX outer P w H s Q E) s
theorem Env0.make {P : Program} {w : World} {K : PySem.W.Frag} {mg : Str → Option Value} {base : Heap} {A : Around} {outer : List Env} {s : Shared} {H : Hp} (e : Env0 P w K mg base A outer s H) (C : Addr) (us : List Value) (kw : List (Str × Value)) :
    Env0 P w K mg base (A.under (.builtin "type.__call__" ⟨.ref C :: us, kw⟩)) outer s H := ⟨by first | exact e.frames | (simpa [Around.under, Code.envs, Code.isFrame, pushEnvs] using e.frames), e.mod, e.bs, e.bsz, e.funs, e.frf, e.hok, e.bare⟩
section
variable {X : Cx} {pins : List (Addr × Obj)} {σ : St} {H : Hp} {s s' : Shared}
/-- from a body: what a callee wants -/
theorem Inv.env0 (I : Inv X pins σ H s) : Env0 X.prog X.w X.K X.mg X.base X.A X.stack s H :=
  ⟨I.ok.frames, I.ok.mod, I.bs, Nat.le_trans I.ok.bsz I.sz, I.stack, I.stkFree, I.hok, I.bare⟩
/-- behind a call -/
theorem Inv.after {Q : VK} {u : Value} (I : Inv X pins σ H s) (h : CE X.stack X.prog X.w H s Q u s') : EP X pins σ Q u s' := by
  obtain ⟨v, H', os, bare, un, hok, r, q⟩ := h
  obtain ⟨hh, g, d, t, os'⟩ := s'
  obtain rfl : os' = s.os := os
  exact ⟨v, H', I.call (h' := hh) (g' := g) (d' := d) (t' := t) (ch := []) un hok bare (fun b z => absurd z (by simp)), r, q⟩
end

/-- f(..): the written arguments, then the defaults dvs; E: what is wanted of an exception -/
def tCall (sp : Sp) (dvs : List V) (E : XK) (t : TA) : TE := fun σ H Q => t σ H fun vs H1 => sp (vs ++ dvs) H1 Q E
/-- o.m(..) of an instance of the class at C -/
def tMeth (C : Addr) (m : Str) (sp : Sp) (dvs : List V) (E : XK) (ta : TE) (t : TA) : TE := fun σ H Q => ta σ H fun x H1 => ∃ a dx fs, x = .ref a ∧ H1 a = some (.ins C dx fs) ∧ fs.lookup m = none ∧
  t σ H1 fun vs H2 => sp (x :: (vs ++ dvs)) H2 Q E
/-- C(..): a new instance and its dict, then __init__ -/
def tMake (C : Addr) (sp : Sp) (dvs : List V) (E : XK) (t : TA) : TE := fun σ H Q => t σ H fun vs H1 => ∀ x dx, H1 x = none → H1 dx = none → dx ≠ x →
  sp (.ref x :: (vs ++ dvs)) (upd (upd H1 dx (.own x)) x (.ins C dx [])) (fun v H2 => v = .non ∧ Q (.ref x) H2) E

/-- how the parameters are bound: us the positional arguments, kw the keywords' values by name, ds the defaults that fill up -/
def Binds (K : PySem.W.Frag) (fd : FuncData) (ps : List Str) (ds : List Value) : Prop :=
  ∀ (s : Shared) (us : List Value), K.In s.heap → (us ++ ds).length = ps.length → BindsTo s fd ⟨us, []⟩ (ps.zip (us ++ ds))
/-- every parameter is given -/
theorem Binds.all {K : PySem.W.Frag} {fd : FuncData} {ps : List Str} (h : ∀ us : List Value, us.length = ps.length → bindArgs fd ⟨us, []⟩ = pure (ps.zip us)) : Binds K fd ps [] := fun s us _ hl => by
  rw [List.append_nil] at hl ⊢
  exact .of_eq (h us hl)

/-- an exception of a callee reaches what this body wants of exceptions -/
def Passes (CX : CXT) (X : Cx) (E : XK) : Prop := ∀ (pins : List (Addr × Obj)) (σ : St) (H : Hp) (s : Shared) (e : Value) (s' : Shared), Inv X pins σ H s → CX X.stack H s E e s' → X.xe e s'

section
variable {X : Cx} {CX : CXT} {k : Nat} {f C : Addr} {fd : FuncData} {ps : List Str} {sp : Sp} {dvs : List V} {ds : List Value} {E : XK} {x m : Str} {p pos apos : Pos} {e o : Expr} {es : List Expr} {ta : TE} {t : TA}

/-- the callee runs -/
theorem run_fn {pins : List (Addr × Obj)} {σ : St} {H : Hp} {s : Shared} {Q : VK} {us : List Value} {vs : List V} (F : FnOk X.prog X.w X.K X.mg X.base CX k f fd ps sp) (hr : Room k X.A) (hb : Binds X.K fd ps ds) (hd : Vals dvs ds) (hx : Passes CX X E)
    (I : Inv X pins σ H s) (r : Vals vs us) (h : sp (vs ++ dvs) H Q E) : wpAny (model X.prog X.w) X.A (call (.ref f) us) (EP X pins σ Q) X.xe s := by
  have r2 : Vals (vs ++ dvs) (us ++ ds) := r.append hd
  have hl : (us ++ ds).length = ps.length := by rw [← r2.length]; exact F.len _ _ _ _ h
  refine wpAny_call (codeAny_mono (F.run X.A X.stack s H ⟨us, []⟩ (us ++ ds) (vs ++ dvs) Q E hr I.env0 (hb s us I.kIn hl) r2 h) fun r s' hq => ?_)
  cases r with
  | error e => exact hx pins σ H s e s' I hq
  | ok fl =>
    cases fl with
    | ret u => exact I.after hq
    | next => exact False.elim hq
    | brk => exact False.elim hq
    | cont => exact False.elim hq

theorem pe_call (F : FnOk X.prog X.w X.K X.mg X.base CX k f fd ps sp) (hr : Room k X.A) (hg : Gl X x) (hm : X.mg x = some (.ref f)) (hk : PySem.W.keepIn X.K (.ref f) = true) (hb : Binds X.K fd ps ds) (hd : Vals dvs ds) (hx : Passes CX X E)
    (ha : PA X (e :: es) t) (hdb : (x == ("__debug__" : Str)) = false := by decide) (he : starEach (e :: es) X.env = (false, eval e X.env) :: starEach es X.env := by rfl) (hpl : (backTo pos (starEach es X.env)).any (·.1) = false := by rfl) :
    PE X (.Call (.Name x p) (e :: es) [] pos) (tCall sp dvs E t) := by
  intro pins s σ H Q I h
  refine wpAny_Call_Name_kw (ld_glob I hg hm ?_ hdb)
  refine PySem.W.callWith_K (h₀ := X.base) I.ok.mod.kin hk (thn (ha pos pins s σ H _ I h) fun us s1 ⟨vs, H1, I1, r, q⟩ => ⟨I1.kIn, ?_⟩) he hpl
  exact run_fn F hr hb hd hx I1 r q
/-- o.m() -/
theorem pe_meth0 {pl : Sem Bool} (he : PE X o ta) (c : Cls X.K C) (hm : Meth X.K C m f) (F : FnOk X.prog X.w X.K X.mg X.base CX k f fd ps sp) (hr : Room k X.A) (hb : Binds X.K fd ps ds) (hd : Vals dvs ds) (hx : Passes CX X E)
    (ht : eval (.Call (.Attribute o m apos) [] [] pos) X.env = (do
      let ov ← eval o X.env
      standAt apos.atName
      let (f, first) ← holding [ov] (getMethod ov m pl)
      callWith pos f first (backTo pos (starEach [] X.env)) (backToKw pos (keywordEach [] X.env))) := by rfl) :
    PE X (.Call (.Attribute o m apos) [] [] pos) (tMeth C m sp dvs E ta tNil) := by
  intro pins s σ H Q I h
  refine PySem.W.methodCall_KW (pl := pl) (thn (he pins s σ H _ I h) fun u s1 ⟨x, H1, I1, rx, a, dx, fs, ex, ea, l, q⟩ => ?_) ht
  subst ex
  obtain rfl : u = Value.ref a := rx
  refine getmeth_ok I1 ea c hm l ?_
  exact PySem.W.callWith_K0 (first := [.ref a]) I1.kIn hm.kp (run_fn (us := [.ref a]) (vs := [.ref a]) F hr hb hd hx I1 (.cons rfl .nil) q)

/-- what a class must have to be made -/
structure Mk (K : PySem.W.Frag) (C f : Addr) : Prop where
  makes : PySem.W.makesIn K C = true
  init : PySem.W.findIn K (.ref C) "__init__" = some (some (.ref f))
  fn : PySem.W.isFn K (.ref f) = true
  kp : PySem.W.keepIn K (.ref C) = true

theorem run_make {pins : List (Addr × Obj)} {σ : St} {H : Hp} {s : Shared} {Q : VK} {us : List Value} {vs : List V} (M : Mk X.K C f) (F : FnOk X.prog X.w X.K X.mg X.base CX k f fd ps sp) (hr : Room (k + 1) X.A) (hb : Binds X.K fd ps ds) (hd : Vals dvs ds)
    (hx : Passes CX X E) (I : Inv X pins σ H s) (r : Vals vs us)
    (h : ∀ x dx, H x = none → H dx = none → dx ≠ x → sp (.ref x :: (vs ++ dvs)) (upd (upd H dx (.own x)) x (.ins C dx [])) (fun v H2 => v = .non ∧ Q (.ref x) H2) E) :
    wpAny (model X.prog X.w) X.A (call (.ref C) us) (EP X pins σ Q) X.xe s := by
  have hq := h (s.heap.objs.size + 1) s.heap.objs.size (I.hok.fresh (Nat.le_succ _)) (I.hok.fresh (Nat.le_refl _)) (Nat.ne_of_lt (Nat.lt_succ_self _))
  have I2 := Inv.made (C := C) I
  have r2 : Vals (V.ref (s.heap.objs.size + 1) :: (vs ++ dvs)) (Value.ref (s.heap.objs.size + 1) :: (us ++ ds)) := .cons rfl (r.append hd)
  have hl : (Value.ref (s.heap.objs.size + 1) :: us ++ ds).length = ps.length := by
    have e := r2.length
    rw [F.len _ _ _ _ hq] at e
    exact e.symm
  refine wpAny_call (make_map (f := f) I.kIn M.makes M.init (beq_iff_eq.mp M.fn) (codeAny_mono (F.run _ X.stack _ _ ⟨Value.ref (s.heap.objs.size + 1) :: us, []⟩ (Value.ref (s.heap.objs.size + 1) :: (us ++ ds)) _ _ E (hr.make C us [])
    (I2.env0.make C us []) (hb _ (Value.ref (s.heap.objs.size + 1) :: us) I2.kIn hl) r2 hq) fun r s' hq' => ?_))
  cases r with
  | error e => exact hx pins σ _ _ e s' I2 hq'
  | ok fl =>
    cases fl with
    | ret u =>
      obtain ⟨v, H', I3, rv, ev, q3⟩ := I2.after hq'
      subst ev
      exact ⟨rv, ⟨V.ref (s.heap.objs.size + 1), H', I3, rfl, q3⟩⟩
    | next => exact False.elim hq'
    | brk => exact False.elim hq'
    | cont => exact False.elim hq'
theorem pe_make (M : Mk X.K C f) (F : FnOk X.prog X.w X.K X.mg X.base CX k f fd ps sp) (hr : Room (k + 1) X.A) (hg : Gl X x) (hm : X.mg x = some (.ref C)) (hb : Binds X.K fd ps ds) (hd : Vals dvs ds) (hx : Passes CX X E)
    (ha : PA X (e :: es) t) (hdb : (x == ("__debug__" : Str)) = false := by decide) (he : starEach (e :: es) X.env = (false, eval e X.env) :: starEach es X.env := by rfl) (hpl : (backTo pos (starEach es X.env)).any (·.1) = false := by rfl) :
    PE X (.Call (.Name x p) (e :: es) [] pos) (tMake C sp dvs E t) := by
  intro pins s σ H Q I h
  refine wpAny_Call_Name_kw (ld_glob I hg hm ?_ hdb)
  refine PySem.W.callWith_K (h₀ := X.base) I.ok.mod.kin M.kp (thn (ha pos pins s σ H _ I h) fun us s1 ⟨vs, H1, I1, r, q⟩ => ⟨I1.kIn, ?_⟩) he hpl
  exact run_make M F hr hb hd hx I1 r q
end

section
variable {X : Cx} {CX : CXT} {k : Nat} {f C : Addr} {fd : FuncData} {ps ks : List Str} {sp : Sp} {E : XK} {x m : Str} {p pos apos kpos : Pos} {e o : Expr} {es : List Expr} {kws : List Keyword} {te ta : TE} {t tk : TA} {nm : Option Str}
variable {g : List Value → List Value → List Value} {gV : List V → List V → List V}
end

/-- names: the parameters first -/
structure FnScope (N P : List Str) (sc : Scope) : Prop where
  kind : sc.kind = .function
  co : sc.isCoroutine = false
  gen : sc.isGenerator = false
  nd : N.Nodup
  pre : N.take P.length = P
  par : ∀ x ∈ P, sc.names.lookup x = some .local ∨ sc.names.lookup x = some .cell
  nofree : ∀ y ∈ sc.names, y.2 ≠ .free

theorem bindL_out {kindOf : Str → Option NameKind} {x : Str} : ∀ {binds : List (Str × Value)} {m : Str → Option Value}, (∀ v, (x, v) ∉ binds) → bindL kindOf binds m x = m x
  | [], _, _ => rfl
  | (n, v) :: r, m, h => by
    unfold bindL
    rw [bindL_out fun w hw => h w (List.mem_cons_of_mem _ hw)]
    split
    · have : x ≠ n := by rintro rfl; exact h v List.mem_cons_self
      simp [this]
    · rfl
theorem bindC_out {kindOf : Str → Option NameKind} {x : Str} : ∀ {binds : List (Str × Value)} {m : Str → Option Value}, (∀ v, (x, v) ∉ binds) → bindC kindOf binds m x = m x
  | [], _, _ => rfl
  | (n, v) :: r, m, h => by
    unfold bindC
    rw [bindC_out fun w hw => h w (List.mem_cons_of_mem _ hw)]
    split
    · rfl
    · have : x ≠ n := by rintro rfl; exact h v List.mem_cons_self
      simp [this]
theorem bindL_get {kindOf : Str → Option NameKind} {x : Str} {v : Value} : ∀ {P : List Str} {vs : List Value} {i : Nat} {m : Str → Option Value}, P.Nodup → P[i]? = some x → vs[i]? = some v → kindOf x = some .local →
    bindL kindOf (P.zip vs) m x = some v
  | [], _, _, _, _, h, _, _ => by simp at h
  | _ :: _, [], _, _, _, _, h, _ => by simp at h
  | p :: P, w :: vs, 0, m, nd, h1, h2, hk => by
    simp at h1 h2; subst h1; subst h2
    show bindL kindOf ((p, w) :: P.zip vs) m p = _
    unfold bindL
    rw [bindL_out fun v hv => (List.nodup_cons.mp nd).1 (List.of_mem_zip hv).1, if_pos hk]
    simp
  | p :: P, w :: vs, i + 1, m, nd, h1, h2, hk => by
    show bindL kindOf ((p, w) :: P.zip vs) m x = _
    unfold bindL
    exact bindL_get (i := i) (List.nodup_cons.mp nd).2 (by simpa using h1) (by simpa using h2) hk
theorem bindC_get {kindOf : Str → Option NameKind} {x : Str} {v : Value} : ∀ {P : List Str} {vs : List Value} {i : Nat} {m : Str → Option Value}, P.Nodup → P[i]? = some x → vs[i]? = some v → kindOf x ≠ some .local →
    bindC kindOf (P.zip vs) m x = some v
  | [], _, _, _, _, h, _, _ => by simp at h
  | _ :: _, [], _, _, _, _, h, _ => by simp at h
  | p :: P, w :: vs, 0, m, nd, h1, h2, hk => by
    simp at h1 h2; subst h1; subst h2
    show bindC kindOf ((p, w) :: P.zip vs) m p = _
    unfold bindC
    rw [bindC_out fun v hv => (List.nodup_cons.mp nd).1 (List.of_mem_zip hv).1, if_neg hk]
    simp
  | p :: P, w :: vs, i + 1, m, nd, h1, h2, hk => by
    show bindC kindOf ((p, w) :: P.zip vs) m x = _
    unfold bindC
    exact bindC_get (i := i) (List.nodup_cons.mp nd).2 (by simpa using h1) (by simpa using h2) hk

/-- the names' values at the entry -/
def start (N : List Str) (vs : List V) : St := vs.map some ++ List.replicate (N.length - vs.length) none

/-- the context of a def's body, at its entry; an exception leaves the frame, then lies as CX says -/
def cxOf (CX : CXT) (P : Program) (w : World) (K : PySem.W.Frag) (mg : Str → Option Value) (base : Heap) (N : List Str) (qual : Str) (scope : Scope) (f : Addr) (cd : Value) (A : Around) (outer : List Env) (s : Shared) (H : Hp) (E : XK) : Cx where
  prog := P
  w := w
  K := K
  mg := mg
  base := base
  A := A.deeper (envOfC qual scope s.heap.objs.size f cd)
  N := N
  s₀ := s
  H₀ := H
  env := envOfC qual scope s.heap.objs.size f cd
  outer := outer
  stack := envOfC qual scope s.heap.objs.size f cd :: outer
  ex := []
  calm := true
  fn := fun _ => true
  pn := []
  xe := fun e s' => wpAny (model P w) (A.deeper (envOfC qual scope s.heap.objs.size f cd)) (leaving (envOfC qual scope s.heap.objs.size f cd) e) (fun _ s'' => CX outer H s E e s'') (fun e' s'' => CX outer H s E e' s'') s'

theorem cell_has {sc : Scope} {n : Nat} {x : Str} (h : sc.names.lookup x = some .cell) : ∃ c, (cellsFrom n sc.names []).lookup x = some c := by
  have q := PySem.W.cellsFrom_some sc.names n [] (.inl h)
  exact Option.isSome_iff_exists.mp q

theorem inv_start {CX : CXT} {P : Program} {w : World} {K : PySem.W.Frag} {mg : Str → Option Value} {base : Heap} {N ps : List Str} {qual : Str} {scope : Scope} {f : Addr} {cd : Value} {A : Around} {outer : List Env} {s s1 : Shared} {H : Hp} {E : XK} {us : List Value} {vs : List V}
    (S : FnScope N ps scope) (hd : A.handled = none) (e0 : Env0 P w K mg base A outer s H) (hl : vs.length = ps.length) (r : Vals vs us)
    (x : InCallC s s.heap.objs.size (bindL (envOfC qual scope s.heap.objs.size f cd).kindOf (ps.zip us) fun _ => none) (cellsFrom (s.heap.objs.size + 1) scope.names []) (bindC (envOfC qual scope s.heap.objs.size f cd).kindOf (ps.zip us) fun _ => none) s1) :
    Inv (cxOf CX P w K mg base N qual scope f cd A outer s H E) [] (start N vs) H s1 := by
  have hpl : ps.length ≤ N.length := by have := congrArg List.length S.pre; rw [List.length_take] at this; omega
  obtain ⟨h1, tk, rfl, hk⟩ := x.done
  have noA : ∀ b : Addr, b ∉ (cxOf CX P w K mg base N qual scope f cd A outer s H E).ex := fun b z => absurd (show b ∈ ([] : List Addr) from z) (by simp)
  refine ⟨⟨e0.mod, S.kind, rfl, rfl, Nat.le_refl _, fun y z c h1 h2 => ?_, fun y hy => ?_, fun y c _ h => ?_, fun _ => hd, Around.frames_deeper e0.frames, .inr ⟨rfl, rfl⟩, fun b z => absurd z (noA b), e0.bs, e0.bsz, fun b _ _ => noA b, fun b z => absurd z (noA b), e0.funs, e0.frf⟩,
    rfl, e0.bare, Un.kept hk, ⟨_, x.toInCall.ns, fun i y v h1 h2 h3 => ?_⟩, fun y c h => ⟨_, x.cell y c h⟩, e0.hok.fresh (Nat.le_refl _), fun y c h => ?_, fun p hp => absurd (show p ∈ ([] : List (Addr × Obj)) from hp) (by simp), e0.hok.kept hk, ?_⟩
  · exact name_of_addr x.apart (PySem.mem_of_lookup h1) (PySem.mem_of_lookup h2)
  · have hy : scope.names.lookup y = some .cell ∨ scope.names.lookup y = some .free := hy
    rcases hy with hy | hy
    · exact cell_has hy
    · exact absurd rfl (S.nofree _ (PySem.mem_of_lookup hy))
  · exact Nat.le_of_lt (x.above y c (PySem.mem_of_lookup h))
  · have hi : i < vs.length := by
      unfold start at h2
      by_cases hi : i < vs.length
      · exact hi
      · rw [List.getElem?_append_right (by simpa using hi)] at h2
        rw [List.getElem?_replicate] at h2
        split at h2 <;> cases h2
    have ha : vs[i]? = some v := by
      unfold start at h2
      rw [List.getElem?_append_left (by simpa using hi), List.getElem?_map] at h2
      cases e : vs[i]? with
      | none => rw [e] at h2; cases h2
      | some a => rw [e] at h2; cases h2; rfl
    obtain ⟨u, hu, rv⟩ := r.get ha
    have hp : ps[i]? = some y := by
      rw [← S.pre, List.getElem?_take_of_lt (by omega)]; exact h1
    have ndP : ps.Nodup := by rw [← S.pre]; exact S.nd.sublist (List.take_sublist _ _)
    refine ⟨u, rv, ?_⟩
    rcases S.par y (List.mem_of_getElem? hp) with k | k
    · exact .inl ⟨k, bindL_get ndP hp hu k⟩
    · obtain ⟨c, e⟩ := cell_has (n := s.heap.objs.size + 1) k
      refine .inr ⟨.inl k, c, e, ?_⟩
      have q := x.cell y c e
      rw [bindC_get ndP hp hu (by show scope.names.lookup y ≠ _; rw [k]; decide)] at q
      exact q
  · exact e0.hok.fresh (Nat.le_of_lt (x.above y c (PySem.mem_of_lookup h)))
  · unfold start
    show _ = N.length
    rw [List.length_append, List.length_map, List.length_replicate]
    omega

/-- THE RULE: a def (or a method) of the text, by its body. The body's reading t is chosen for each entry; it is run at the parameters' values -/
theorem fn_of {CX : CXT} {P : Program} {w : World} {K : PySem.W.Frag} {mg : Str → Option Value} {base : Heap} {k : Nat} {f : Addr} {name qual : Str} {params : Arguments} {body : List Stmt} {scope : Scope} {dV kV doc pm cdv ct oc : Value} {an od : Option Addr}
    {osl : Array (Option Value)} {N ps : List Str} {sp : Sp} (lk : K.lookup f = some ⟨oc, od, .func (PySem.W.fnOf name qual params body scope dV kV doc pm an cdv ct), osl⟩) (hcd : PySem.W.codeIn K cdv qual = true) (S : FnScope N ps scope)
    (len : ∀ vs H Q E, sp vs H Q E → vs.length = ps.length)
    (hbody : ∀ (A : Around) (outer : List Env) (s : Shared) (H : Hp) (vs : List V) (Q : VK) (E : XK), Room k (A.deeper (envOfC qual scope s.heap.objs.size f cdv)) → sp vs H Q E →
      ∃ t, PSs (cxOf CX P w K mg base N qual scope f cdv A outer s H E) body t ∧ t { nx := fun _ H' => Q .non H', rt := Q } (start N vs) H) :
    FnOk P w K mg base CX (k + 1) f (PySem.W.fnOf name qual params body scope dV kV doc pm an cdv ct) ps sp := by
  refine ⟨len, fun A outer s H args us vs Q E hr e0 hb r hsp => ?_⟩
  have hl := len _ _ _ _ hsp
  have KX : K.In s.heap := e0.mod.kin.keeps fun b o e => (e0.bs b o e).1
  have lim : s.heap.NoLimit := e0.mod.nolimit.keeps fun b o e => (e0.bs b o e).1
  have hkind : ∀ y ∈ ps.zip us, scope.names.lookup y.1 = some .local ∨ (scope.names.lookup y.1 = some .cell ∧ ((cellsFrom (s.heap.objs.size + 1) scope.names []).lookup y.1).isSome = true) := fun ⟨n, v⟩ hy => by
    rcases S.par n (List.of_mem_zip hy).1 with q | q
    · exact .inl q
    · exact .inr ⟨q, PySem.W.cellsFrom_some _ _ _ (.inl q)⟩
  refine codeAny_call_function hr.depth (KX _ _ lk) rfl S.co S.gen rfl (PySem.W.codeRec_of KX hcd) (hb _ _ _ _ ?_)
  refine wpAny_newFunctionEnv_cells S.kind hkind fun env he s1 x => ?_
  subst he
  refine ⟨lim.keeps x.toInCall.keep, codeAny_func ?_⟩
  obtain ⟨t, ht, hq⟩ := hbody A outer s H vs Q E (hr.deeper _) hsp
  have I : Inv (cxOf CX P w K mg base N qual scope f cdv A outer s H E) [] (start N vs) H s1 := inv_start S hr.hd e0 hl r x
  refine wpAny_mono (ht [] s1 (start N vs) H _ I hq) (fun fl s' hs => ?_) fun e s' hs => hs
  have fin : ∀ {σ' : St} {H' : Hp} {v : V} {u : Value}, Inv (cxOf CX P w K mg base N qual scope f cdv A outer s H E) [] σ' H' s' → RelV v u → Q v H' → CE outer P w H s Q u s' :=
    fun {σ' H' v u} J rv q => ⟨v, H', J.os, J.bare, J.base, J.hok, rv, q⟩
  cases fl with
  | ret u =>
    obtain ⟨v, σ', H', J, rv, q⟩ := hs
    exact fin J rv q
  | next =>
    obtain ⟨σ', H', J, q⟩ := hs
    exact fin (v := V.non) (u := Value.none) J rfl q
  | brk =>
    obtain ⟨_, _, _, q⟩ := hs
    exact False.elim q
  | cont =>
    obtain ⟨_, _, _, q⟩ := hs
    exact False.elim q
end L2

namespace L2
open PySem PySem.Spec PyProof.Rows
section
variable {X : Cx} {x : Str} {p pos : Pos} {e : Expr} {es : List Expr} {t : TA} {id T : String} {r : List V → Hp → VK → Prop}

def tCB (r : List V → Hp → VK → Prop) (t : TA) : TE := fun σ H Q => t σ H fun vs H1 => r vs H1 Q
/-- f(e, ..), f a built-in function -/
theorem pe_callB (hc : CallR X (.builtin id) r) (hg : Gl X x) (hm : X.mg x = none) (hv : bootBuiltins x = some (.builtin id)) (ha : PA X (e :: es) t) (hn : x ≠ "__name__" := by decide) (hdb : (x == ("__debug__" : Str)) = false := by decide)
    (he : starEach (e :: es) X.env = (false, eval e X.env) :: starEach es X.env := by rfl) (hpl : (backTo pos (starEach es X.env)).any (·.1) = false := by rfl) : PE X (.Call (.Name x p) (e :: es) [] pos) (tCB r t) := by
  intro pins s σ H Q I h
  refine wpAny_Call_Name_kw (ld_blt I hg hm hv ?_ hn hdb)
  exact PyProof.Rows.callWith_builtin1 (thn (ha pos pins s σ H _ I h) fun us s1 ⟨vs, H1, I1, r1, q1⟩ => hc pins s1 σ H1 vs us Q I1 r1 q1) he hpl
/-- T(e, ..), T a built-in type -/
theorem pe_callTy (hc : CallR X (.type T) r) (hg : Gl X x) (hm : X.mg x = none) (hv : bootBuiltins x = some (.type T)) (ha : PA X (e :: es) t) (hn : x ≠ "__name__" := by decide) (hdb : (x == ("__debug__" : Str)) = false := by decide)
    (he : starEach (e :: es) X.env = (false, eval e X.env) :: starEach es X.env := by rfl) (hpl : (backTo pos (starEach es X.env)).any (·.1) = false := by rfl) : PE X (.Call (.Name x p) (e :: es) [] pos) (tCB r t) := by
  intro pins s σ H Q I h
  refine wpAny_Call_Name_kw (ld_blt I hg hm hv ?_ hn hdb)
  exact PyProof.Rows.callWith_type1 (thn (ha pos pins s σ H _ I h) fun us s1 ⟨vs, H1, I1, r1, q1⟩ => hc pins s1 σ H1 vs us Q I1 r1 q1) he hpl
end
end L2

namespace HT
open PySem PyProof.Rows

section
open PySem.SeqAt
open PySem.AutoSeq1 (wpAny_loadPart')
open PySem.MeetsSeq PySem.MeetsSeq2 PySem.MeetsSeq3

end

section
variable {prog : Program} {w : World} {A : Around} {E : Value → Shared → Prop} {s : Shared}

end
end HT

namespace L2
open PySem PySem.Spec PyProof.Rows

theorem intsAre_of {ns : List Int} : ∀ {us : List Value}, Vals (ns.map V.int) us → IntsAre us ns := by
  induction ns with
  | nil => intro us r; rw [List.map_nil] at r; cases r; exact .nil
  | cons n ns ih =>
    intro us r
    rw [List.map_cons] at r
    cases r with
    | cons r1 r2 =>
      obtain ⟨t, e⟩ := r1
      subst e
      exact .cons n t (ih r2)

section
variable {X : Cx} {e : Expr} {te : TE} {lo hi : Option Expr} {tl th : TO} {pos p2 : Pos}

end
end L2

namespace L2
open PySem PySem.Spec PyProof.Rows

/-- the place that an index of any sign means -/
def ixN (n : Nat) (i : Int) : Option Nat := if 0 ≤ i then (if i < n then some i.toNat else none) else if -(n : Int) ≤ i then some (i + n).toNat else none
def atI {α : Type} (xs : List α) (i : Int) : Option α := (ixN xs.length i).bind fun j => xs[j]?
theorem ixN_seq {n : Nat} {i : Int} {j : Nat} (h : ixN n i = some j) : seqIndex? i n = some j ∧ j < n ∧ -(n : Int) ≤ i ∧ i < n := by
  unfold ixN at h
  by_cases h0 : 0 ≤ i
  · rw [if_pos h0] at h
    by_cases h1 : i < n
    · rw [if_pos h1] at h
      have e : i.toNat = j := Option.some.inj h
      exact ⟨by rw [seqIndex_of h0 h1, e], by omega, by omega, h1⟩
    · rw [if_neg h1] at h; cases h
  · rw [if_neg h0] at h
    by_cases h1 : -(n : Int) ≤ i
    · rw [if_pos h1] at h
      have e : (i + n).toNat = j := Option.some.inj h
      exact ⟨by rw [seqIndex_neg (by omega) h1, e], by omega, h1, by omega⟩
    · rw [if_neg h1] at h; cases h
theorem atI_get {α : Type} {xs : List α} {i : Int} {v : α} (h : atI xs i = some v) : ∃ j, seqIndex? i xs.length = some j ∧ xs[j]? = some v ∧ j < xs.length ∧ -(xs.length : Int) ≤ i ∧ i < xs.length := by
  unfold atI at h
  cases e : ixN xs.length i with
  | none => rw [e] at h; cases h
  | some j =>
    rw [e] at h
    obtain ⟨h1, h2, h3, h4⟩ := ixN_seq e
    exact ⟨j, h1, h, h2, h3, h4⟩
theorem atI_nat {α : Type} {xs : List α} {j : Nat} {v : α} (h : xs[j]? = some v) : atI xs (j : Int) = some v := by
  have hj : j < xs.length := (List.getElem?_eq_some_iff.mp h).1
  have e : ixN xs.length (j : Int) = some j := by
    unfold ixN
    rw [if_pos (by omega), if_pos (by omega)]; simp
  unfold atI; rw [e]; exact h
/-- what stands as an index of a plain subscript -/
def PlainIx (b : Expr) : Prop := ∀ o i, subscripted b false o i = operate [o, i] (getItem o i)
/-- a subscript by values -/
def IxR (X : Cx) (r : R2) : Prop :=
  ∀ (value slice : Expr) (pins : List (Addr × Obj)) (s : Shared) (σ : St) (H : Hp) (x y : V) (v u : Value) (Q : VK), Inv X pins σ H s → RelV x v → RelV y u → r x y H Q →
    subscripted slice false v u = operate [v, u] (getItem v u) → wpAny (model X.prog X.w) X.A (subscriptTail value slice v u) (EP X pins σ Q) X.xe s
/-- a call of a builtin's method by values: the receiver, the arguments -/
def MtR (X : Cx) (id : String) (r : V → List V → Hp → VK → Prop) : Prop :=
  ∀ (pins : List (Addr × Obj)) (s : Shared) (σ : St) (H : Hp) (x : V) (xs : List V) (v : Value) (us : List Value) (Q : VK), Inv X pins σ H s → RelV x v → Vals xs us → r x xs H Q →
    wpAny (model X.prog X.w) X.A (call (.builtin id) (v :: us)) (EP X pins σ Q) X.xe s
section
variable {X : Cx} {a b : Expr} {ta tb : TE} {pos : Pos}
theorem IxR.or {r r' : R2} (h : IxR X r) (h' : IxR X r') : IxR X (fun x y H Q => r x y H Q ∨ r' x y H Q) := by
  intro value slice pins s σ H x y v u Q I rx ry q hs
  rcases q with q | q
  · exact h value slice pins s σ H x y v u Q I rx ry q hs
  · exact h' value slice pins s σ H x y v u Q I rx ry q hs
/-- a[b] -/
theorem pe_ix {r : R2} (hr : IxR X r) (ha : PE X a ta) (hb : PE X b tb) (hs : PlainIx b) : PE X (.Subscript a b pos) (tOp r ta tb) := by
  intro pins s σ H Q I h
  exact Subscript_ (binT ha hb I h fun v u s2 x y H2 I2 rx ry q => hr a b pins s2 σ H2 x y v u Q I2 rx ry q (hs _ _))

def rIxL (K : PySem.W.Frag) : R2 := fun x y H Q => ∃ p xs i v, x = .ref p ∧ y = .int i ∧ SqL K H p xs ∧ atI xs i = some v ∧ Q v H
def rIxT (K : PySem.W.Frag) : R2 := fun x y H Q => ∃ p xs i v, x = .ref p ∧ y = .int i ∧ SqT K H p xs ∧ atI xs i = some v ∧ Q v H
def rIxS : R2 := fun x y H Q => ∃ z i c, x = .str z ∧ y = .int i ∧ z.length ≤ sizeLine ∧ atI z.cps.toList i = some c ∧ Q (.str ⟨#[c]⟩) H
theorem ix_list : IxR X (rIxL X.K) := by
  intro value slice pins s σ H x y v u Q I rx ry h hs
  obtain ⟨p, xs, i, z, rfl, rfl, hq, he, q⟩ := h
  cases rx
  obtain ⟨t, rfl⟩ := ry
  obtain ⟨its, r, pl, hz⟩ := I.list hq
  obtain ⟨j, h1, h2, h3, h4, h5⟩ := atI_get he
  obtain ⟨w, ew, rw'⟩ := r.get h2
  have hl := r.length
  have hn := line63
  have fin : EP X pins σ Q w s := ⟨z, H, I, rw', q⟩
  by_cases h0 : 0 ≤ i
  · have hj : i.toNat = j := by
      rw [seqIndex_of h0 h5] at h1
      exact Option.some.inj h1
    exact item_listR pl.isList h0 (by omega) (by rw [hj]; simpa using ew) fin hs
  · have hj : (i + (its.toArray.size : Int)).toNat = j := by
      rw [seqIndex_neg (by omega) h4] at h1
      rw [List.size_toArray, ← hl]
      exact Option.some.inj h1
    exact subscriptTail_builtinR (x := w) pl.isList.typeIs slot_list_getitem.lookup
      (wpAny_getItem_list_neg (Q := fun r s' => r = w ∧ EP X pins σ Q r s') pl.isList (by omega) (by rw [List.size_toArray] <;> omega) (by omega) (by rw [hj]; simpa using ew) ⟨rfl, fin⟩) hs
theorem ix_tup : IxR X (rIxT X.K) := by
  intro value slice pins s σ H x y v u Q I rx ry h hs
  obtain ⟨p, xs, i, z, rfl, rfl, hq, he, q⟩ := h
  cases rx
  obtain ⟨t, rfl⟩ := ry
  obtain ⟨its, r, pl, hz⟩ := I.tuple hq
  obtain ⟨j, h1, h2, h3, h4, h5⟩ := atI_get he
  obtain ⟨w, ew, rw'⟩ := r.get h2
  have hl := r.length
  have hn := line63
  have fin : EP X pins σ Q w s := ⟨z, H, I, rw', q⟩
  exact subscriptTail_builtinR (x := w) pl.typeIs slot_tuple_getitem.lookup
    (getItem_tuple (j := j) (Q := fun r s' => r = w ∧ EP X pins σ Q r s') pl (by omega) (by omega) (by rw [List.size_toArray, ← hl]; exact h1) (by simpa using ew) ⟨rfl, fin⟩) hs
theorem ix_str : IxR X rIxS := by
  intro value slice pins s σ H x y v u Q I rx ry h hs
  obtain ⟨z, i, c, rfl, rfl, hz, he, q⟩ := h
  obtain ⟨t, rfl⟩ := rx
  obtain ⟨t', rfl⟩ := ry
  obtain ⟨j, h1, h2, h3, h4, h5⟩ := atI_get he
  have hl : z.cps.toList.length = z.length := by simp [Str.length]
  rw [hl] at h1 h4 h5
  have hn := line63
  exact tail_any (typeIs_str s z t) slot_str_getitem.lookup (getItem_str (c := c) (by
    have e1 : decide (i < -(2 ^ 63 : Int)) = false := decide_eq_false (by omega)
    have e2 : decide (i ≥ 2 ^ 63) = false := decide_eq_false (by omega)
    rw [e1, e2, Bool.or_false]) (by rw [h1]; simpa using h2) ⟨.str ⟨#[c]⟩, H, I.tok _, ⟨_, rfl⟩, q⟩) hs
/-- list, tuple or str -/
def rIx (K : PySem.W.Frag) : R2 := fun x y H Q => rIxL K x y H Q ∨ rIxT K x y H Q ∨ rIxS x y H Q
theorem ix_seq : IxR X (rIx X.K) := ix_list.or (ix_tup.or ix_str)

/-- the list's object behind a store -/
theorem mapSeq_set (its : List Value) (n j : Nat) (u : Value) : Obj.mapSeq (·.setIfInBounds j u) { cls := .type "list", data := .seq its.toArray n } = { cls := .type "list", data := .seq (its.set j u).toArray n } := by
  simp [Obj.mapSeq]
theorem Inv.lst {pins : List (Addr × Obj)} {σ : St} {H : Hp} {s : Shared} {p : Addr} {xs : List V} (I : Inv X pins σ H s) (h : H p = some (.lst xs)) :
    ∃ (its : List Value) (n : Nat), Vals xs its ∧ s.heap.get? p = some { cls := .type "list", data := .seq its.toArray n } ∧ xs.length ≤ sizeLine := by
  obtain ⟨z, its, n, r, e⟩ := I.hok p _ h
  exact ⟨its, n, r, e, z⟩
/-- the list at p is written by an update of its object -/
theorem Inv.lstUpd {pins : List (Addr × Obj)} {σ : St} {H : Hp} {s : Shared} {p : Addr} {xs ys : List V} {its its' : List Value} {n n' : Nat} {f : Obj → Obj} (I : Inv X pins σ H s) (h : H p = some (.lst xs))
    (ho : s.heap.get? p = some { cls := .type "list", data := .seq its.toArray n }) (hf : f { cls := .type "list", data := .seq its.toArray n } = { cls := .type "list", data := .seq its'.toArray n' }) (r : Vals ys its') (hz : ys.length ≤ sizeLine) (t : Nat) :
    Inv X pins σ (upd H p (.lst ys)) { s with heap := s.heap.update p f, toks := t } := by
  have e : (s.heap.update p f).get? p = some { cls := .type "list", data := .seq its'.toArray n' } := by
    rw [Heap.get?_update_self f ho (by rw [hf] <;> rfl), hf]
  refine I.write (x := p) (e := p) (by rw [h]; trivial) (.inl rfl) (fun b u hb q => (Heap.get?_update_other _ _ (Ne.symm hb)).trans q) ⟨_, e⟩ ?_
  exact ⟨hz, its', n', r, e⟩
def rSetL : V → V → V → Hp → (Hp → Prop) → Prop := fun o i v H Q => ∃ p xs k j, o = .ref p ∧ i = .int k ∧ H p = some (.lst xs) ∧ ixN xs.length k = some j ∧ Q (upd H p (.lst (xs.set j v)))
theorem set_list : PSet X rSetL := by
  intro pins s σ H o i v ov iv u Q I ro ri rv h
  obtain ⟨p, xs, k, j, rfl, rfl, hp, hj, q⟩ := h
  cases ro
  obtain ⟨t, rfl⟩ := ri
  obtain ⟨its, n, r, ho, hz⟩ := I.lst hp
  obtain ⟨h1, h2, h3, h4⟩ := ixN_seq hj
  have hl := r.length
  have hn := line63
  have I' : Inv X pins σ (upd H p (.lst (xs.set j v))) { s with heap := s.heap.update p (Obj.mapSeq (·.setIfInBounds j u)) } :=
    I.lstUpd hp ho (mapSeq_set its n j u) (r.set rv j) (by rw [List.length_set]; exact hz) s.toks
  by_cases h0 : 0 ≤ k
  · have hk : k.toNat = j := by
      rw [seqIndex_of h0 h4] at h1
      exact Option.some.inj h1
    exact PySem.W.ki_setAt ho h0 (by omega) (by rw [List.size_toArray, ← hl]; exact h4) (by rw [hk]; exact ⟨_, I', q⟩)
  · have hk : (k + (its.toArray.size : Int)).toNat = j := by
      rw [seqIndex_neg (by omega) h3] at h1
      rw [List.size_toArray, ← hl]
      exact Option.some.inj h1
    exact PySem.W.ki_setBack ho (by omega) (by rw [List.size_toArray, ← hl]; exact h3) (by omega) (by rw [hk]; exact ⟨_, I', q⟩)

def flatV : V → Bool
  | .non => true
  | .bl _ => true
  | .int _ => true
  | .str _ => true
  | _ => false
/-- == of flat values -/
def eqV : V → V → Bool
  | .non, .non => true
  | .bl a, .bl b => a == b
  | .bl a, .int b => (if a then 1 else 0) == b
  | .int a, .bl b => a == (if b then 1 else 0)
  | .int a, .int b => a == b
  | .str a, .str b => a == b
  | _, _ => false
theorem eqAt_V {A : Around} {s : Shared} {y x : V} {u v : Value} (ry : RelV y u) (rx : RelV x v) (fy : flatV y = true) (fx : flatV x = true) : SeqAt.EqAt A s u v (eqV y x) := by
  cases y with
  | non =>
    cases ry
    cases x with
    | non => cases rx; exact SeqAt.EqAt.same _
    | bl b => cases rx; exact SeqAt.EqAt.none_bool b
    | int b => obtain ⟨t, rfl⟩ := rx; exact SeqAt.EqAt.none_int b t
    | str b => obtain ⟨t, rfl⟩ := rx; exact SeqAt.EqAt.none_str b t
    | _ => exact absurd (show false = true from fx) Bool.false_ne_true
  | bl a =>
    cases ry
    cases x with
    | non => cases rx; exact SeqAt.EqAt.bool_none a
    | bl b => cases rx; exact SeqAt.EqAt.bool_bool a b
    | int b => obtain ⟨t, rfl⟩ := rx; exact SeqAt.EqAt.bool_int a b t
    | str b => obtain ⟨t, rfl⟩ := rx; exact SeqAt.EqAt.bool_str a b t
    | _ => exact absurd (show false = true from fx) Bool.false_ne_true
  | int a =>
    obtain ⟨t', rfl⟩ := ry
    cases x with
    | non => cases rx; exact SeqAt.EqAt.int_none a t'
    | bl b => cases rx; exact SeqAt.EqAt.int_bool a t' b
    | int b => obtain ⟨t, rfl⟩ := rx; exact SeqAt.EqAt.int_int a t' b t
    | str b => obtain ⟨t, rfl⟩ := rx; exact SeqAt.EqAt.int_str a t' b t
    | _ => exact absurd (show false = true from fx) Bool.false_ne_true
  | str a =>
    obtain ⟨t', rfl⟩ := ry
    cases x with
    | non => cases rx; exact SeqAt.EqAt.str_none a t'
    | bl b => cases rx; exact SeqAt.EqAt.str_bool a t' b
    | int b => obtain ⟨t, rfl⟩ := rx; exact SeqAt.EqAt.str_int a t' b t
    | str b => obtain ⟨t, rfl⟩ := rx; exact SeqAt.EqAt.str_str a t' b t
    | _ => exact absurd (show false = true from fx) Bool.false_ne_true
  | _ => exact absurd (show false = true from fy) Bool.false_ne_true
/-- the items' answers, read off the values (a value's own answer does not lean on its token) -/
def eqU (x : V) (u : Value) : Bool := match u with
  | .none => eqV .non x
  | .bool b => eqV (.bl b) x
  | .int i _ => eqV (.int i) x
  | .str z _ => eqV (.str z) x
  | _ => false
theorem eqU_of {x y : V} {u : Value} (r : RelV y u) (f : flatV y = true) : eqU x u = eqV y x := by
  cases y with
  | non => cases r; rfl
  | bl b => cases r; rfl
  | int i => obtain ⟨t, rfl⟩ := r; rfl
  | str z => obtain ⟨t, rfl⟩ := r; rfl
  | _ => exact absurd (show false = true from f) Bool.false_ne_true
theorem any_eqU {x : V} : ∀ {xs : List V} {us : List Value}, Vals xs us → xs.all flatV = true → us.any (eqU x) = xs.any fun y => eqV y x
  | _, _, .nil, _ => rfl
  | y :: xs, u :: us, .cons r t, f => by
    rw [List.all_cons, Bool.and_eq_true] at f
    rw [List.any_cons, List.any_cons, eqU_of r f.1, any_eqU t f.2]
theorem mem_eqAt {A : Around} {s : Shared} {x : V} {v : Value} (rx : RelV x v) (fx : flatV x = true) : ∀ {xs : List V} {us : List Value}, Vals xs us → xs.all flatV = true → ∀ u ∈ us, SeqAt.EqAt A s u v (eqU x u)
  | _, _, .nil, _ => fun u hu => by cases hu
  | y :: xs, u :: us, .cons r t, f => fun u' hu => by
    rw [List.all_cons, Bool.and_eq_true] at f
    rcases List.mem_cons.mp hu with rfl | hu
    · rw [eqU_of r f.1]; exact eqAt_V r rx f.1 fx
    · exact mem_eqAt rx fx t f.2 u' hu
def inV (x : V) (xs : List V) : Bool := xs.any fun y => eqV y x
/-- x in a list or tuple of flat items -/
def rIn (K : PySem.W.Frag) (neg : Bool) : R2 := fun x y H Q => ∃ p xs, y = .ref p ∧ (SqL K H p xs ∨ SqT K H p xs) ∧ flatV x = true ∧ xs.all flatV = true ∧ Q (.bl (if neg then !inV x xs else inV x xs)) H
theorem op_notIn_seq : OpR X (compareOp .NotIn) (rIn X.K true) := by
  intro pins s σ H x y v u Q I rx ry h
  obtain ⟨p, xs, rfl, hq, fx, fs, q⟩ := h
  cases ry
  rcases hq with hq | hq
  · obtain ⟨its, r, pl, hz⟩ := I.list hq
    refine SeqAt.notIn_listAt (eqU x) pl.isList (fun w hw => mem_eqAt rx fx r fs w (by simpa using hw)) ⟨.bl _, H, I, rfl, ?_⟩
    rw [show its.toArray.any (eqU x) = its.any (eqU x) by simp, any_eqU r fs]
    exact q
  · obtain ⟨its, r, pl, hz⟩ := I.tuple hq
    refine SeqAt.notIn_tupleAt (eqU x) pl (fun w hw => mem_eqAt rx fx r fs w (by simpa using hw)) ⟨.bl _, H, I, rfl, ?_⟩
    rw [show its.toArray.any (eqU x) = its.any (eqU x) by simp, any_eqU r fs]
    exact q
theorem call_len_seq : CallR X (.builtin "len") (fun xs H Q => ∃ p ys, xs = [.ref p] ∧ (SqL X.K H p ys ∨ SqT X.K H p ys) ∧ Q (.int ys.length) H) := by
  intro pins s σ H xs us Q I r h
  obtain ⟨p, ys, rfl, hq, q⟩ := h
  obtain ⟨u, rfl, rx⟩ := vals1 r
  cases rx
  have hn := line63
  rcases hq with hq | hq
  · obtain ⟨its, r', pl, hz⟩ := I.list hq
    have hlen := r'.length
    exact Calls.call_len_list pl.isList (by simp only [List.size_toArray] <;> omega) ⟨.int ys.length, H, I.tok _, ⟨s.toks + 1, by rw [List.size_toArray, hlen]⟩, q⟩
  · obtain ⟨its, r', pl, hz⟩ := I.tuple hq
    have hlen := r'.length
    exact len_tuple pl (by simp only [List.size_toArray] <;> omega) ⟨.int ys.length, H, I.tok _, ⟨s.toks + 1, by rw [List.size_toArray, hlen]⟩, q⟩
theorem call_list_of : CallR X (.type "list") (fun xs H Q => ∃ p ys, xs = [.ref p] ∧ (SqL X.K H p ys ∨ SqT X.K H p ys) ∧ ∀ l, H l = none → Q (.ref l) (upd H l (.lst ys))) := by
  intro pins s σ H xs us Q I r h
  obtain ⟨p, ys, rfl, hq, q⟩ := h
  obtain ⟨u, rfl, rx⟩ := vals1 r
  cases rx
  have fin : ∀ (its : List Value), Vals ys its → ys.length ≤ sizeLine → ∀ (h' : Heap) (c' : Nat), (∀ b o', s.heap.get? b = some o' → h'.get? b = some o') →
      h'.get? s.heap.objs.size = some { cls := .type "list", dict := none, data := .seq its.toArray c', slots := #[] } → EP X pins σ Q (.ref s.heap.objs.size) { s with heap := h' } := fun its r' hz h' c' kp e =>
    ⟨.ref s.heap.objs.size, _, I.laid (t' := s.toks) kp (Nat.le_refl _) (show ObjOk X.prog X.w _ h' _ (.lst ys) from ⟨hz, its, c', r', e⟩), rfl, q _ (I.hok.fresh (Nat.le_refl _))⟩
  rcases hq with hq | hq
  · obtain ⟨its, r', pl, hz⟩ := I.list hq
    have hlen := r'.length
    obtain ⟨o, ho, hc, n, hd⟩ := pl.isList
    exact call_list_seq p (.inl rfl) ho hc hd (fun h' c' kp e => fin its r' hz h' c' kp e) (by simp only [List.size_toArray] <;> omega)
  · obtain ⟨its, r', pl, hz⟩ := I.tuple hq
    have hlen := r'.length
    obtain ⟨o, ho, hc, n, hd⟩ := pl
    exact call_list_seq p (.inr rfl) ho hc hd (fun h' c' kp e => fin its r' hz h' c' kp e) (by simp only [List.size_toArray] <;> omega)
theorem call_tuple_of : CallR X (.type "tuple") (fun xs H Q => ∃ p ys, xs = [.ref p] ∧ ((SqL X.K H p ys ∧ ∀ l, H l = none → Q (.ref l) (upd H l (.tup ys))) ∨ (SqT X.K H p ys ∧ Q (.ref p) H))) := by
  intro pins s σ H xs us Q I r h
  obtain ⟨p, ys, rfl, h⟩ := h
  obtain ⟨u, rfl, rx⟩ := vals1 r
  cases rx
  rcases h with ⟨hq, q⟩ | ⟨hq, q⟩
  · obtain ⟨its, r', pl, hz⟩ := I.list hq
    have hlen := r'.length
    refine call_tuple_list pl.isList (fun h' kp => ?_) (by simp only [List.size_toArray] <;> omega)
    have I1 : Inv X pins σ H { s with heap := h' } := I.kept (t' := s.toks) kp
    have I2 : Inv X pins σ (upd H h'.objs.size (.tup ys)) { s with heap := h'.push { cls := .type "tuple", data := .seq its.toArray } } :=
      I1.laid (t' := s.toks) (fun b o e => Heap.get?_push_of_some _ e) (Nat.le_refl _) (show ObjOk X.prog X.w _ _ _ (.tup ys) from ⟨⟨hz, _, Heap.get?_push_size _ rfl, rfl⟩, its, r', IsTup.new _ _⟩)
    exact ⟨.ref h'.objs.size, _, I2, rfl, q _ (I1.hok.fresh (Nat.le_refl _))⟩
  · obtain ⟨its, r', pl, hz⟩ := I.tuple hq
    exact call_tuple_same pl ⟨.ref p, H, I, rfl, q⟩

/-- the value is of that builtin type -/
def tyV (K : PySem.W.Frag) (T : String) (x : V) (H : Hp) : Prop := match x with
  | .str _ => T = "str"
  | .int _ => T = "int"
  | .ref p => (T = "list" ∧ ∃ xs, SqL K H p xs) ∨ (T = "tuple" ∧ ∃ o, K.lookup p = some o ∧ o.cls = .type "tuple" ∧ o.dict = none) ∨
      (T = "dict" ∧ ((∃ kvs, H p = some (.dK kvs)) ∨ ∃ kvs, H p = some (.dT kvs))) ∨ (T = "set" ∧ ∃ S n, H p = some (.set S n))
  | _ => False
theorem tyV_is {pins : List (Addr × Obj)} {σ : St} {H : Hp} {s : Shared} {T : String} {x : V} {v : Value} (I : Inv X pins σ H s) (r : RelV x v) (ty : tyV X.K T x H) :
    s.TypeIs v T ∧ ∀ a, v = .ref a → ∃ ob, s.heap.get? a = some ob ∧ ob.dict = none := by
  cases x with
  | str z =>
    obtain ⟨t, rfl⟩ := r
    cases (show T = "str" from ty)
    exact ⟨typeIs_str s z t, fun _ e => nomatch e⟩
  | int i =>
    obtain ⟨t, rfl⟩ := r
    cases (show T = "int" from ty)
    exact ⟨typeIs_int s i t, fun _ e => nomatch e⟩
  | ref p =>
    cases r
    rcases ty with ⟨rfl, xs, hq⟩ | ⟨rfl, o, hk, hc, hd⟩ | ⟨rfl, hk⟩ | ⟨rfl, S, n, hk⟩
    · obtain ⟨its, _, pl, _⟩ := I.list hq
      refine ⟨pl.isList.typeIs, fun a e => ?_⟩
      cases e
      obtain ⟨o, n, e, c, hd, _⟩ := pl
      exact ⟨o, e, hd⟩
    · refine ⟨⟨o, I.kIn p o hk, hc⟩, fun a e => ?_⟩
      cases e
      exact ⟨o, I.kIn _ o hk, hd⟩
    · have z : ∃ o, s.heap.get? p = some o ∧ o.ExactDict := by
        rcases hk with ⟨kvs, hk⟩ | ⟨kvs, hk⟩
        · obtain ⟨_, _, _, _, o, _, _, e, ex, _⟩ := I.hok p _ hk
          exact ⟨o, e, ex⟩
        · obtain ⟨_, _, _, _, o, _, _, e, ex, _⟩ := I.hok p _ hk
          exact ⟨o, e, ex⟩
      obtain ⟨o, e, ex⟩ := z
      refine ⟨⟨o, e, ex.1⟩, fun a e2 => ?_⟩
      cases e2
      exact ⟨o, e, ex.2.1⟩
    · obtain ⟨o, _, _, _, e, ex, _⟩ := I.hok p _ hk
      refine ⟨⟨o, e, ex.1⟩, fun a e2 => ?_⟩
      cases e2
      exact ⟨o, e, ex.2.1⟩
  | _ => exact False.elim ty
def tBM (K : PySem.W.Frag) (T : String) (r : V → List V → Hp → VK → Prop) (to : TE) (t : TA) : TE := fun σ H Q => to σ H fun x H1 => tyV K T x H1 ∧ t σ H1 fun xs H2 => r x xs H2 Q
variable {o e : Expr} {es : List Expr} {to : TE} {t : TA} {name : Str} {apos cpos : Pos} {T id : String} {r : V → List V → Hp → VK → Prop}
theorem pe_bm (pa : PlainAttrs T) (slot : Slot T name id) (hty : typeOf (.builtin id) = pure (.type "method_descriptor")) (hm : MtR X id r) (ho : PE X o to) (ha : PA X (e :: es) t)
    (hbase : attributeBase o name X.env (eval o X.env) = eval o X.env := by rfl)
    (hfew : ((backTo cpos (starEach (e :: es) X.env)).all (fun x => !x.1) && (backToKw cpos (keywordEach [] X.env)).all (fun x => x.1.isSome)
      && decide ((e :: es).length + ([] : List Keyword).length + (if ([] : List Keyword).isEmpty then 0 else 1) < 30)) = true := by rfl)
    (hline : (apos.endLine == cpos.line) = true := by rfl) (hs : starEach (e :: es) X.env = (false, eval e X.env) :: starEach es X.env := by rfl) (hplain : (backTo cpos (starEach es X.env)).any (·.1) = false := by rfl) :
    PE X (.Call (.Attribute o name apos) (e :: es) [] cpos) (tBM X.K T r to t) := by
  intro pins s σ H Q I h
  refine wpAny_Call_method_late hbase hfew hline rfl (thn (ho pins s σ H _ I h) fun v s1 ⟨x, H1, I1, r1, ty, q1⟩ => ?_)
  obtain ⟨h1, h2⟩ := tyV_is I1 r1 ty
  refine ⟨T, id, pa, slot, hty, h1, h2, ?_⟩
  have hA := ha cpos pins s1 σ H1 _ I1 q1
  rw [hs] at hA ⊢
  refine Calls.callWith_builtin (by show (false || (backTo cpos (starEach es X.env)).any (·.1)) = false; rw [hplain] <;> rfl) (Calls.evalArgs_plain ?_)
  exact thn hA fun us s2 ⟨vs, H2, I2, r2, q2⟩ => hm pins s2 σ H2 x vs v us Q I2 r1 r2 q2
/- xs.append(e), list.index on a module's tuple .. are MtR facts of 06m -/
end
end L2

namespace L2
open PySem PySem.Spec PyProof.Rows

def MtM (X : Cx) (id : String) (r : V → List V → Hp → VK → Prop) : Prop :=
  ∀ (pins : List (Addr × Obj)) (s : Shared) (σ : St) (H : Hp) (x : V) (xs : List V) (v : Value) (us : List Value) (Q : VK), Inv X pins σ H s → RelV x v → Vals xs us → r x xs H Q →
    wpAny (model X.prog X.w) X.A (call (.builtin id) (v :: us)) (EP X pins σ Q) X.xe s

theorem Vals.one : ∀ {x : V} {us : List Value}, Vals [x] us → ∃ u, us = [u] ∧ RelV x u
  | _, _, .cons r .nil => ⟨_, rfl, r⟩
theorem Vals.eraseIdx : ∀ {xs : List V} {us : List Value} (i : Nat), Vals xs us → Vals (xs.eraseIdx i) (us.eraseIdx i)
  | _, _, _, .nil => .nil
  | _, _, 0, .cons _ t => t
  | _, _, i + 1, .cons r t => .cons r (Vals.eraseIdx i t)
theorem len_erase {α : Type} : ∀ (l : List α) (i : Nat), (l.eraseIdx i).length ≤ l.length
  | [], _ => Nat.le_refl _
  | _ :: _, 0 => Nat.le_succ _
  | _ :: r, i + 1 => Nat.succ_le_succ (len_erase r i)
section
variable {X : Cx} {pins : List (Addr × Obj)} {σ : St} {H : Hp} {s : Shared} {l b : Addr} {xs ys zs : List V}

theorem Inv.lset {its its' : List Value} {n : Nat} {f : Array Value → Array Value} {t' : Nat} (I : Inv X pins σ H s) (hH : H l = some (.lst xs))
    (e : s.heap.get? l = some { cls := .type "list", data := .seq its.toArray n }) (hf : f its.toArray = its'.toArray) (hv : Vals ys its') (hz : ys.length ≤ sizeLine) :
    Inv X pins σ (upd H l (.lst ys)) { s with heap := s.heap.update l (Obj.mapSeq f), toks := t' } := by
  have q := PySem.IsL.update e f
  rw [hf] at q
  refine I.write (x := l) (e := l) (by rw [hH]; exact trivial) (.inl rfl) (fun b' u hb hu => (Heap.get?_update_other s.heap (Obj.mapSeq f) (Ne.symm hb)).trans hu) ⟨_, q⟩ ?_
  exact ⟨hz, its', _, hv, q⟩
theorem Inv.lstM (I : Inv X pins σ H s) (hH : H l = some (.lst xs)) : xs.length ≤ sizeLine ∧ ∃ (its : List Value) (n : Nat), Vals xs its ∧ xs.length = its.length ∧ s.heap.get? l = some { cls := .type "list", data := .seq its.toArray n } := by
  obtain ⟨z, its, n, r, e⟩ := I.hok l _ hH
  exact ⟨z, its, n, r, r.length, e⟩

end

section
variable {X : Cx}

def rAppend : V → List V → Hp → VK → Prop := fun x vs H Q => ∃ l xs y, x = .ref l ∧ vs = [y] ∧ H l = some (.lst xs) ∧ xs.length < sizeLine ∧ Q .non (upd H l (.lst (xs ++ [y])))
theorem mt_append : MtM X "list.append" rAppend := by
  intro pins s σ H x vs v us Q I rx rv h
  obtain ⟨l, xs, y, rfl, rfl, hH, hz, q⟩ := h
  cases rx
  obtain ⟨u, rfl, ru⟩ := rv.one
  obtain ⟨z, its, n, r, hl, e⟩ := I.lstM hH
  refine call_meets F.slot_list_append ⟨_, e, rfl⟩ F.entry_list_append (F.args_list_append_2 _ _) (PySem.list_append l its.toArray n u (by rw [List.size_toArray]; omega)) ⟨e, ?_⟩
  refine ⟨.non, _, I.lset (its' := its ++ [u]) hH e (by simp) (r.append (.cons ru .nil)) ?_, rfl, q⟩
  rw [List.length_append, List.length_singleton]
  omega

def rPopAt : V → List V → Hp → VK → Prop := fun x vs H Q => ∃ l xs i k y, x = .ref l ∧ vs = [.int i] ∧ H l = some (.lst xs) ∧ -(2 ^ 63) ≤ i ∧ i < 2 ^ 63 ∧ seqIndex? i xs.length = some k ∧ xs[k]? = some y ∧ Q y (upd H l (.lst (xs.eraseIdx k)))
theorem mt_popAt : MtM X "list.pop" rPopAt := by
  intro pins s σ H x vs v us Q I rx rv h
  obtain ⟨l, xs, i, k, y, rfl, rfl, hH, h1, h2, hk, hy, q⟩ := h
  cases rx
  obtain ⟨u, rfl, ru⟩ := rv.one
  obtain ⟨t, rfl⟩ := ru
  obtain ⟨z, its, n, r, hl, e⟩ := I.lstM hH
  obtain ⟨w, hw, rw'⟩ := r.get hy
  refine call_meets F.slot_list_pop ⟨_, e, rfl⟩ F.entry_list_pop (F.args_list_pop_2 _ _)
    (MeetsSeq.list_pop_at l its.toArray n i t k w (fitsIndex_both h1 h2) (by rw [List.size_toArray, ← hl]; exact hk) (by rw [← Array.getElem?_toList]; exact hw) (by rw [List.size_toArray]; omega)) ⟨e, ?_⟩
  refine ⟨y, _, I.lset (its' := its.eraseIdx k) hH e ?_ (r.eraseIdx k) ?_, rw', q⟩
  · show its.toArray.eraseIdxIfInBounds k = (its.eraseIdx k).toArray
    rw [List.eraseIdxIfInBounds_toArray]
  · have := len_erase xs k
    omega

end

section
variable {prog : Program} {w : World} {A : Around} {E : Value → Shared → Prop} {s : Shared}
end

section
variable {X : Cx}
end
end L2

namespace L2
open PySem PySem.Spec PyProof.Rows

section
variable {κ : Type} [DecidableEq κ]
def valV (kvs : List (κ × V)) (k : κ) : Option V := (kvs.find? fun kv => decide (kv.1 = k)).map (·.2)
/-- in its place, or at the end -/
def putK (kvs : List (κ × V)) (k : κ) (v : V) : List (κ × V) :=
  if (kvs.any fun kv => decide (kv.1 = k)) = true then kvs.map (fun kv => if kv.1 = k then (kv.1, v) else kv) else kvs ++ [(k, v)]
theorem valV_pos {p : κ × V} {r : List (κ × V)} {k : κ} (e : p.1 = k) : valV (p :: r) k = some p.2 := by simp [valV, List.find?_cons, e]
theorem valV_neg {p : κ × V} {r : List (κ × V)} {k : κ} (e : ¬ p.1 = k) : valV (p :: r) k = valV r k := by simp [valV, List.find?_cons, e]
theorem valV_any (k : κ) : ∀ kvs : List (κ × V), (kvs.any fun kv => decide (kv.1 = k)) = (valV kvs k).isSome
  | [] => rfl
  | p :: r => by
    rw [List.any_cons]
    by_cases e : p.1 = k
    · simp only [valV_pos e, decide_eq_true e, Bool.true_or, Option.isSome_some]
    · rw [valV_neg e, decide_eq_false e, Bool.false_or]; exact valV_any k r
theorem length_putK (kvs : List (κ × V)) (k : κ) (v : V) : (putK kvs k v).length ≤ kvs.length + 1 := by
  unfold putK
  split
  · rw [List.length_map]; omega
  · rw [List.length_append, List.length_cons, List.length_nil]; omega
theorem putK_new {kvs : List (κ × V)} {k : κ} (v : V) (h : valV kvs k = none) : putK kvs k v = kvs ++ [(k, v)] := by
  unfold putK
  rw [valV_any, h]
  exact if_neg (by decide)

theorem RelO.isSome_eq {o : Option V} {u : Option Value} (r : RelO o u) : o.isSome = u.isSome := by
  cases o with
  | none => cases u with
    | none => rfl
    | some _ => exact (show False from r).elim
  | some _ => cases u with
    | none => exact (show False from r).elim
    | some _ => rfl
/-- raw tables of the same keys -/
theorem KV.val {kvs : List (κ × V)} {vs : List (κ × Value)} (r : KV kvs vs) (k : κ) : RelO (valV kvs k) (valueAt vs k) := by
  unfold KV at r
  induction r with
  | nil => exact True.intro
  | @cons p q ps qs h t ih =>
    obtain ⟨h1, h2⟩ := h
    by_cases e : p.1 = k
    · have e' : q.1 = k := h1.symm.trans e
      have b : valueAt (q :: qs) k = some q.2 := by simp [valueAt, List.find?_cons, e']
      rw [valV_pos e, b]; exact h2
    · have e' : ¬ q.1 = k := fun z => e (h1.trans z)
      have b : valueAt (q :: qs) k = valueAt qs k := by simp [valueAt, List.find?_cons, e']
      rw [valV_neg e, b]; exact ih
theorem KV.any {kvs : List (κ × V)} {vs : List (κ × Value)} (r : KV kvs vs) (k : κ) : (kvs.any fun kv => decide (kv.1 = k)) = vs.any fun kv => decide (kv.1 = k) := by
  unfold KV at r
  induction r with
  | nil => rfl
  | cons h t ih => rw [List.any_cons, List.any_cons, ih, h.1]
theorem KV.repl {kvs : List (κ × V)} {vs : List (κ × Value)} (r : KV kvs vs) (k : κ) {y : V} {u : Value} (ry : RelV y u) :
    KV (kvs.map fun kv => if kv.1 = k then (kv.1, y) else kv) (vs.map fun kv => if kv.1 = k then (kv.1, u) else kv) := by
  unfold KV at r ⊢
  induction r with
  | nil => exact .nil
  | @cons p q ps qs h t ih =>
    rw [List.map_cons, List.map_cons]
    refine .cons ?_ ih
    obtain ⟨h1, h2⟩ := h
    by_cases e : p.1 = k
    · rw [if_pos e, if_pos (h1.symm.trans e)]; exact ⟨h1, ry⟩
    · rw [if_neg e, if_neg (fun z => e (h1.trans z))]; exact ⟨h1, h2⟩
theorem KV.put {kvs : List (κ × V)} {vs : List (κ × Value)} (r : KV kvs vs) (k : κ) {y : V} {u : Value} (ry : RelV y u) : KV (putK kvs k y) (stored vs k u) := by
  unfold putK stored
  rw [r.any k]
  by_cases e : (vs.any fun kv => decide (kv.1 = k)) = true
  · rw [if_pos e, if_pos e]; exact r.repl k ry
  · rw [if_neg e, if_neg e]; exact Paired.snoc r ⟨rfl, ry⟩
theorem KV.keys {kvs : List (κ × V)} {vs : List (κ × Value)} (r : KV kvs vs) : kvs.map (·.1) = vs.map (·.1) := by
  unfold KV at r
  induction r with
  | nil => rfl
  | cons h t ih => rw [List.map_cons, List.map_cons, ih, h.1]
theorem KV.length {kvs : List (κ × V)} {vs : List (κ × Value)} (r : KV kvs vs) : kvs.length = vs.length := Paired.length r
end


theorem kV_is {P : Program} {w : World} {k : Key} {u : Value} (r : RelV (kV k) u) : (mixKind P w).is k u = true := by
  cases k with
  | inl i => obtain ⟨t, e⟩ := (show ∃ t, u = Value.int i t from r); subst e; exact mixKind_int P w i t
  | inr x => obtain ⟨t, e⟩ := (show ∃ t, u = Value.str x t from r); subst e; exact mixKind_str P w x t
theorem items_are {P : Program} {w : World} : ∀ {ks : List Key} {us : List Value}, Vals (ks.map kV) us → ItemsAre (mixKind P w) ks us
  | [], _, r => by rw [List.map_nil] at r; cases r; exact .nil
  | k :: ks, _, r => by
    rw [List.map_cons] at r
    cases r with
    | cons h t => exact .cons (kV_is h) (items_are t)

/-- raw entries of a dict with tuple keys -/
abbrev KT (H : Hp) : List (List Key × V) → List (List Key × Addr × Value) → Prop := Paired fun p q => p.1 = q.1 ∧ H q.2.1 = some (.tup (p.1.map kV)) ∧ RelV p.2 q.2.2
theorem KT.val {H : Hp} {kvs : List (List Key × V)} {xs : List (List Key × Addr × Value)} (r : KT H kvs xs) (k : List Key) : RelO (valV kvs k) ((atKey xs k).map (·.2)) := by
  induction r with
  | nil => exact True.intro
  | @cons p q ps qs h t ih =>
    obtain ⟨h1, _, h2⟩ := h
    by_cases e : p.1 = k
    · have e' : q.1 = k := h1.symm.trans e
      have b : atKey (q :: qs) k = some q.2 := by simp [atKey, List.find?_cons, e']
      rw [valV_pos e, b]; exact h2
    · have e' : ¬ q.1 = k := fun z => e (h1.trans z)
      have b : atKey (q :: qs) k = atKey qs k := by simp [atKey, List.find?_cons, e']
      rw [valV_neg e, b]; exact ih
theorem KT.repl {H : Hp} {kvs : List (List Key × V)} {xs : List (List Key × Addr × Value)} (r : KT H kvs xs) (k : List Key) {y : V} {u : Value} (ry : RelV y u) :
    KT H (kvs.map fun kv => if kv.1 = k then (kv.1, y) else kv) (xs.map (putAt k u)) := by
  induction r with
  | nil => exact .nil
  | @cons p q ps qs h t ih =>
    rw [List.map_cons, List.map_cons]
    refine .cons ?_ ih
    obtain ⟨h1, h2, h3⟩ := h
    unfold putAt
    by_cases e : p.1 = k
    · rw [if_pos e, if_pos (h1.symm.trans e)]; exact ⟨h1, h2, ry⟩
    · rw [if_neg e, if_neg (fun z => e (h1.trans z))]; exact ⟨h1, h2, h3⟩
theorem KT.put {H : Hp} {kvs : List (List Key × V)} {xs : List (List Key × Addr × Value)} (r : KT H kvs xs) (k : List Key) {b : Addr} {y : V} {u : Value} (hb : H b = some (.tup (k.map kV))) (ry : RelV y u) :
    KT H (putK kvs k y) (storedH xs k b u) := by
  have e : (kvs.any fun kv => decide (kv.1 = k)) = (atKey xs k).isSome := by
    rw [valV_any, (r.val k).isSome_eq, Option.isSome_map]
  unfold putK storedH
  rw [e]
  by_cases q : (atKey xs k).isSome = true
  · rw [if_pos q, if_pos q]; exact r.repl k ry
  · rw [if_neg q, if_neg q]; exact Paired.snoc r ⟨rfl, hb, ry⟩
theorem KT.keeps {H H' : Hp} {kvs : List (List Key × V)} {xs : List (List Key × Addr × Value)} (r : KT H kvs xs) (ht : ∀ b ys, H b = some (.tup ys) → H' b = some (.tup ys)) : KT H' kvs xs :=
  Paired.mapP r fun _ _ z => ⟨z.1, ht _ _ z.2.1, z.2.2⟩

section
variable {P : Program} {w : World} {H : Hp} {h : Heap} {a : Addr}
theorem rd_of {u : HO} (ok : HOk P w H h) (e : Rd H a u) : ObjOk P w H h a u := e.ok ok
theorem dk_rd {kvs : List (Key × V)} (ok : HOk P w H h) (e : Rd H a (.dK kvs)) : kvs.length ≤ sizeLine ∧ (a == sysModules) = false ∧ ∃ vs, KV kvs vs ∧ h.DictOf (mixKind P w) a vs :=
  show ObjOk P w H h a (.dK kvs) from rd_of ok e
theorem dk_of {kvs : List (Key × V)} (ok : HOk P w H h) (e : H a = some (.dK kvs)) : kvs.length ≤ sizeLine ∧ (a == sysModules) = false ∧ ∃ vs, KV kvs vs ∧ h.DictOf (mixKind P w) a vs := dk_rd ok (.inl e)
/-- a tracked tuple of ints and texts is a key -/
theorem key_of {ks : List Key} (ok : HOk P w H h) (e : H a = some (.tup (ks.map kV))) : (tupleKind (mixKind P w)).is h ks a := by
  obtain ⟨_, its, r, o, h1, h2, n, h3⟩ := (show ObjOk P w H h a (.tup (ks.map kV)) from ok a _ e)
  exact ⟨o, its.toArray, n, h1, h2, h3, by simpa using items_are r⟩
theorem dt_rd {kvs : List (List Key × V)} (ok : HOk P w H h) (e : Rd H a (.dT kvs)) : kvs.length ≤ sizeLine ∧ (a == sysModules) = false ∧
    ∃ xs, KT H kvs xs ∧ h.DictOfH (tupleKind (mixKind P w)) a xs := by
  obtain ⟨z, y, xs, r, o, es, ep, h1, h2, h3, h4, h5⟩ := (show ObjOk P w H h a (.dT kvs) from rd_of ok e)
  refine ⟨z, y, xs, r, o, es, ep, h1, h2, h3, h4, fun x hx => ?_, h5⟩
  have all : ∀ {l : List (List Key × V)} {m : List (List Key × Addr × Value)}, KT H l m → ∀ x ∈ m, (tupleKind (mixKind P w)).is h x.1 x.2.1 := by
    intro l m q
    induction q with
    | nil => intro x hx; exact nomatch hx
    | @cons p q ps qs hq t ih =>
      intro x hx
      rcases List.mem_cons.mp hx with e | hx
      · subst e
        exact key_of ok (by rw [← hq.1]; exact hq.2.1)
      · exact ih x hx
  exact all r x hx
theorem dt_of {kvs : List (List Key × V)} (ok : HOk P w H h) (e : H a = some (.dT kvs)) : kvs.length ≤ sizeLine ∧ (a == sysModules) = false ∧
    ∃ xs, KT H kvs xs ∧ h.DictOfH (tupleKind (mixKind P w)) a xs := dt_rd ok (.inl e)
end

/-- what the dict at a holds at the key y -/
def DGet (H : Hp) (a : Addr) (y : V) (r : Option V) : Prop :=
  (∃ kvs k, Rd H a (.dK kvs) ∧ y = kV k ∧ r = valV kvs k) ∨ ∃ kvs k b, Rd H a (.dT kvs) ∧ y = .ref b ∧ H b = some (.tup (k.map kV)) ∧ r = valV kvs k
/-- the heap behind a[y] = v -/
def DPut (H : Hp) (a : Addr) (y v : V) (H' : Hp) : Prop :=
  (∃ kvs k, H a = some (.dK kvs) ∧ y = kV k ∧ kvs.length < sizeLine ∧ H' = upd H a (.dK (putK kvs k v))) ∨
  ∃ kvs k b, H a = some (.dT kvs) ∧ y = .ref b ∧ H b = some (.tup (k.map kV)) ∧ kvs.length < sizeLine ∧ H' = upd H a (.dT (putK kvs k v))
theorem DGet.k {H : Hp} {a : Addr} {kvs : List (Key × V)} {k : Key} (e : H a = some (.dK kvs)) : DGet H a (kV k) (valV kvs k) := .inl ⟨kvs, k, .inl e, rfl, rfl⟩
theorem DPut.k {H : Hp} {a : Addr} {kvs : List (Key × V)} {k : Key} {v : V} (e : H a = some (.dK kvs)) (hl : kvs.length < sizeLine) : DPut H a (kV k) v (upd H a (.dK (putK kvs k v))) := .inl ⟨kvs, k, e, rfl, hl, rfl⟩
section
variable {X : Cx} {pins : List (Addr × Obj)} {σ : St} {H : Hp} {s : Shared} {a : Addr} {y v : V} {u r : Value} {o : Option V} {A : Around} {E : Value → Shared → Prop}

theorem Inv.big (I : Inv X pins σ H s) : sysModules < s.heap.objs.size := by
  have h : mainGlobals < s.heap.objs.size := (I.mod.glob.keeps I.bk).lt
  exact Nat.lt_trans (by decide) h

/-- d[y], there -/
theorem d_getItem {Q : Value → Shared → Prop} (hu : A.units + 1 < cLine) (I : Inv X pins σ H s) (g : DGet H a y (some v)) (ry : RelV y u) (h : ∀ w' s', Inv X pins σ H s' → RelV v w' → Q w' s') :
    wpAny (model X.prog X.w) A (getItem (.ref a) u) Q E s := by
  rcases g with ⟨kvs, k, e, ey, l⟩ | ⟨kvs, k, b, e, ey, eb, l⟩
  · subst ey
    obtain ⟨z, hd, vs, rel, dd⟩ := dk_rd I.hok e
    obtain ⟨w', hw, rw'⟩ := RelO.some_of (v := v) (o := valueAt vs k) (by rw [l]; exact rel.val k)
    exact wpAny_getItem_of (kV_is ry) dd.mapOf hw (h w' _ (I.tok _) rw')
  · subst ey
    cases (show u = Value.ref b from ry)
    obtain ⟨z, hd, xs, rel, dd⟩ := dt_rd I.hok e
    obtain ⟨w', hw, rw'⟩ := RelO.some_of (v := v) (o := (atKey xs k).map (·.2)) (by rw [l]; exact rel.val k)
    obtain ⟨p, hp, hp2⟩ := Option.map_eq_some_iff.mp hw
    refine wpAny_getItem_heap (tupleKind_room_in1 hu) (key_of I.hok eb) dd hp ?_
    rw [hp2]
    exact h w' _ (I.tok _) rw'
/-- y in d -/
theorem d_in {Q : Value → Shared → Prop} (hu : A.units + 1 < cLine) (I : Inv X pins σ H s) (g : DGet H a y o) (ry : RelV y u) (h : ∀ s', Inv X pins σ H s' → Q (.bool o.isSome) s') :
    wpAny (model X.prog X.w) A (compareOp .In u (.ref a)) Q E s := by
  rcases g with ⟨kvs, k, e, ey, l⟩ | ⟨kvs, k, b, e, ey, eb, l⟩
  · subst ey
    obtain ⟨z, hd, vs, rel, dd⟩ := dk_rd I.hok e
    refine wpAny_in_of (kV_is ry) hd dd.mapOf ?_
    rw [← (rel.val k).isSome_eq, ← l]
    exact h _ (I.tok _)
  · subst ey
    cases (show u = Value.ref b from ry)
    obtain ⟨z, hd, xs, rel, dd⟩ := dt_rd I.hok e
    refine wpAny_in_heap (tupleKind_room_in1 hu) (key_of I.hok eb) hd dd ?_
    have q := (rel.val k).isSome_eq
    rw [Option.isSome_map] at q
    rw [← q, ← l]
    exact h _ (I.tok _)
/-- a dict's object is replaced -/
theorem d_write {h' : Heap} {t' : Nat} {ob : HO} (I : Inv X pins σ H s) (mu : Mut (H a)) (hs : Heap.SameBut a s.heap h') (he : ∃ q, h'.get? a = some q) (new : ObjOk X.prog X.w (upd H a ob) h' a ob) :
    Inv X pins σ (upd H a ob) { s with heap := h', toks := t' } :=
  I.write (x := a) (e := a) mu (.inl rfl) (fun b q hb z => (hs.2 b hb).trans z) he new
theorem dk_new {P : Program} {w : World} {H' : Hp} {h' : Heap} {kvs : List (Key × V)} {vs : List (Key × Value)} (z : kvs.length ≤ sizeLine) (hd : (a == sysModules) = false) (rel : KV kvs vs) (dd : h'.DictOf (mixKind P w) a vs) :
    ObjOk P w H' h' a (.dK kvs) := ⟨z, hd, vs, rel, dd⟩
/-- d[y] = v -/
theorem d_setItem {H' : Hp} {Q : Unit → Shared → Prop} (hu : A.units + 1 < cLine) (I : Inv X pins σ H s) (g : DPut H a y v H') (ry : RelV y u) (rv : RelV v r) (h : ∀ s', Inv X pins σ H' s' → Q () s') :
    wpAny (model X.prog X.w) A (setItem (.ref a) u r) Q E s := by
  rcases g with ⟨kvs, k, e, ey, l, eH⟩ | ⟨kvs, k, b, e, ey, eb, l, eH⟩
  · subst ey eH
    obtain ⟨z, hd, vs, rel, dd⟩ := dk_of I.hok e
    have hz : vs.length ≤ sizeLine := by rw [← rel.length]; exact z
    have hl : (putK kvs k v).length ≤ sizeLine := by have := length_putK kvs k v; omega
    refine wpAny_setItem_pairs (hsz := hz) (kV_is ry) dd fun h' dd' hs => h _ ?_
    have he : ∃ q, h'.get? a = some q := let ⟨q, _, _, hq, _⟩ := dd'; ⟨q, hq⟩
    exact d_write I (by rw [e]; exact True.intro) hs he (dk_new hl hd (rel.put k rv) dd')
  · subst ey eH
    cases (show u = Value.ref b from ry)
    obtain ⟨z, hd, xs, rel, dd⟩ := dt_of I.hok e
    have hz : xs.length ≤ sizeLine := by rw [← Paired.length rel]; exact z
    have hl : (putK kvs k v).length ≤ sizeLine := by have := length_putK kvs k v; omega
    refine wpAny_setItem_heap (hsz := hz) (tupleKind_room_in1 hu) (key_of I.hok eb) dd fun h' dd' hs => h _ ?_
    obtain ⟨q, es, ep, hq, h2, h3, h4, _, h5⟩ := dd'
    refine d_write I (by rw [e]; exact True.intro) hs ⟨q, hq⟩ ⟨hl, hd, _, (rel.put k eb rv).keeps fun c ys ec => ?_, q, es, ep, hq, h2, h3, h4, h5⟩
    rw [upd_ne (ne_of ec e (fun z => nomatch z))]
    exact ec
end

section
variable {X : Cx} {pins : List (Addr × Obj)} {σ : St} {H : Hp} {s : Shared} {a : Addr} {kvs : List (Key × V)} {k : Key} {u : Value} {A : Around} {E : Value → Shared → Prop}
end


/-- the element of a subscription, not a slice -/
def NoSl (i : Expr) : Prop := ∀ ov iv, subscripted i false ov iv = operate [ov, iv] (getItem ov iv)
theorem subD_of {prog : Program} {w : World} {A : Around} {E : Value → Shared → Prop} {s : Shared} {env : Env} {value slice : Expr} {pos : Pos} {T id : String} {Q : Value → Shared → Prop}
    (hl : typeLookup (.type T) "__getitem__" = pure (some (.builtin id))) (hs : NoSl slice)
    (h : wpAny (model prog w) A (eval value env) (fun o s₁ => wpAny (model prog w) A (eval slice env) (fun i s₂ => s₂.TypeIs o T ∧ wpAny (model prog w) A (getItem o i) Q E s₂) E s₁) E s) :
    wpAny (model prog w) A (eval (.Subscript value slice pos) env) Q E s := by
  refine Subscript_ (wpAny_mono h (fun o s₁ h₁ => wpAny_mono h₁ (fun i s₂ h₂ => ?_) fun _ _ x => x) fun _ _ x => x)
  obtain ⟨hT, h₂⟩ := h₂
  unfold subscriptTail
  refine wpAny_bind ?_
  rw [getitemInPython_of_ne hT.not_modules]
  refine wpAny_bind (wpAny_specialOf hT hl ?_)
  have fin : wpAny (model prog w) A (subscripted slice false o i) (fun r s₃ => wpAny (model prog w) A (letTemporaryGo value o r >>= fun _ => pure r) Q E s₃) E s₂ := by
    rw [hs o i]
    exact wpAny_operating (wpAny_mono h₂ (fun r s₃ h₃ => wpAny_bind (wpAny_letTemporaryGo (wpAny_pure h₃))) fun _ _ x => x)
  first
    | exact wpAny_pure (wpAny_bind fin)
    | exact wpAny_bind (wpAny_pure (wpAny_bind fin))
    | exact wpAny_bind fin

theorem dict_typeIs {X : Cx} {pins : List (Addr × Obj)} {σ : St} {H : Hp} {s : Shared} {a : Addr} {y : V} {o : Option V} (I : Inv X pins σ H s) (g : DGet H a y o) : s.TypeIs (.ref a) "dict" := by
  rcases g with ⟨kvs, k, e, _, _⟩ | ⟨kvs, k, b, e, _, _, _⟩
  · obtain ⟨_, _, vs, _, dd⟩ := dk_rd I.hok e
    exact dd.typeIs
  · obtain ⟨_, _, xs, _, dd⟩ := dt_rd I.hok e
    exact dd.typeIs
/-- d[y] -/
def tDGet (td ty : TE) : TE := fun σ H Q => td σ H fun x H1 => ty σ H1 fun y H2 => ∃ a v, x = .ref a ∧ DGet H2 a y (some v) ∧ Q v H2
/-- y in d, y not in d -/
def tDIn (ty td : TE) : TE := fun σ H Q => ty σ H fun y H1 => td σ H1 fun x H2 => ∃ a o, x = .ref a ∧ DGet H2 a y o ∧ Q (.bl o.isSome) H2
/-- d[y] = v -/
def sDPut (td ty tv : TE) : TS := fun D σ H => tv σ H fun v H1 => td σ H1 fun x H2 => ty σ H2 fun y H3 => ∃ a H4, x = .ref a ∧ DPut H3 a y v H4 ∧ D.nx σ H4
section
variable {X : Cx} {o i e value : Expr} {pos pos' tpos : Pos} {td ty tv : TE}
theorem pe_dget (hu : X.A.units + 1 < cLine) (ho : PE X o td) (hi : PE X i ty) (hs : NoSl i) : PE X (.Subscript o i pos) (tDGet td ty) := by
  intro pins s σ H Q I h
  refine subD_of PySem.F.slot_dict_getitem.lookup hs (thn (ho pins s σ H _ I h) fun u s1 ⟨x, H1, I1, rx, q1⟩ => thn (hi pins s1 σ H1 _ I1 q1) fun iv s2 ⟨y, H2, I2, ry, a, v, ex, g, q2⟩ => ?_)
  subst ex
  obtain rfl : u = Value.ref a := rx
  exact ⟨dict_typeIs I2 g, d_getItem hu I2 g ry fun w' s3 I3 rw' => ⟨v, H2, I3, rw', q2⟩⟩
theorem pc_din (hu : X.A.units + 1 < cLine) (hi : PE X i ty) (ho : PE X o td) : PC X .In i o (tDIn ty td) := by
  intro pins s σ H Q I h
  refine thn (hi pins s σ H _ I h) fun iv s1 ⟨y, H1, I1, ry, q1⟩ => thn (ho pins s1 σ H1 _ I1 q1) fun u s2 ⟨x, H2, I2, rx, a, ov, ex, g, q2⟩ => ?_
  subst ex
  obtain rfl : u = Value.ref a := rx
  exact d_in hu I2 g ry fun s3 I3 => ⟨.bl ov.isSome, H2, I3, rfl, q2⟩
theorem ps_dput (hu : X.A.units + 1 < cLine) (ho : PE X o td) (hi : PE X i ty) (hv : PE X value tv) (hs : swapsWith value (some (.Subscript o i pos')) pos.line X.env = pure false) :
    PS X (.Assign [.Subscript o i pos'] value pos) (sDPut td ty tv) := by
  intro pins s σ H D I h
  refine wpAny_Assign_Subscript (thn (hv pins s σ H _ I h) fun r s1 ⟨v, H1, I1, rv, q1⟩ => thn (ho pins s1 σ H1 _ I1 q1) fun u s2 ⟨x, H2, I2, rx, q2⟩ => thn (hi pins s2 σ H2 _ I2 q2) fun iv s3 ⟨y, H3, I3, ry, a, H4, ex, g, q3⟩ => ?_) hs
  subst ex
  obtain rfl : u = Value.ref a := rx
  exact d_setItem hu I3 g ry rv fun s4 I4 => ⟨σ, H4, I4, q3⟩
end


theorem dk_empty {P : Program} {w : World} {H : Hp} (h : Heap) (hb : sysModules < h.objs.size) : ObjOk P w H (h.push { cls := .type "dict", data := .dict #[] }) h.objs.size (.dK []) :=
  ⟨Nat.zero_le _, beq_eq_false_iff_ne.mpr (Ne.symm (Nat.ne_of_lt hb)), [], .nil, Heap.DictOf.new h⟩
/-- {}, to be a dict of the kind that is wanted -/
def tDNewK : TE := fun _ H Q => ∀ p, H p = none → Q (.ref p) (upd H p (.dK []))
section
variable {X : Cx} {pos : Pos}
theorem pe_dnewK : PE X (.Dict [] [] pos) tDNewK := fun pins s σ H Q I h =>
  wpAny_Dict_empty ⟨.ref s.heap.objs.size, _, I.laid (a := s.heap.objs.size) (o := .dK []) (t' := s.toks) (fun _ _ q => Heap.get?_push_of_some _ q) (Nat.le_refl _) (dk_empty s.heap I.big), rfl, h _ (I.hok.fresh (Nat.le_refl _))⟩
end

section
variable {X : Cx} {pins : List (Addr × Obj)} {σ : St} {H : Hp} {s : Shared} {a : Addr} {y d : V} {u r : Value} {o : Option V} {A : Around} {E : Value → Shared → Prop}
end

section
variable {X : Cx} {o e f : Expr} {apos cpos : Pos} {td ty tx : TE}
end

section
variable {X : Cx} {pins : List (Addr × Obj)} {σ : St} {H : Hp} {s : Shared} {a : Addr} {kvs : List (Key × V)} {A : Around} {E : Value → Shared → Prop}
end


section
variable {X : Cx} {pins : List (Addr × Obj)} {σ : St} {H : Hp} {s : Shared} {a : Addr} {y : V} {u : Value} {A : Around} {E : Value → Shared → Prop}
end
end L2

namespace Att
open PySem PySem.W PySem.Calls PyProof.Rows

theorem ints_of_wellAll {P : Params} {h : Heap} : ∀ (ns : List Int) (vs : List Value), WellAll P h vs (ns.map WData.int) → IntsAre vs ns := by
  intro ns
  induction ns with
  | nil =>
    intro vs w
    rw [List.map_nil] at w
    cases w
    exact .nil
  | cons n ns ih =>
    intro vs w
    rw [List.map_cons] at w
    cases w with
    | cons a b =>
      cases a
      exact .cons _ _ (ih _ b)

theorem script_of {l : OpenLaw} {n : Nat} (hn : l.most = some n) {P : Params} {h : Heap} {args : List WData} {vals : List Value}
    (hpre : l.row.toRowW.claim.pre args = true) (hwl : WellAll P h vals args) :
    ∃ a vs ns, vals = [Value.ref a] ∧ args = [WData.list (ns.map WData.int)] ∧ h.get? a = some { cls := .type "list", data := .seq vs.toArray } ∧ IntsAre vs ns ∧ ns.length ≤ n := by
  have hsh : WShape.hasAll [] args [.list .int] = true := (pre_splitW hpre).1
  have hc : l.pre.holds [] { args := args } = true := (pre_splitW hpre).2
  obtain ⟨d, r, rfl, h1, h2⟩ := hasAllW_cons hsh
  obtain rfl := hasAllW_nil h2
  obtain ⟨xs, rfl, h3⟩ := hasW_list h1
  obtain ⟨ns, rfl⟩ := items_int h3
  have hlen : ns.length ≤ n := by
    unfold OpenLaw.pre at hc
    have h4 : (WTm.not (.lt (.lit (.int (n : Int))) (.len (.arg 0)))).holds [] { args := [.list (ns.map .int)] } = true := by
      have h4 := (holds_andW hc).1
      rw [hn] at h4
      exact h4
    have h5 := condW_of h4 (w_not (w_lt w_lit (w_len_list (w_arg rfl))))
    rw [List.length_map] at h5
    refine Nat.le_of_not_lt fun q => ?_
    have q' : (n : Int) < ((ns.length : Nat) : Int) := by omega
    first
      | (rw [decide_eq_true q'] at h5; exact absurd h5 (by decide))
      | (simp at h5; omega)
  cases hwl with
  | cons w1 w2 =>
    cases w2
    cases w1 with
    | list ho hall => exact ⟨_, _, ns, rfl, rfl, ho, ints_of_wellAll ns _ hall, hlen⟩

theorem post_true (l : OpenLaw) (args : List WData) : l.row.toRowW.claim.post args (.bool true) args = true :=
  postW_of (r := l.row.toRowW) (X := (true == true))
    (show WShape.has [] (.bool true) .bool = true by first | rfl | decide | simp [WShape.has, WShape.arms, WShape.armsAll])
    (show (WTm.eq .res (.lit (.bool true))).value [] { args := args, res := some (.bool true), after := args } = some (.bool (true == true)) from w_eq_bool (w_res rfl) w_lit) rfl

/-- the same from a codeAny of the CALL (for a layer whose function contracts speak of calls) -/
theorem attach_call {l : OpenLaw} {n : Nat} {q : Program} {loose : List Str} {XP : (Str → Option Value) → Heap → Prop} {YP : World → Heap → Prop} {d : DefRec}
    (hn : l.most = some n) (hdf : d.params.defaults = [])
    (call : ∀ (w : World) (s₀ s₁ : Shared) (mg mb : Str → Option Value) (fa : Addr) (o : Obj) (pm cd doc : Value) (a : Addr) (vs : List Value) (ns : List Int),
      Ground q loose [] XP w s₀ mg mb s₁.heap → YP w s₁.heap →
      s₁.heap.get? fa = some o → o.data = .func (docDef d.name d.params d.body d.scope pm cd doc) → s₁.heap.CodeRec cd d.name → mg d.name = some (.ref fa) →
      s₁.heap.get? a = some { cls := .type "list", data := .seq vs.toArray } → IntsAre vs ns → ns.length ≤ n → s₁.gens = #[] →
      codeAny (model l.prog w) callerA (.call (.ref fa) ⟨[.ref a], []⟩) (fun r s' => r = .ok (.ret (.bool true)) ∧ OldK s₁.heap s'.heap ∧ s'.os = s₁.os ∧ AllBare s'.gens) s₁) :
    WalkO q loose XP YP l.row.toRowW d [] (fun f vs => PySem.call f vs) := by
  intro w s₀ s₁ mg mb G Y fa o pm cd doc dV kV ho hd hcd hD hmg hg args vals as hpre hlay hrd hwl hlo
  obtain rfl : dV = .none := Dflts.none hD hdf
  obtain rfl : kV = .none := Dflts.noKw hD
  obtain ⟨a, vs, ns, rfl, rfl, hobj, hints, hlen⟩ := script_of hn hpre hwl
  refine enter_call (codeAny_mono (call w s₀ s₁ mg mb fa o pm cd doc a vs ns G Y ho (fd_plain hd) hcd hmg hobj hints hlen hg) fun r s' hq => ?_)
  obtain ⟨rfl, h2, h3, h4⟩ := hq
  exact ⟨.inl ⟨.bool true, .bool true, [], rfl, fun _ => rfl, .bool true, post_true l _, fun _ => ⟨List.Pairwise.nil, fun _ hm => (nomatch hm)⟩⟩, h2, h3, h4⟩

section
variable {prog : Program} {w : World} {A : Around} {E : Value → Shared → Prop} {s : Shared} {K : Frag}

end
end Att

namespace L2
open PySem PySem.Spec PyProof.Rows

theorem vals_ints : ∀ {vs : List Value} {ns : List Int}, IntsAre vs ns → Vals (ns.map V.int) vs
  | _, _, .nil => .nil
  | _, _, .cons n t h => .cons ⟨t, rfl⟩ (vals_ints h)

/-- nothing is tracked but the script, known to the object (or it is an object of the module) -/
def Only (H : Hp) : Prop := ∀ b, H b = none ∨ ∃ o xs, H b = some (.frz o (.lst xs))

/-- THE HEAD: the law's promise, at the heap behind the top. F, the promise of the law's def, may use that base is part of the heap (so K.In base, base.Ns mainGlobals mg stand in Mod) -/
theorem law_call {P : Program} {w : World} {K : PySem.W.Frag} {mg mb : Str → Option Value} {CX : CXT} {k : Nat} {fa a : Addr} {fd : FuncData} {x : Str} {sp : Sp} {s₁ : Shared} {vs : List Value} {ns : List Int}
    (KX : K.In s₁.heap) (hns : s₁.heap.Ns mainGlobals mg) (hb : s₁.heap.Ns builtinsNs mb) (hbb : ∀ x : Str, x ≠ "__name__" → mb x = bootBuiltins x) (hlim : s₁.heap.NoLimit) (hg : s₁.gens = #[])
    (ha : s₁.heap.get? a = some { cls := .type "list", data := .seq vs.toArray }) (hi : IntsAre vs ns) (hl : ns.length ≤ sizeLine) (hr : Room k callerA)
    (F : ∀ base : Heap, K.In base → base.Ns mainGlobals mg → FnOk P w K mg base CX k fa fd [x] sp) (hbind : ∀ (s : Shared) (u : Value), BindsTo s fd ⟨[u], []⟩ [(x, u)])
    (hsp : ∀ H : Hp, Only H → SqL K H a (ns.map V.int) → sp [.ref a] H (fun v _ => v = .bl true) fun _ _ _ => False)
    (hCX : ∀ H e s', CX [] H s₁ (fun _ _ _ => False) e s' → False) :
    codeAny (model P w) callerA (.call (.ref fa) ⟨[.ref a], []⟩) (fun r s' => r = .ok (.ret (.bool true)) ∧ OldK s₁.heap s'.heap ∧ s'.os = s₁.os ∧ AllBare s'.gens) s₁ := by
  have rv := vals_ints hi
  have lenV := hi.length
  -- from an abstract heap in which nothing but the script may be tracked
  have core : ∀ H : Hp, Only H → SqL K H a (ns.map V.int) → HOk P w H s₁.heap → (∀ b, H b ≠ none → b = a) → (H a ≠ none → K.lookup a = none) →
      codeAny (model P w) callerA (.call (.ref fa) ⟨[.ref a], []⟩) (fun r s' => r = .ok (.ret (.bool true)) ∧ OldK s₁.heap s'.heap ∧ s'.os = s₁.os ∧ AllBare s'.gens) s₁ := by
    intro H hO hS hok hA hK
    have base_of : ∀ {b : Addr} {o : Obj}, s₁.heap.get? b = some o → H b = none → (hidT s₁.heap H).get? b = some o := fun e n => hidT_get e n
    have noA : ∀ {b : Addr} {o : Obj} {es : Array DictEntry} {ep : Nat}, s₁.heap.get? b = some o → o.data = .dict es ep → H b = none := fun {b o es ep} e d => by
      cases q : H b with
      | none => rfl
      | some u =>
        have e' : b = a := hA b (by rw [q]; simp)
        subst e'
        rw [ha] at e; cases e
        have d' : Data.seq vs.toArray _ = Data.dict es ep := d
        cases d'
    have nsK : ∀ {b : Addr} {m : Str → Option Value}, s₁.heap.Ns b m → (hidT s₁.heap H).Ns b m := fun {b m} ⟨o, es, ep, e, d, r⟩ => ⟨o, es, ep, base_of e (noA e d), d, r⟩
    have hKb : K.In (hidT s₁.heap H) := fun b o e => base_of (KX b o e) (by
      cases q : H b with
      | none => rfl
      | some u =>
        have e' : b = a := hA b (by rw [q]; simp)
        subst e'
        rw [hK (by rw [q]; simp)] at e; cases e)
    have hM : Mod K mg (hidT s₁.heap H) := ⟨hKb, nsK hns, ⟨mb, nsK hb, hbb⟩, let ⟨mc, h1, h2⟩ := hlim; ⟨mc, nsK h1, h2⟩⟩
    have e0 : Env0 P w K mg (hidT s₁.heap H) callerA [] s₁ H := ⟨rfl, hM, fun b o e => of_hidT e, Nat.le_of_eq (hidT_size _ _), trivial, fun b hb => absurd (show b ∈ ([] : List Addr) from hb) (by simp), hok, .of_eq hg⟩
    refine codeAny_mono ((F _ hKb (nsK hns)).run callerA [] s₁ H ⟨[.ref a], []⟩ [.ref a] [.ref a] _ _ hr e0 (hbind s₁ (.ref a)) (.cons rfl .nil) (hsp H hO hS)) fun r s' h => ?_
    cases r with
    | error e => exact (hCX H e s' h).elim
    | ok fl =>
      cases fl with
      | next => exact False.elim h
      | brk => exact False.elim h
      | cont => exact False.elim h
      | ret u =>
        obtain ⟨v, H', os, bare, un, hok', r', q⟩ := h
        have q' : v = .bl true := q
        subst q'
        obtain rfl : u = Value.bool true := r'
        refine ⟨rfl, OldK.of_keep fun b o e => ?_, os, bare⟩
        cases q : H b with
        | none => exact un.keep b o e q (by intro z; exact absurd (show b ∈ ([] : List Addr) from z) (by simp)) (by simp)
        | some u =>
          rcases hO b with z | ⟨ob, xs, z⟩
          · rw [q] at z; cases z
          · have z2 := un.frzs b ob _ z
            obtain ⟨e1, _⟩ := hok b _ z
            obtain ⟨e2, _⟩ := hok' b _ z2
            rw [e] at e1; cases e1
            exact e2
  cases hk : K.lookup a with
  | some o =>
    -- the script is one of the module's own objects
    have e := KX a o hk
    rw [ha] at e
    cases e
    refine core (fun _ => none) (fun _ => .inl rfl) (.inr ⟨_, vs.toArray, _, hk, rfl, rfl, rfl, by rw [List.size_toArray, lenV]; exact hl, by simpa using rv⟩) (fun b u z => by have z' : (none : Option HO) = some u := z; cases z') (fun b z => absurd rfl z) fun z => absurd rfl z
  | none =>
    refine core (fun b => if b = a then some (.frz { cls := .type "list", data := .seq vs.toArray } (.lst (ns.map V.int))) else none) (fun b => ?_) (.inl (.inr ⟨{ cls := .type "list", data := .seq vs.toArray }, if_pos rfl⟩)) (fun b u z => ?_) (fun b z => ?_) fun _ => hk
    · by_cases hb : b = a
      · exact .inr ⟨_, _, if_pos hb⟩
      · exact .inl (if_neg hb)
    · by_cases hb : b = a
      · have z' := (if_pos hb).symm.trans z
        cases z'
        subst hb
        exact ⟨ha, by rw [List.length_map]; exact hl, vs, _, rv, ha⟩
      · have z' := (if_neg hb).symm.trans z
        cases z'
    · by_cases hb : b = a
      · exact hb
      · exact absurd (if_neg hb) z
end L2

namespace L2
open PySem PySem.Spec PyProof.Rows

abbrev KOf {K : PySem.W.Frag} {h : Heap} (_ : K.In h) : PySem.W.Frag := K

/-- the goal that k_head leaves (case hc), from the law's promise. F gives the function object fd (K's own) once, then the promise over every base -/
theorem walk_of {l : PySem.W.OpenLaw} {n k : Nat} {q : Program} {loose : List Str} {XP : (Str → Option Value) → Heap → Prop} {YP : World → Heap → Prop} {d : DefRec} {K : Params → PySem.W.Frag} {CX : World → CXT} {sp : World → Sp} {x : Str}
    (hn : l.most = some n) (hn2 : n ≤ sizeLine) (hdf : d.params.defaults = []) (hr : Room k callerA)
    (hY : ∀ (w : World) (h : Heap), YP w h → (K w.params).In h)
    (F : ∀ (w : World) (mg : Str → Option Value) (fa : Addr) (h : Heap), (K w.params).In h → h.Ns mainGlobals mg → mg d.name = some (.ref fa) →
      ∃ fd : FuncData, (∀ (s : Shared) (u : Value), BindsTo s fd ⟨[u], []⟩ [(x, u)]) ∧
        ∀ base : Heap, (K w.params).In base → base.Ns mainGlobals mg → FnOk l.prog w (K w.params) mg base (CX w) k fa fd [x] (sp w))
    (hsp : ∀ (w : World) (H : Hp) (a : Addr) (ns : List Int), ns.length ≤ n → Only H → SqL (K w.params) H a (ns.map V.int) → sp w [.ref a] H (fun v _ => v = .bl true) fun _ _ _ => False)
    (hCX : ∀ (w : World) (H : Hp) (s : Shared) (e : Value) (s' : Shared), CX w [] H s (fun _ _ _ => False) e s' → False) :
    PySem.W.WalkO q loose XP YP l.row.toRowW d [] (fun f vs => PySem.call f vs) := by
  refine Att.attach_call hn hdf fun w s₀ s₁ mg mb fa o pm cd doc a vs ns G Y ho hd hcd hmg hobj hints hlen hg => ?_
  have KX := hY w _ Y
  obtain ⟨fd, hb, hF⟩ := F w mg fa _ KX G.T.g hmg
  exact law_call KX G.T.g G.T.b G.T.builtins G.T.nolimit hg hobj hints (Nat.le_trans hlen hn2) hr hF hb (fun H hO hS => hsp w H a ns hlen hO hS) fun H e s' => hCX w H s₁ e s'
end L2


namespace L2
open PySem PySem.Spec PyProof.Rows

/-- the j-th statement of a class's body -/
def inClass (s : Stmt) (j : Nat) : Stmt := match s with
  | .ClassDef _ _ _ body _ _ _ _ _ _ _ => body.getD j (.Pass ⟨0, 0, 0, 0⟩)
  | _ => .Pass ⟨0, 0, 0, 0⟩
def defArgs (s : Stmt) : Arguments := match s with
  | .FunctionDef _ a _ _ _ _ _ _ _ _ => a
  | _ => { posonlyargs := [], args := [], vararg := none, kwonlyargs := [], kw_defaults := [], kwarg := none, defaults := [] }
def defBody (s : Stmt) : List Stmt := match s with
  | .FunctionDef _ _ b _ _ _ _ _ _ _ => b
  | _ => []
def defScope (s : Stmt) : Scope := match s with
  | .FunctionDef _ _ _ _ _ _ sc _ _ _ => sc
  | _ => { kind := .function, names := [], isGenerator := false, isCoroutine := false }

abbrev CX0 : CXT := fun _ _ _ _ _ _ => False
abbrev E0 : XK := fun _ _ _ => False
theorem pass0 {X : Cx} : Passes CX0 X E0 := fun _ _ _ _ _ _ _ h => h.elim

structure Fun (K : PySem.W.Frag) (x qual : Str) (st : Stmt) (f : Addr) (fd : FuncData) : Prop where
  ex : ∃ (oc : Value) (od : Option Addr) (kV doc pm : Value) (an : Option Addr) (cdv ct : Value) (osl : Array (Option Value)),
    fd = PySem.W.fnOf x qual (defArgs st) (defBody st) (defScope st) .none kV doc pm an cdv ct ∧ K.lookup f = some ⟨oc, od, .func fd, osl⟩ ∧ PySem.W.codeIn K cdv qual = true
  kp : PySem.W.keepIn K (.ref f) = true
section
variable {P : Program} {w : World} {K : PySem.W.Frag} {mg : Str → Option Value} {base : Heap}
/-- THE RULE for a def: its body as a term of rules, and the reading of that term -/
theorem Fun.ok {x qual : Str} {st : Stmt} {f : Addr} {fd : FuncData} {N ps : List Str} {k : Nat} {sp : Sp} (F : Fun K x qual st f fd) (S : FnScope N ps (defScope st)) (len : ∀ vs H Q E, sp vs H Q E → vs.length = ps.length)
    (hbody : ∀ (cdv : Value) (A : Around) (outer : List Env) (s : Shared) (H : Hp) (vs : List V) (Q : VK) (E : XK), Room k (A.deeper (envOfC qual (defScope st) s.heap.objs.size f cdv)) → sp vs H Q E →
      ∃ t, PSs (cxOf CX0 P w K mg base N qual (defScope st) f cdv A outer s H E).nox (defBody st) t ∧ t { nx := fun _ H' => Q .non H', rt := Q } (start N vs) H) : FnOk P w K mg base CX0 (k + 1) f fd ps sp := by
  obtain ⟨oc, od, kV, doc, pm, an, cdv, ct, osl, rfl, lk, hcd⟩ := F.ex
  refine fn_of lk hcd S len fun A outer s H vs Q E hr hsp => ?_
  obtain ⟨t, h, q⟩ := hbody cdv A outer s H vs Q E hr hsp
  exact ⟨t, h.nox, q⟩
/-- how its arguments bind (no defaults): h is «fun _ _ _ _ _ _ us hl => match us, hl with | [_, _], _ => rfl», one _ a parameter -/
theorem Fun.binds {x qual : Str} {st : Stmt} {f : Addr} {fd : FuncData} {ps : List Str} (F : Fun K x qual st f fd)
    (h : ∀ (kV doc pm : Value) (an : Option Addr) (cdv ct : Value) (us : List Value), us.length = ps.length → bindArgs (PySem.W.fnOf x qual (defArgs st) (defBody st) (defScope st) .none kV doc pm an cdv ct) ⟨us, []⟩ = pure (ps.zip us)) : Binds K fd ps [] := by
  obtain ⟨oc, od, kV, doc, pm, an, cdv, ct, osl, rfl, lk, hcd⟩ := F.ex
  exact .all (h kV doc pm an cdv ct)
theorem fun_mk {x qual : Str} {st : Stmt} {f : Addr} {oc : Value} {od an : Option Addr} {osl : Array (Option Value)} {kV doc pm cdv ct : Value} (l : K.lookup f = some ⟨oc, od, .func (PySem.W.fnOf x qual (defArgs st) (defBody st) (defScope st) .none kV doc pm an cdv ct), osl⟩)
    (c : PySem.W.codeIn K cdv qual = true) (k : PySem.W.keepIn K (.ref f) = true) : Fun K x qual st f (PySem.W.fnOf x qual (defArgs st) (defBody st) (defScope st) .none kV doc pm an cdv ct) := ⟨⟨oc, od, kV, doc, pm, an, cdv, ct, osl, rfl, l, c⟩, k⟩
end
theorem hu_of {A : Around} {k : Nat} (hr : Room k A) : A.units + 1 < cLine := Nat.lt_of_le_of_lt (Nat.add_le_add_left (by decide : 1 ≤ 64) _) hr.units
theorem small1000 {n : Nat} (h : n ≤ 1000) : n < sizeLine := Nat.lt_of_le_of_lt h (by decide)

section
variable {X : Cx}
theorem pv (i : Nat) {x : Str} {pos : Pos} (hN : X.N[i]? = some x := by rfl) (hv : Vis X.env.scope x := by first | exact Or.inl rfl | exact Or.inr (Or.inl rfl) | exact Or.inr (Or.inr rfl)) (hd : (x == ("__debug__" : Str)) = false := by decide)
    (hcd : (x == ("__classdict__" : Str)) = false := by decide) : PE X (.Name x pos) (tVar i) := pe_var hN hv hd hcd
end

theorem iteF {A B : Prop} (h : B) : if false = true then A else B := by
  rw [if_neg Bool.false_ne_true]
  exact h
theorem iteT {A B : Prop} (h : A) : if true = true then A else B := by
  rw [if_pos rfl]
  exact h
theorem ite2 {c A B : Prop} [Decidable c] (h1 : c → A) (h2 : ¬ c → B) : if c then A else B := by
  by_cases h : c
  · rw [if_pos h]
    exact h1 h
  · rw [if_neg h]
    exact h2 h
theorem iteNS {c A B : Prop} [Decidable c] (hc : c) (h : B) : if (!decide c) = true then A else B := by
  rw [decide_eq_true hc]
  exact iteF h

/-- all that was tracked is as it was -/
def Same (H H' : Hp) : Prop := ∀ b o, H b = some o → H' b = some o
theorem Same.refl (H : Hp) : Same H H := fun _ _ h => h
theorem Same.trans {H H1 H2 : Hp} (a : Same H H1) (b : Same H1 H2) : Same H H2 := fun c o h => b c o (a c o h)
theorem Same.free {H H' : Hp} (e : Same H H') {l : Addr} (h : H' l = Option.none) : H l = Option.none := by
  cases q : H l with
  | none => rfl
  | some o =>
    rw [e l o q] at h
    cases h
theorem Same.seq {K : PySem.W.Frag} {H H' : Hp} {a : Addr} {xs : List V} (e : Same H H') (h : SqL K H a xs) : SqL K H' a xs := by
  rcases h with (h | ⟨o, h⟩) | h
  · exact .inl (.inl (e _ _ h))
  · exact .inl (.inr ⟨o, e _ _ h⟩)
  · exact .inr h

end L2

namespace L2
open PySem PySem.Spec PyProof.Rows
section
variable {X : Cx}
end
section
variable {κ : Type} [DecidableEq κ]
theorem valV_in {kvs : List (κ × V)} {k : κ} {v : V} (h : valV kvs k = some v) : k ∈ kvs.map (·.1) := by
  have q : (kvs.any fun kv => decide (kv.1 = k)) = true := by
    rw [valV_any, h]
    all_goals rfl
  obtain ⟨p, hp, e⟩ := List.any_eq_true.mp q
  exact List.mem_map.mpr ⟨p, hp, of_decide_eq_true e⟩
end
end L2
namespace L2
open PySem PySem.Spec PyProof.Rows

theorem comp_turn {prog : Program} {w : World} {A : Around} {R : Result → Shared → Prop} {s : Shared} {elt target iter : Expr} {scope : Scope} {pos : Pos} {it acc : Value} {env : Env} (I : Nat → Shared → Prop)
    (turn : ∀ n s, I n s → wpAny (model prog w) A (pyNext it) (fun r s₁ => match r with
      | none => R (.ok .next) s₁
      | some v => wpAny (model prog w) A (letOwnedTupleGo target it v) (fun _ s₀ => wpAny (model prog w) A (assign target env v) (fun _ s₂ =>
          wpAny (model prog w) A (eval elt env) (fun x s₄ =>
              wpAny (model prog w) A (call (.builtin "list.append") [acc, x]) (fun _ s₅ => ∃ m, m < n ∧ I m s₅) (notedBy (model prog w) A env fun e s' => R (.error e) s') s₄) (notedBy (model prog w) A env fun e s' => R (.error e) s') s₂)
          (notedBy (model prog w) A env fun e s' => R (.error e) s') s₀) (notedBy (model prog w) A env fun e s' => R (.error e) s') s₁) (notedBy (model prog w) A env fun e s' => R (.error e) s') s)
    (n : Nat) (h : I n s) :
    codeAny (model prog w) A (.compLoop (.ListComp elt [⟨target, iter, [], 0⟩] scope pos) 0 it acc env) R s := by
  refine codeAny_loop rfl I (fun n s hI => ?_) n h
  show wpAny _ A ((compTurn (.ListComp elt [⟨target, iter, [], 0⟩] scope pos) 0 it acc env).onRaise (fun x => do noteFrame x env; theTreesLotGoes x)) _ _ s
  refine wpAny_noted ?_
  rw [compTurn_list]
  refine wpAny_bind (wpAny_standAt (wpAny_bind (wpAny_mono (turn n s hI) (fun r s₁ h₁ => ?_) fun _ _ h' => h')))
  cases r with
  | none => exact wpAny_pure h₁
  | some v =>
    refine wpAny_bind (wpAny_mono h₁ (fun _ s₀ h₀ => ?_) fun _ _ h' => h')
    refine wpAny_bind (wpAny_mono h₀ (fun _ s₂ h₂ => wpAny_bind (wpAny_tests_nil ?_)) fun _ _ h' => h')
    exact wpAny_bind (wpAny_bind (wpAny_mono h₂ (fun x s₄ h₄ => wpAny_bind (wpAny_mono h₄ (fun _ s₅ h₅ => wpAny_pure (wpAny_pure ⟨rfl, h₅⟩)) fun _ _ h' => h')) fun _ _ h' => h'))

theorem closureFor_is {env : Env} : ∀ (names : List (Str × NameKind)) (cs : List (Str × Addr)), (∀ y ∈ names, y.2 = .free → ∃ c, env.cells.lookup y.1 = some c) → (∀ x c, cs.lookup x = some c → env.cells.lookup x = some c) →
    ∃ cl, (forIn names cs (fun (x : Str × NameKind) (r : List (Str × Addr)) => if (x.2 == NameKind.free) = true then do let c ← cellOf env x.1; pure (ForInStep.yield ((x.1, c) :: r)) else pure (ForInStep.yield r)) : Sem (List (Str × Addr))) = pure cl ∧
      (∀ x c, cl.lookup x = some c → env.cells.lookup x = some c) ∧ (∀ x c, cs.lookup x = some c → cl.lookup x = some c) ∧ ∀ y ∈ names, y.2 = .free → ∃ c, cl.lookup y.1 = some c
  | [], cs, _, hcs => ⟨cs, by simp, hcs, fun _ _ h => h, fun y hy => nomatch hy⟩
  | (n, k) :: r, cs, h, hcs => by
    by_cases hk : k = .free
    · subst hk
      obtain ⟨c, hc⟩ := h (n, .free) List.mem_cons_self rfl
      have hcs' : ∀ x d, ((n, c) :: cs).lookup x = some d → env.cells.lookup x = some d := fun x d e => by
        rw [List.lookup_cons] at e
        split at e
        · rename_i q
          have q' : x = n := by simpa using q
          cases e; rw [q']; exact hc
        · exact hcs x d e
      obtain ⟨cl, e, h1, h2, h3⟩ := closureFor_is r ((n, c) :: cs) (fun y hy => h y (List.mem_cons_of_mem _ hy)) hcs'
      refine ⟨cl, ?_, h1, fun x d hd => ?_, fun y hy hy2 => ?_⟩
      · rw [List.forIn_cons]
        simp only [cellOf, hc, beq_self_eq_true, if_true, pure_bind]
        exact e
      · refine h2 x d ?_
        rw [List.lookup_cons]
        split
        · rename_i q
          have q' : x = n := by simpa using q
          have := hcs x d hd
          rw [q', hc] at this
          exact this
        · exact hd
      · rcases List.mem_cons.mp hy with rfl | hy
        · exact ⟨c, h2 n c (by simp [List.lookup_cons])⟩
        · exact h3 y hy hy2
    · obtain ⟨cl, e, h1, h2, h3⟩ := closureFor_is r cs (fun y hy => h y (List.mem_cons_of_mem _ hy)) hcs
      refine ⟨cl, ?_, h1, h2, fun y hy hy2 => ?_⟩
      · have hk' : (k == NameKind.free) = false := by simpa using hk
        rw [List.forIn_cons]
        simp only [hk', Bool.false_eq_true, if_false, pure_bind]
        exact e
      · rcases List.mem_cons.mp hy with rfl | hy
        · exact absurd hy2 hk
        · exact h3 y hy hy2
theorem closureFor_eq (scope : Scope) (env : Env) : closureFor scope env = (forIn scope.names [] (fun (x : Str × NameKind) (r : List (Str × Addr)) => if (x.2 == NameKind.free) = true then do let c ← cellOf env x.1; pure (ForInStep.yield ((x.1, c) :: r)) else pure (ForInStep.yield r)) : Sem (List (Str × Addr))) := by
  unfold closureFor
  simp
theorem lookup_relabel_free {env : Env} (hk : env.scope.kind = .function) : ∀ {names : List (Str × NameKind)} {x : Str}, names.lookup x = some .free → env.kindOf x = some .cell →
    (names.map fun (n, k) => if (k == NameKind.free && env.scope.kind == .function && env.kindOf n == some .cell) then (n, NameKind.cell) else (n, k)).lookup x = some .cell
  | [], _, h, _ => by simp at h
  | (n, k) :: r, x, h, hc => by
    have ih := @lookup_relabel_free env hk r x
    show List.lookup x ((if (k == NameKind.free && env.scope.kind == .function && env.kindOf n == some .cell) = true then (n, NameKind.cell) else (n, k)) :: _) = _
    cases hx : x == n with
    | true =>
      simp only [List.lookup_cons, hx] at h
      cases h
      have e : x = n := by simpa using hx
      subst e
      simp [List.lookup_cons, hk, hc]
    | false =>
      simp only [List.lookup_cons, hx] at h
      by_cases hc' : (k == NameKind.free && env.scope.kind == .function && env.kindOf n == some .cell) = true
      · rw [if_pos hc']; simp only [List.lookup_cons, hx]; exact ih h hc
      · rw [if_neg hc']; simp only [List.lookup_cons, hx]; exact ih h hc
/-- a name that is a cell or free in the block was free -/
theorem relabel_was {env : Env} : ∀ {names : List (Str × NameKind)} {x : Str}, (∀ y ∈ names, y.2 ≠ .cell) →
    ((names.map fun (n, k) => if (k == NameKind.free && env.scope.kind == .function && env.kindOf n == some .cell) then (n, NameKind.cell) else (n, k)).lookup x = some .cell ∨
     (names.map fun (n, k) => if (k == NameKind.free && env.scope.kind == .function && env.kindOf n == some .cell) then (n, NameKind.cell) else (n, k)).lookup x = some .free) → (x, NameKind.free) ∈ names
  | [], _, _, h => by simp at h
  | (n, k) :: r, x, hn, h => by
    have ih := @relabel_was env r x fun y hy => hn y (List.mem_cons_of_mem _ hy)
    have hk : k ≠ .cell := hn (n, k) List.mem_cons_self
    cases hx : x == n with
    | true =>
      have e : x = n := by simpa using hx
      subst e
      by_cases hf : k = .free
      · subst hf; exact List.mem_cons_self
      · have hf' : ¬ (k == NameKind.free && env.scope.kind == .function && env.kindOf x == some .cell) = true := by simp [hf]
        simp only [List.map_cons, if_neg hf', List.lookup_cons, beq_self_eq_true] at h
        rcases h with h | h
        · exact absurd (Option.some.inj h) hk
        · exact absurd (Option.some.inj h) hf
    | false =>
      refine List.mem_cons_of_mem _ (ih ?_)
      by_cases hc' : (k == NameKind.free && env.scope.kind == .function && env.kindOf n == some .cell) = true
      · simpa only [List.map_cons, if_pos hc', List.lookup_cons, hx] using h
      · simpa only [List.map_cons, if_neg hc', List.lookup_cons, hx] using h

def blk (X : Cx) (sc : Scope) (cl : List (Str × Addr)) (C : Addr) (N' : List Str) (s₂ : Shared) (H₁ : Hp) (fp : List Addr) (pins : List (Addr × Obj)) : Cx where
  prog := X.prog
  w := X.w
  K := X.K
  mg := X.mg
  base := X.base
  A := X.A
  N := N'
  s₀ := s₂
  H₀ := H₁
  env := compEnvC sc cl C X.env
  outer := X.stack
  stack := X.stack
  ex := fp
  fn := fun _ => false
  calm := X.calm
  pn := X.pn ++ pins
  xe := fun _ _ => False

/-- N, names: the slots and names around; N': the block's slots, k of its own, then those at pull of N (caught) -/
structure BScope (N : List Str) (names : List (Str × NameKind)) (N' : List Str) (k : Nat) (pull : List Nat) (sc : Scope) : Prop where
  kind : sc.kind = .function
  nocell : ∀ y ∈ sc.names, y.2 ≠ .cell
  loc : ∀ y ∈ sc.names, y.2 = .local → sc.names.lookup y.1 = some .local
  len : N'.length = k + pull.length
  cap : ∀ i ∈ List.range pull.length, N'[k + i]? = N[pull.getD i 0]? ∧ ∀ x ∈ (N'[k + i]?).toList, sc.names.lookup x = some .free
  fre : ∀ y ∈ sc.names, y.2 = .free → names.lookup y.1 = some .cell

def bst (k : Nat) (pull : List Nat) (σ : St) : St := List.replicate k none ++ pull.map fun j => σ.getD j none

theorem HOk.but {P : Program} {w : World} {H : Hp} {h h' : Heap} {C : Addr} (x : HOk P w H h) (hn : H C = none) (k : ∀ b o, b ≠ C → h.get? b = some o → h'.get? b = some o) : HOk P w H h' := fun b u e => by
  have nit : ∀ b u, H b = some u → b ≠ C := fun b u e z => by rw [z, hn] at e; cases e
  refine (x b u e).stay (fun c v hc q => k c v ?_ q) (fun _ q => q) fun _ _ q => q
  rcases hc with z | z
  · rw [z]; exact nit b u e
  · exact nit c _ z

def tComp (wi : TI) (k : Nat) (pull : List Nat) (g : TG) (te : TE) : TE := fun σ H Q => wi σ H fun J H1 => ∀ d, H1 d = none →
  ∃ W : Nat → Nat → St → Hp → Prop, (∃ m, W 0 m (bst k pull σ) (upd H1 d (.lst []))) ∧ ∀ i m σ' H', W i m σ' H' →
    (J.stop i H' ∧ Q (.ref d) H') ∨
    (J.go i H' ∧ ∀ x H2, J.yld i H' x H2 → g x σ' H2 fun σ3 H3 => te σ3 H3 fun y H4 => ∃ xs, H4 d = some (.lst xs) ∧ xs.length < sizeLine ∧ ∃ m', m' < m ∧ W (i + 1) m' σ3 (upd H4 d (.lst (xs ++ [y]))))

section
variable {X : Cx} {elt tg iter : Expr} {sc : Scope} {pos : Pos} {wi : TI} {g : TG} {te : TE} {N : List Str} {names : List (Str × NameKind)} {N' : List Str} {k : Nat} {pull : List Nat}

theorem blk_start {pins : List (Addr × Obj)} {σ : St} {H1 : Hp} {s2 : Shared} {fp : List Addr} {cl : List (Str × Addr)} {h₁ : Heap} {tk : Nat} (B : BScope N names N' k pull sc) (hN : X.N = N) (hnm : X.env.scope.names = names)
    (I2 : Inv X pins σ H1 s2) (f2 : ∀ b ∈ fp, FpOk X pins H1 b) (ho : ∀ b ∈ fp, ∃ o, s2.heap.get? b = some o)
    (c1 : ∀ x c, cl.lookup x = some c → X.env.cells.lookup x = some c) (c3 : ∀ y ∈ sc.names, y.2 = .free → ∃ c, cl.lookup y.1 = some c)
    (hns : h₁.Ns (s2.heap.objs.size + 1) (fun x => ([] : List (Str × Value)).reverse.lookup x))
    (hk : ∀ b o, s2.heap.get? b = some o → h₁.get? b = some o) (hd : h₁.get? s2.heap.objs.size = some { cls := .type "list", data := .seq ([] : List Value).toArray }) :
    Inv (blk X sc cl (s2.heap.objs.size + 1) N' s2 H1 fp pins) [] (bst k pull σ) (upd H1 s2.heap.objs.size (.lst [])) { s2 with heap := h₁, toks := tk } := by
  have hfd : H1 s2.heap.objs.size = none := I2.hok.fresh (Nat.le_refl _)
  have hfC : (upd H1 s2.heap.objs.size (.lst [])) (s2.heap.objs.size + 1) = none := by
    rw [upd_ne (Nat.succ_ne_self _)]; exact I2.hok.fresh (Nat.le_succ _)
  have hlook : ∀ x, (compEnvC sc cl (s2.heap.objs.size + 1) X.env).kindOf x = some .cell ∨ (compEnvC sc cl (s2.heap.objs.size + 1) X.env).kindOf x = some .free → (x, NameKind.free) ∈ sc.names := fun x hx =>
    relabel_was (env := X.env) B.nocell hx
  have cellKind : ∀ y ∈ sc.names, y.2 = .free → X.env.kindOf y.1 = some .cell := fun y hy hf => by
    show X.env.scope.names.lookup y.1 = _
    rw [hnm]; exact B.fre y hy hf
  refine ⟨⟨I2.ok.mod, B.kind, I2.ok.glob, I2.ok.blt, Nat.le_succ _, fun x y c e1 e2 => I2.ok.inj x y c (c1 x c e1) (c1 y c e2), fun x hx => c3 _ (hlook x hx) rfl, (fun x c h _ => nomatch h), I2.ok.hd, I2.ok.frames, .inl rfl, fun b hb => ⟨?_, fun x c e => ?_⟩, I2.bs, Nat.le_trans I2.ok.bsz I2.sz, fun b o e hb => ?_, fun b hb hs => ?_, I2.stack, I2.stkFree⟩,
    rfl, I2.bare, Un.laid hk (Nat.le_refl _) hfd, ⟨_, hns, fun i x v e1 e2 e3 => ?_⟩, fun x c e => ?_, hfC, fun x c e => ?_, fun p hp => ?_, I2.hok.laid hk (Nat.le_refl _) ⟨Nat.zero_le _, [], 0, .nil, hd⟩, ?_⟩
  · obtain ⟨o, e⟩ := ho b hb
    exact Nat.ne_of_lt (Nat.lt_succ_of_lt (Heap.lt_size e))
  · exact (f2 b hb).2.2.2.2.1 x c (c1 x c e)
  · rcases (f2 b hb).2.2.2.1 with z | z
    · exact I2.ok.noex b o e z
    · exact absurd (Nat.lt_of_lt_of_le (Heap.lt_size e) (Nat.le_trans I2.ok.bsz z)) (Nat.lt_irrefl _)
  · rcases List.mem_cons.mp (I2.stkSub b hs) with z | z
    · exact (f2 b hb).2.1 z
    · exact (f2 b hb).2.2.1 z
  · -- a slot that is set is a caught name
    have e2 : (bst k pull σ)[i]? = some (some v) := e2
    unfold bst at e2
    by_cases hi : i < k
    · rw [List.getElem?_append_left (by simpa using hi), List.getElem?_replicate, if_pos hi] at e2
      cases e2
    · rw [List.getElem?_append_right (by simpa using hi), List.length_replicate, List.getElem?_map] at e2
      cases ej : pull[i - k]? with
      | none => rw [ej] at e2; cases e2
      | some j =>
        rw [ej] at e2
        have e2 : σ.getD j none = some v := Option.some.inj e2
        have hj : σ[j]? = some (some v) := by
          rw [List.getD_eq_getElem?_getD] at e2
          cases q : σ[j]? with
          | none => rw [q] at e2; cases e2
          | some z => rw [q] at e2; simpa using e2
        have hil : i - k < pull.length := (List.getElem?_eq_some_iff.mp ej).1
        obtain ⟨q1, q2⟩ := B.cap (i - k) (List.mem_range.mpr hil)
        have ei : k + (i - k) = i := by omega
        have ep : pull.getD (i - k) 0 = j := by rw [List.getD_eq_getElem?_getD, ej]; rfl
        have e1 : N'[i]? = some x := e1
        rw [ei, ep, e1] at q1
        rw [ei, e1] at q2
        have hf := q2 x (by simp)
        have hmem := PySem.mem_of_lookup hf
        have hc := cellKind (x, .free) hmem rfl
        obtain ⟨m, hn, hl⟩ := I2.loc
        obtain ⟨u, r, l⟩ := hl j x v (by rw [hN]; exact q1.symm) hj (.inr (.inl hc))
        refine ⟨u, r, .inr ⟨.inl (lookup_relabel_free I2.ok.kind hf hc), ?_⟩⟩
        rcases l with ⟨hloc, _⟩ | ⟨_, c, ec, hcell⟩
        · rw [hc] at hloc; cases hloc
        · obtain ⟨c', ec'⟩ := c3 (x, .free) hmem rfl
          have := c1 x c' ec'
          rw [ec] at this
          cases this
          obtain ⟨o, h1, h2⟩ := hcell
          exact ⟨c, ec', o, hk c o h1, h2⟩
  · obtain ⟨v, o, h1, h2⟩ := I2.cell x c (c1 x c e)
    exact ⟨v, o, hk c o h1, h2⟩
  · obtain ⟨v, o, h1, h2⟩ := I2.cell x c (c1 x c e)
    rw [upd_ne (Nat.ne_of_lt (Heap.lt_size h1))]
    exact I2.freeC x c (c1 x c e)
  · have hp : p ∈ X.pn ++ pins := by simpa [blk] using hp
    obtain ⟨a1, a2, a3, a4, a5⟩ := I2.pin p hp
    have hlt := Heap.lt_size a1
    refine ⟨hk _ _ a1, by rw [upd_ne (Nat.ne_of_lt hlt)]; exact a2, ?_, fun hs => ?_, a5⟩
    · exact Nat.ne_of_lt (Nat.lt_succ_of_lt hlt)
    · rcases List.mem_cons.mp (I2.stkSub p.1 hs) with z | z
      · exact a3 z
      · exact a4 z
  · show (bst k pull σ).length = N'.length
    unfold bst
    rw [List.length_append, List.length_replicate, List.length_map, B.len]

theorem pe_comp (hc : X.calm = true) (B : BScope N names N' k pull sc) (hN : X.N = N) (hnm : X.env.scope.names = names) (hi : PI X tg iter wi)
    (hg : ∀ cl C s₂ H₁ fp pins, PG (blk X sc cl C N' s₂ H₁ fp pins) tg g) (he : ∀ cl C s₂ H₁ fp pins, PE (blk X sc cl C N' s₂ H₁ fp pins) elt te)
    (hs : ∀ x, foldedSetIterable iter X.env x = pure x := by intro _; rfl) : PE X (.ListComp elt [⟨tg, iter, [], 0⟩] sc pos) (tComp wi k pull g te) := by
  intro pins s σ H Q I h
  rw [eval_ListComp]
  have hcells : ∀ y ∈ sc.names, y.2 = .free → ∃ c, X.env.cells.lookup y.1 = some c := fun y hy hf => I.ok.has y.1 (.inl (by
    show X.env.scope.names.lookup y.1 = _
    rw [hnm]; exact B.fre y hy hf))
  obtain ⟨cl, ecl, c1, _, c3⟩ := closureFor_is (env := X.env) sc.names [] hcells (fun x c e => nomatch e)
  rw [← closureFor_eq] at ecl
  refine wpAny_comprehension_free (use := none) rfl hs ecl B.kind B.loc (thn (hi pins s σ H _ I h) fun xv s1 h1 => thn h1 fun itv s2 h2 => ?_)
  obtain ⟨it, fp, tn, J, H1, e, I2, T, st2, f2, hW⟩ := h2
  subst e
  have ho : ∀ b ∈ fp, ∃ o, s2.heap.get? b = some o := fun b hb => let ⟨o, e, _⟩ := T.obj _ _ st2 b hb; ⟨o, e⟩
  refine wpAny_newObj_type (wpAny_newFunctionEnv B.nocell (by intro y hy; simp at hy) (fun h₁ hns₁ hsb₁ => ?_) B.kind)
  dsimp only at hns₁ hsb₁ ⊢
  rw [Heap.size_push] at hns₁ hsb₁ ⊢
  have old : ∀ b o, s2.heap.get? b = some o → h₁.get? b = some o := fun b o e => by
    have hlt := Heap.lt_size e
    exact (hsb₁.2 b (Nat.ne_of_lt (Nat.lt_succ_of_lt hlt))).trans (Heap.get?_push_of_some _ (Heap.get?_push_of_some _ e))
  have hd : h₁.get? s2.heap.objs.size = some { cls := .type "list", data := .seq ([] : List Value).toArray } :=
    (hsb₁.2 _ (Nat.ne_of_lt (Nat.lt_succ_self _))).trans (Heap.get?_push_of_some _ (Heap.get?_push_size _ rfl))
  have I4 := blk_start (tk := s2.toks + ([] : List (Str × Value)).length) B hN hnm I2 f2 ho c1 c3 hns₁ old hd
  have st4 : tn 0 h₁ := T.keep _ _ _ st2 fun b _ o e => old b o e
  obtain ⟨W, ⟨m0, w0⟩, turn⟩ := hW s2.heap.objs.size (I2.hok.fresh (Nat.le_refl _))
  have fr4 : ∀ b ∈ fp, (upd H1 s2.heap.objs.size (.lst [])) b = none := fun b hb => by
    obtain ⟨o, e⟩ := ho b hb
    rw [upd_ne (Nat.ne_of_lt (Heap.lt_size e))]
    exact (f2 b hb).1
  -- what stays true of the iterator's objects
  have stat : ∀ {H' : Hp}, (∀ b ∈ fp, H' b = none) → ∀ b ∈ fp, FpOk (blk X sc cl (s2.heap.objs.size + 1) N' s2 H1 fp pins) [] H' b := fun hn b hb => by
    refine ⟨hn b hb, (I4.ok.exf b hb).1, I4.ok.exfs b hb, .inl hb, (I4.ok.exf b hb).2, fun p hp => ?_⟩
    have hp : p ∈ X.pn ++ pins := by simpa [blk] using hp
    exact (f2 b hb).2.2.2.2.2 p hp
  have loop : ∀ s₃ : Shared, s₃ = { s2 with heap := h₁, toks := s2.toks + ([] : List (Str × Value)).length } →
      codeAny (model X.prog X.w) X.A (.compLoop (.ListComp elt [⟨tg, iter, [], 0⟩] sc pos) 0 (.ref it) (.ref s2.heap.objs.size) (compEnvC sc cl (s2.heap.objs.size + 1) X.env))
        (compPost (model X.prog X.w) X.A X.xe none (EP X pins σ Q) (.ref s2.heap.objs.size) (s2.heap.objs.size + 1)) s₃ := by
    rintro s₃ rfl
    refine comp_turn (fun n s' => ∃ i σ' H', Inv (blk X sc cl (s2.heap.objs.size + 1) N' s2 H1 fp pins) [] σ' H' s' ∧ tn i s'.heap ∧ (∀ b ∈ fp, H' b = none) ∧ W i n σ' H') ?_ m0 ⟨0, _, _, I4, st4, fr4, w0⟩
    rintro n s3 ⟨i, σ3, H3, I3, st3, fr3, w3⟩
    rcases turn i n σ3 H3 w3 with ⟨stop, q⟩ | ⟨go, step⟩
    · refine thn (T.done (blk X sc cl (s2.heap.objs.size + 1) N' s2 H1 fp pins) rfl rfl rfl hc i [] s3 σ3 H3 _ I3 (stat fr3) st3 stop) fun r s4 ⟨hr, I5⟩ => ?_
      subst hr
      obtain ⟨m, hn, _⟩ := id I5.loc
      refine ⟨m, hn, fun h' hs' => ?_⟩
      have ne : ∀ b o, s2.heap.get? b = some o → b ≠ s2.heap.objs.size + 1 := fun b o e => Nat.ne_of_lt (Nat.lt_succ_of_lt (Heap.lt_size e))
      have U : Un (frs X.stack) fp H1 H3 s2.heap s4.heap := I5.base
      have U' : Un (frs X.stack) fp H1 H3 s2.heap h' := ⟨fun b o e n hb hx => (hs'.2 b (ne b o e)).trans (U.keep b o e n hb hx), fun b o e n hb hx => by
          obtain ⟨sl, z⟩ := U.slot b o e n hb hx
          exact ⟨sl, (hs'.2 b (ne b o e)).trans z⟩, U.free, fun b o e hx => by
          obtain ⟨o', z⟩ := U.there b o e hx
          exact ⟨o', (hs'.2 b (ne b o e)).trans z⟩, U.tups, U.frzs, U.tbls⟩
      have hok : HOk X.prog X.w H3 h' := HOk.but (C := s2.heap.objs.size + 1) I5.hok I5.free fun b o hb e => (hs'.2 b hb).trans e
      refine ⟨.ref s2.heap.objs.size, H3, I2.call' (s' := { s4 with heap := h' }) I5.os U' hok I5.bare fun b hb => ?_, rfl, q⟩
      exact ⟨(f2 b hb).2.2.2.1, (f2 b hb).2.1, (f2 b hb).2.2.2.2.1, (f2 b hb).2.2.2.2.2⟩
    · refine thn (T.item (blk X sc cl (s2.heap.objs.size + 1) N' s2 H1 fp pins) rfl rfl rfl hc i [] s3 σ3 H3 _ I3 (stat fr3) st3 go) fun r s4 ⟨u, hr, h4⟩ => ?_
      subst hr
      refine thn h4 fun _ s5 ⟨x, H5, I5, r5, y5, st5, fr5⟩ => ?_
      have I5' := I5.pinned (stat fr5) (T.obj _ _ st5)
      refine wpAny_mono (hg _ _ _ _ _ _ _ s5 σ3 H5 x u _ I5' r5 (step x H5 y5)) (fun _ s6 ⟨σ6, H6, I6, q6⟩ => ?_) fun _ _ z => z.elim
      refine wpAny_mono (he _ _ _ _ _ _ _ s6 σ6 H6 _ I6 q6) (fun y s7 ⟨z, H7, I7, r7, xs, hx7, hz7, m', hm, w7⟩ => ?_) fun _ _ z => z.elim
      refine wpAny_mono (mt_append (X := blk X sc cl (s2.heap.objs.size + 1) N' s2 H1 fp pins) _ s7 σ6 H7 (.ref s2.heap.objs.size) [z] (.ref s2.heap.objs.size) [y] (fun _ H8 => H8 = upd H7 s2.heap.objs.size (.lst (xs ++ [z]))) I7 rfl (.cons r7 .nil) ⟨_, xs, z, rfl, rfl, hx7, hz7, rfl⟩) (fun _ s8 ⟨_, H8, I8, _, e8⟩ => ?_) fun _ _ z => z.elim
      subst e8
      refine ⟨m', hm, i + 1, σ6, _, I8.unpinned, T.keep _ _ _ st5 fun b hb o e => (I8.pin (b, o) (List.mem_append_right _ (List.mem_append_right _ (mem_pinsAt hb e)))).1, fun b hb => ?_, w7⟩
      obtain ⟨o, e, _⟩ := T.obj _ _ st5 b hb
      exact (I8.pin (b, o) (List.mem_append_right _ (List.mem_append_right _ (mem_pinsAt hb e)))).2.1
  exact codeAny_compStart_list (loop _ rfl) (T.self _ 0 _ _ _ st4 (loop _ rfl))
end
end L2
namespace L2
open PySem
open AutoSeq1 (wpAny_loadPart')
section
variable {prog : Program} {w : World} {A : Around} {E : Value → Shared → Prop} {s : Shared}
theorem nextOf_tuple_item {it l : Addr} {i : Nat} {items} {x : Value} {Q : Value → Shared → Prop} (hit : s.heap.IsTupleIter it l i)
    (hl : s.heap.IsTuple l items) (hx : items[i]? = some x)
    (hQ : ∀ h', h'.IsTupleIter it l (i + 1) → Heap.SameBut it s.heap h' → Q x { s with heap := h' }) :
    wpAny (model prog w) A (Builtin.SmallTypes.nextOf (.ref it)) Q E s := by
  obtain ⟨o, ho, hc, hd⟩ := id hit
  obtain ⟨ol, hol, _, nl, hdl⟩ := hl
  unfold Builtin.SmallTypes.nextOf
  refine wpAny_bind (wpAny_callSpecial?_slot (name := Str.ofString "__next__") hit.typeIs F.slot_tuple_iterator_next
    (wpAny_call_entry F.slot_tuple_iterator_next hit.typeIs F.entry_tuple_iterator_next ?_ (F.args_tuple_iterator_next_1 _)))
  show wpAny _ _ (field (.ref it) 0 >>= _) _ _ s
  refine wpAny_bind (wpAny_field ho hd (x := .ref l) rfl ?_)
  show wpAny _ _ (if (Value.ref l == Value.none) = true then _ else _) _ _ s
  rw [if_neg (show ¬ ((Value.ref l == Value.none) = true) from Bool.false_ne_true)]
  show wpAny _ _ (field (.ref it) 1 >>= _) _ _ s
  refine wpAny_bind (wpAny_field ho hd (x := .int i 0) rfl ?_)
  show wpAny _ _ (seqItems? (.ref l) >>= _) _ _ s
  refine wpAny_bind (wpAny_seqItems hol hdl ?_)
  simp only [Int.toNat_natCast, hx]
  refine wpAny_bind (wpAny_setField ho hd (by simp) (wpAny_pure ⟨x, rfl, wpAny_pure (hQ _ ?_ (Heap.SameBut.update ..))⟩))
  exact ⟨_, Heap.get?_update_self _ ho (Obj.isFreed_of_fields (Obj.data_mapFields hd _)), (Obj.cls_mapFields ..).trans hc, by
    rw [Obj.data_mapFields hd]; simp [rawInt]⟩
theorem nextOf_tuple_end {it l : Addr} {i : Nat} {items} {Q : Value → Shared → Prop} (hh : A.handled = none)
    (hit : s.heap.IsTupleIter it l i) (hl : s.heap.IsTuple l items) (hx : items[i]? = none)
    (hE : ∀ h' e, Heap.ExtBut it s.heap h' → (∃ o, h'.get? e = some o ∧ o.cls = .type "StopIteration") → E (.ref e) { s with heap := h' }) :
    wpAny (model prog w) A (Builtin.SmallTypes.nextOf (.ref it)) Q E s := by
  obtain ⟨o, ho, hc, hd⟩ := id hit
  obtain ⟨ol, hol, _, nl, hdl⟩ := hl
  unfold Builtin.SmallTypes.nextOf
  refine wpAny_bind (wpAny_callSpecial?_slot (name := Str.ofString "__next__") hit.typeIs F.slot_tuple_iterator_next
    (wpAny_call_entry F.slot_tuple_iterator_next hit.typeIs F.entry_tuple_iterator_next ?_ (F.args_tuple_iterator_next_1 _)))
  show wpAny _ _ (field (.ref it) 0 >>= _) _ _ s
  refine wpAny_bind (wpAny_field ho hd (x := .ref l) rfl ?_)
  show wpAny _ _ (if (Value.ref l == Value.none) = true then _ else _) _ _ s
  rw [if_neg (show ¬ ((Value.ref l == Value.none) = true) from Bool.false_ne_true)]
  show wpAny _ _ (field (.ref it) 1 >>= _) _ _ s
  refine wpAny_bind (wpAny_field ho hd (x := .int i 0) rfl ?_)
  show wpAny _ _ (seqItems? (.ref l) >>= _) _ _ s
  refine wpAny_bind (wpAny_seqItems hol hdl ?_)
  simp only [Int.toNat_natCast, hx]
  refine wpAny_bind (wpAny_rule (wpAny_bind (wpAny_setField ho hd (by simp) ?_)))
  show wpAny _ _ (newExc (.type "StopIteration") [] >>= _) _ _ _
  refine wpAny_bind ?_
  simp only [newExc, newTuple]
  refine wpAny_bind (wpAny_newObj_type ?_ (by size_fits))
  refine wpAny_bind (m := firstArgMember _ _) (wpAny_of_eq (a := Value.none) (by first | rfl | (simp only [firstArgMember]; rfl)) ?_)
  refine wpAny_newObj_type ?_ (by size_fits)
  simp only [raiseNew]
  refine wpAny_bind (wpAny_handled ?_)
  first | rw [show A.in1.handled = none from hh] | rw [hh]
  refine wpAny_bind (wpAny_pure (wpAny_throw ?_))
  exact hE _ _ (((Heap.SameBut.update ..).extBut.push _).push _) ⟨_, Heap.get?_push_size _ rfl, rfl⟩
end
theorem Draws_tuple {prog : Program} {w : World} {A : Around} (hh : A.handled = none) (it l : Addr) (hne : l ≠ it) (items : Array Value) :
    Draws prog w A it [it, l] items.size (fun i v => items[i]? = some v) (fun i h => h.IsTupleIter it l i ∧ h.IsTuple l items) where
  live := fun _ _ st => let ⟨⟨o, ho, _⟩, _⟩ := st; ⟨o, ho⟩
  frame := fun _ _ _ st hk => ⟨let ⟨o, ho, r⟩ := st.1; ⟨o, hk it (by simp) o ho, r⟩, let ⟨o, ho, r⟩ := st.2; ⟨o, hk l (by simp) o ho, r⟩⟩
  item := fun i s Q E hi st hQ => by
    refine nextOf_tuple_item st.1 st.2 (x := items[i]) (by simp [hi]) fun h' hit' hs' => ?_
    exact hQ _ h' s.toks (by simp [hi]) ⟨hit', let ⟨o, ho, r⟩ := st.2; ⟨o, (hs'.2 l hne).trans ho, r⟩⟩ hs'
  done := fun s Q E st hE => nextOf_tuple_end hh st.1 st.2 (by simp) hE

theorem meets_enumerate_newT (l : Addr) (items : Array Value) (o : Obj) (hc : o.cls = .type "tuple") (n : Nat) (hd : o.data = .seq items n) :
    Meets (Builtin.«enumerate.__new__» ⟨[.type "enumerate", .ref l], []⟩) (fun _ R s => s.heap.get? l = some o ∧
      R (.ok (.ret (.ref (s.heap.push { cls := .type "tuple_iterator", data := .fields #[.ref l, .int 0 0] }).objs.size)))
        { s with heap := (s.heap.push { cls := .type "tuple_iterator", data := .fields #[.ref l, .int 0 0] }).push { cls := .type "enumerate", data := .fields #[.none, .bool false, .ref s.heap.objs.size, rawInt 0, .none, .none] } }) :=
  .of_wp fun prog w A R s h => by
    obtain ⟨hp, g, d, tk, os⟩ := s; obtain ⟨hl, h⟩ := h
    have hsub := sub_enumerate
    have hL : Heap.IsTuple (Shared.heap ⟨hp, g, d, tk, os⟩) l items := ⟨_, hl, hc, n, hd⟩
    wp_walk using wpAny_loadPart' hl
    refine wpAny_stack_any fun st => wpAny_pure ?_
    split
    · rename_i c _ _ _ _ _
      cases (c == Value.type "enumerate")
      · wp_walk using wpAny_loadPart' hl, wpAny_pyIter_tuple hL
        exact ⟨_, rfl, h⟩
      · wp_walk using wpAny_loadPart' hl, wpAny_pyIter_tuple hL
        exact ⟨_, rfl, h⟩
    · wp_walk using wpAny_loadPart' hl, wpAny_pyIter_tuple hL
      exact ⟨_, rfl, h⟩
theorem call_enumerate_tuple {prog : Program} {w : World} {A : Around} {E : Value → Shared → Prop} {s : Shared} {l : Addr} {items : Array Value} {Q : Value → Shared → Prop} (hL : s.heap.IsTuple l items)
    (h : ∀ h', IsEnum h' (s.heap.objs.size + 1) s.heap.objs.size 0 .none → h'.IsTupleIter s.heap.objs.size l 0 → h'.objs.size = s.heap.objs.size + 2 →
      (∀ b o, s.heap.get? b = some o → h'.get? b = some o) → Q (.ref (s.heap.objs.size + 1)) { s with heap := h' }) :
    wpAny (model prog w) A (call (.type "enumerate") [.ref l]) Q E s := by
  obtain ⟨o, hl, hc, n, hd⟩ := hL
  refine callType_new F.called_enumerate (by decide) (F.typeCall_enumerate_1 _) (F.newCall_enumerate_1 _) (fun obj => F.args_object_init_2 obj _) F.entry_enumerate_new
    (meets_enumerate_newT l items o hc n hd) ⟨hl, ?_⟩
  have hz : (s.heap.push { cls := .type "tuple_iterator", data := .fields #[.ref l, .int 0 0] }).objs.size = s.heap.objs.size + 1 := Heap.size_push ..
  show _ ∧ _
  rw [hz]
  have he : IsEnum ((s.heap.push { cls := .type "tuple_iterator", data := .fields #[.ref l, .int 0 0] }).push
      { cls := .type "enumerate", data := .fields #[.none, .bool false, .ref s.heap.objs.size, rawInt 0, .none, .none] }) (s.heap.objs.size + 1) s.heap.objs.size 0 .none := by
    have := Heap.get?_push_size (s.heap.push { cls := .type "tuple_iterator", data := .fields #[.ref l, .int 0 0] })
      (o := { cls := .type "enumerate", data := .fields #[.none, .bool false, .ref s.heap.objs.size, rawInt 0, .none, .none] }) rfl
    rw [hz] at this; exact this
  refine ⟨⟨_, he, rfl⟩, h _ he ⟨_, Heap.get?_push_of_some _ (Heap.get?_push_size _ rfl), rfl, rfl⟩ (by rw [Heap.size_push, hz]) fun b o x => Heap.get?_push_of_some _ (Heap.get?_push_of_some _ x)⟩
end L2
namespace L2
open PySem PySem.Spec PyProof.Rows

section
variable {X : Cx}
theorem call_isinst : CallR X (.builtin "isinstance") (fun xs H Q => ∃ x c t b, xs = [x, .ty c] ∧ TyOf X.K H x t ∧ PySem.W.kitOne X.K t (.type c) = some b ∧ Q (.bl b) H) := by
  intro pins s σ H xs us Q I r h
  obtain ⟨x, c, t, b, rfl, ty, e, q⟩ := h
  obtain ⟨u, w', rfl, ru, rc⟩ := vals2 r
  obtain rfl : w' = Value.type c := rc
  exact isinst_ok I ru ty e fun tk => ⟨.bl b, H, I.tok _, rfl, q⟩
end
theorem kit_int_int (K : PySem.W.Frag) : PySem.W.kitOne K (.type "int") (.type "int") = some true := by kernel_rfl
theorem kit_int_bool (K : PySem.W.Frag) : PySem.W.kitOne K (.type "int") (.type "bool") = some false := by kernel_rfl
section
variable {X : Cx} {pins : List (Addr × Obj)} {σ : St} {H : Hp} {s : Shared}
end
/-- rows of squares as values, as data -/
def nv (xs : List Nat) : List V := xs.map fun (n : Nat) => V.int (n : Int)
theorem nv_len (xs : List Nat) : (nv xs).length = xs.length := by simp [nv]
theorem nv_get {xs : List Nat} {i : Nat} {x : Nat} (h : xs[i]? = some x) : (nv xs)[i]? = some (.int (x : Int)) := by simp [nv, h]
theorem nv_get' {xs : List Nat} {i : Nat} {v : V} (h : (nv xs)[i]? = some v) : ∃ x, xs[i]? = some x ∧ v = .int (x : Int) := by
  rw [nv, List.getElem?_map] at h
  cases e : xs[i]? with
  | none => rw [e] at h; cases h
  | some x => rw [e] at h; exact ⟨x, rfl, (Option.some.inj h).symm⟩
theorem nv_snoc (xs : List Nat) (x : Nat) : nv xs ++ [.int (x : Int)] = nv (xs ++ [x]) := by simp [nv]
/-- the sheet at a: a tuple of two tuples -/
def ShAt (H : Hp) (a : Addr) (r u : List Nat) : Prop := ∃ p q, H a = some (.tup [.ref p, .ref q]) ∧ H p = some (.tup (nv r)) ∧ H q = some (.tup (nv u))
theorem ShAt.same {H H' : Hp} {a : Addr} {r u : List Nat} (e : Same H H') (h : ShAt H a r u) : ShAt H' a r u := by
  obtain ⟨p, q, h1, h2, h3⟩ := h
  exact ⟨p, q, e _ _ h1, e _ _ h2, e _ _ h3⟩
end L2
namespace L2
open PySem PySem.Spec PyProof.Rows
section
variable {prog : Program} {w : World} {A : Around} {E : Value → Shared → Prop} {s : Shared}
end
end L2
namespace L2
open PySem PySem.Spec PyProof.Rows
section
variable {prog : Program} {w : World} {A : Around} {E : Value → Shared → Prop} {s : Shared}
theorem collect_tup {l : Addr} {vs : List Value} {Q : List Value → Shared → Prop} (hl : s.heap.IsTuple l vs.toArray) (hz : vs.length ≤ sizeLine)
    (h : ∀ h', (∀ b o, s.heap.get? b = some o → h'.get? b = some o) → Q vs { s with heap := h' }) : wpAny (model prog w) A (collect (.ref l)) Q E s := by
  obtain ⟨o, ho, hc, n, hd⟩ := hl
  unfold collect
  refine wpAny_bind (wpAny_runValue (codeAny_builtin entry_proto_collect' ?_))
  show wpAny _ _ (do again (.builtin "list.__iadd__" ⟨[← newList [], .ref l], []⟩)) _ _ s
  refine wpAny_bind (wpAny_newList (wpAny_pure ⟨Code.quiet_builtin _ (by decide +kernel), codeAny_builtin entry_list_iadd' ?_⟩))
  have ho' : (s.heap.push (seqObj "list" #[] 0)).get? l = some o := Heap.get?_push_of_some _ ho
  show wpAny _ _ (Builtin.List.listExtendWith (.ref s.heap.objs.size) (.ref l) (.ref s.heap.objs.size)) _ _ { s with heap := s.heap.push (seqObj "list" #[] 0) }
  unfold Builtin.List.listExtendWith
  refine wpAny_bind (wpAny_typeOf (T := "tuple") ⟨o, ho', hc⟩ ?_)
  rw [if_pos (show (Builtin.List.listSameRef (.ref s.heap.objs.size) (.ref l) || Value.type "tuple" == Value.type "list" || Value.type "tuple" == Value.type "tuple") = true by
    rw [show (Value.type "tuple" == Value.type "tuple") = true from rfl, Bool.or_true])]
  refine wpAny_bind (listItems_at ho' hd (wpAny_bind (listItems_at (xs := #[]) (n := 0) (Heap.get?_push_size _ rfl) rfl ?_)))
  rw [if_neg (by simp)]
  refine wpAny_bind (listUpdate_at (xs := #[]) (n := 0) (Heap.get?_push_size _ rfl) rfl ?_ (Nat.zero_le _) (by show (#[] ++ vs.toArray).size ≤ sizeLine + 1; simp; omega))
  refine wpAny_pure ?_
  refine wpAny_bind (wpAny_load (get?_update_seq (Heap.get?_push_size _ rfl) _) ?_)
  show wpAny _ _ (pure ((#[] : Array Value) ++ vs.toArray).toList) Q E _
  rw [show ((#[] : Array Value) ++ vs.toArray).toList = vs by simp]
  exact wpAny_pure (h _ fun b o e => (Heap.get?_update_other _ _ (Nat.ne_of_gt (Heap.lt_size e))).trans (Heap.get?_push_of_some _ e))
/-- sorted(x), by what collect tells of x -/
theorem sorted_by {x : Value} {vs : List Value} {ns : List Int} {Q : Value → Shared → Prop} (hI : IntsAre vs ns) (h64 : vs.length < 64)
    (hcol : ∀ (A : Around) (R : List Value → Shared → Prop), A.handled = none → (∀ vs ns' h' tk, IntsAre vs ns' → ns' = ns → (∀ b o, s.heap.get? b = some o → h'.get? b = some o) → R vs { s with heap := h', toks := tk }) → wpAny (model prog w) A (collect x) R E s)
    (hh : A.handled = none)
    (h : ∀ (h1 h2 : Heap) (tk e : Nat) (out : Array Value) (ns' : List Int), IntsAre out.toList ns' → ns'.Perm ns → ns'.Pairwise (· ≤ ·) → (∀ b o, s.heap.get? b = some o → h1.get? b = some o) → h2.get? h1.objs.size = some (seqObj "list" out e) →
      (∀ b o, h1.get? b = some o → h2.get? b = some o) → Q (.ref h1.objs.size) { s with heap := h2, toks := tk }) :
    wpAny (model prog w) A (call (.builtin "sorted") [x]) Q E s := by
  refine Calls.call_function_entry kind_sorted plain_sorted entry_sorted (args_sorted1 _) ?_
  unfold Builtin.«sorted»
  refine wpAny_bind (m := checkCount "sorted" 1 1 _) (wpAny_pure ?_)
  refine wpAny_bind (hcol _ _ (by simp [hh]) fun vs ms h' tk hI' e hk => ?_)
  subst e
  have hl : vs.length < 64 := by rw [hI'.length, ← hI.length]; exact h64
  refine wpAny_bind (wpAny_newList ?_)
  refine wpAny_bind (wpAny_holding (wpAny_call_entry slot_list_sort ⟨_, Heap.get?_push_size _ rfl, rfl⟩ entry_list_sort (list_sort_tree (Heap.get?_push_size _ rfl) hI' hl fun out ns' a1 a2 a3 => ⟨_, rfl, ?_⟩) (args_list_sort _)))
  obtain ⟨e, he⟩ := sortedHeap_at (out := out) (n := 0) (show (h'.push (seqObj "list" vs.toArray 0)).get? h'.objs.size = some (seqObj "list" vs.toArray 0) from Heap.get?_push_size _ rfl)
  have old : ∀ b o, h'.get? b = some o → (sortedHeap (h'.push (seqObj "list" vs.toArray 0)) h'.objs.size vs out).get? b = some o := fun b o q1 => by
    have q2 := Heap.lt_size q1
    rw [sortedHeap_old (Nat.ne_of_lt q2) (by rw [Heap.size_push]; exact Nat.lt_succ_of_lt q2)]
    exact Heap.get?_push_of_some _ q1
  exact wpAny_pure ⟨_, rfl, h _ _ _ _ out ns' a1 a2 a3 hk he old⟩
end
end L2
namespace L2
open PySem PySem.Spec PyProof.Rows
section
variable {prog : Program} {w : World} {A : Around} {E : Value → Shared → Prop} {s : Shared}
end
end L2
namespace L2
open PySem PySem.Spec PyProof.Rows

section
variable {X : Cx} {pins : List (Addr × Obj)} {σ : St} {H : Hp} {s : Shared}
/-- records of ours at fp have turned, a new object T is laid and tracked -/
theorem Inv.turnLaid {fp : List Addr} {T : Addr} {o : HO} {h' : Heap} {t' : Nat} (I : Inv X pins σ H s) (hf : ∀ b ∈ fp, FpOk X pins H b) (hT : s.heap.objs.size ≤ T)
    (k : ∀ b ob, b ∉ fp → s.heap.get? b = some ob → h'.get? b = some ob) (new : ObjOk X.prog X.w (upd H T o) h' T o) : Inv X pins σ (upd H T o) { s with heap := h', toks := t' } := by
  have hn : H T = none := I.hok.fresh hT
  have neT : ∀ b ob, s.heap.get? b = some ob → b ≠ T := fun b ob e => Nat.ne_of_lt (Nat.lt_of_lt_of_le (Heap.lt_size e) hT)
  have nfp : ∀ b u, H b = some u → b ∉ fp := fun b u e hb => by rw [(hf b hb).1] at e; cases e
  refine I.step (g' := s.gens) (d' := s.drawn) (ch := fp) (fun b hb => ⟨(hf b hb).2.2.2.1, (hf b hb).2.1, (hf b hb).2.2.2.2.1, (hf b hb).2.2.2.2.2⟩) (fun b ob _ _ hc e _ => k b ob hc e) (fun b ob _ _ hc e _ => ⟨ob.slots, k b ob hc e⟩)
    (fun b ob _ e n => by rw [upd_ne (neT b ob e)]; exact n) (fun b ob hc e => ⟨ob, k b ob hc e⟩) (fun b xs e => by rw [upd_ne (ne_of_none e hn)]; exact e) (fun b ob u e => by rw [upd_ne (ne_of_none e hn)]; exact e)
    (fun b ps e => ⟨#[], by rw [upd_ne (ne_of_none e hn), e]; simp⟩) (fun m hm => ?_) (fun b u e => ?_) I.bare
  · obtain ⟨ob, es, ep, ho, r⟩ := hm
    exact ⟨ob, es, ep, k _ ob (fun hb => (hf _ hb).2.1 rfl) ho, r⟩
  · by_cases hb : b = T
    · subst hb; rw [upd_same] at e; cases e; exact new
    · rw [upd_ne hb] at e
      refine (I.hok b u e).stay (fun c v hc q => k c v ?_ q) (fun c q => by rw [upd_ne (ne_of_none q hn)]; exact q) fun c xs q => by rw [upd_ne (ne_of_none q hn)]; exact q
      rcases hc with z | z
      · rw [z]; exact nfp b u e
      · exact nfp c _ z
/-- records of ours at fp have turned -/
theorem Inv.turnedL {fp : List Addr} {h' : Heap} {t' : Nat} (I : Inv X pins σ H s) (hf : ∀ b ∈ fp, FpOk X pins H b) (k : ∀ b ob, b ∉ fp → s.heap.get? b = some ob → h'.get? b = some ob) : Inv X pins σ H { s with heap := h', toks := t' } := by
  have nfp : ∀ b u, H b = some u → b ∉ fp := fun b u e hb => by rw [(hf b hb).1] at e; cases e
  refine I.step (g' := s.gens) (d' := s.drawn) (ch := fp) (fun b hb => ⟨(hf b hb).2.2.2.1, (hf b hb).2.1, (hf b hb).2.2.2.2.1, (hf b hb).2.2.2.2.2⟩) (fun b ob _ _ hc e _ => k b ob hc e) (fun b ob _ _ hc e _ => ⟨ob.slots, k b ob hc e⟩)
    (fun _ _ _ _ n => n) (fun b ob hc e => ⟨ob, k b ob hc e⟩) (fun _ _ e => e) (fun _ _ _ e => e) (fun b ps e => ⟨#[], by rw [e]; simp⟩) (fun m hm => ?_) (fun b u e => ?_) I.bare
  · obtain ⟨ob, es, ep, ho, r⟩ := hm
    exact ⟨ob, es, ep, k _ ob (fun hb => (hf _ hb).2.1 rfl) ho, r⟩
  · refine (I.hok b u e).stay (fun c v hc q => k c v ?_ q) (fun _ q => q) fun _ _ q => q
    rcases hc with z | z
    · rw [z]; exact nfp b u e
    · exact nfp c _ z
end

/-- enumerate's own pair: a tuple, nothing said of a dict -/
def tupE (T : Addr) (xs : List V) : HO := .ext fun h => xs.length ≤ sizeLine ∧ ∃ its : List Value, Vals xs its ∧ IsTup h T its.toArray
theorem tupE_ok {P : Program} {w : World} {H : Hp} {h : Heap} {T : Addr} {xs : List V} (q : xs.length ≤ sizeLine ∧ ∃ its : List Value, Vals xs its ∧ IsTup h T its.toArray) : ObjOk P w H h T (tupE T xs) := by
  obtain ⟨z, its, r, o, e, c⟩ := id q
  exact ⟨q, ⟨o, e⟩, fun h1 h2 ⟨z', its', r', o', e', c'⟩ k => ⟨z', its', r', o', k _ e', c'⟩⟩
def gTupE (n : Nat) (t : TGs) : TG := fun v σ H Q => ∃ a xs, v = .ref a ∧ H a = some (tupE a xs) ∧ xs.length = n ∧ t xs σ H Q
theorem pg_tupE {es : List Expr} {k : Nat} {t : TGs} {n : Nat} {pos : Pos} (hc : X.calm = true) (h : PGs X es t)
    (hn : (assignEach es X.env).length = n := by rfl) (hst : (assignEach es X.env).findIdx? (·.1) = none := by rfl) : PG X (.Tuple es k pos) (gTupE n t) := by
  intro pins s σ H v u Q I r hw
  obtain ⟨a, xs, e1, hq, hl, hw⟩ := hw
  subst e1
  cases r
  obtain ⟨⟨hz, its, rv, ht⟩, _⟩ := I.hok a _ hq
  refine assign_Tuple_tuple (I.ok.hd hc) ht (by simp [hn, ← hl, rv.length]) hst fun h' hx => ?_
  have I1 : Inv X pins σ H { s with heap := h' } := I.kept (t' := s.toks) fun b o e => hx b o (Nat.ne_of_lt (Heap.lt_size e)) e
  exact h pins _ σ H xs _ Q I1 (by simpa using rv) hw
def Iten (sq : Hp → List V → Prop) : It :=
  ⟨fun i H => ∃ xs x, sq H xs ∧ xs[i]? = some x, fun i H x H' => ∃ T y, H T = none ∧ x = .ref T ∧ (∀ xs, sq H xs → xs[i]? = some y) ∧ H' = upd H T (tupE T [.int (i : Int), y]), fun i H => ∃ xs, sq H xs ∧ xs.length = i⟩

theorem ne_cls {h : Heap} {a b : Addr} {o u : Obj} (h1 : h.get? a = some o) (h2 : h.get? b = some u) (d : o.cls ≠ u.cls) : a ≠ b := by
  intro e; subst e; rw [h1] at h2; cases h2; exact d rfl

theorem turn_enum {P : Program} {w : World} {K : PySem.W.Frag} {elts : List Expr} {k : Nat} {pos : Pos} (sq : Hp → List V → Prop) (isq : Heap → Array Value → Prop) (isit : Nat → Heap → Prop) (e it : Addr)
    (obj : ∀ i h, isit i h → ∃ o, h.get? it = some o ∧ ∀ v, o.data ≠ .cell v) (keep : ∀ i h h', isit i h → (∀ o, h.get? it = some o → h'.get? it = some o) → isit i h')
    (rd : ∀ (X : Cx) (pins : List (Addr × Obj)) (σ : St) (H : Hp) (s : Shared) (xs : List V), X.K = K → Inv X pins σ H s → sq H xs → (∃ its : List Value, Vals xs its ∧ isq s.heap its.toArray) ∧ ∀ ys, sq H ys → ys = xs)
    (W : ∀ (A : Around) (items : Array Value) (h : Heap) (i : Nat), A.handled = none → isq h items → isit i h → (∃ old, IsEnum h e it i old) → ∃ fp Mid, WalksT P w A e fp [e, it] items.size (fun i vals => ∃ t x, items[i]? = some x ∧ vals = #[.int (i : Int) t, x])
      (fun i h => (∃ old, IsEnum h e it i old) ∧ isit i h ∧ isq h items) Mid) :
    Turn P w K (.Tuple elts k pos) (Iten sq) [e, it] e (fun i h => (∃ old, IsEnum h e it i old) ∧ isit i h) where
  mem := by simp
  obj := fun i h st b hb => by
    obtain ⟨⟨old, he⟩, q⟩ := st
    rcases List.mem_cons.mp hb with rfl | hb
    · exact ⟨_, he, fun v z => nomatch z⟩
    · rw [List.mem_singleton.mp hb]; exact obj i h q
  keep := fun i h h' st kp => ⟨let ⟨old, he⟩ := st.1; ⟨old, kp e (by simp) _ he⟩, keep i h h' st.2 fun o q => kp it (by simp) o q⟩
  item := by
    intro X hP hw hK hc i pins s σ H E I hf st hg
    subst hP hw
    obtain ⟨xs, x, hq, hx⟩ := hg
    obtain ⟨⟨its, rv, hL⟩, inj⟩ := rd X pins σ H s xs hK I hq
    obtain ⟨old, he⟩ := id st.1
    obtain ⟨oi, hoi, _⟩ := obj _ _ st.2
    have hlt : i < its.toArray.size := by
      have := (List.getElem?_eq_some_iff.mp hx).1
      rw [rv.length] at this; simpa using this
    obtain ⟨fp, Mid, W⟩ := W X.A its.toArray s.heap i (I.ok.hd hc) hL st.2 st.1
    refine W.item i s _ E hlt ⟨st.1, st.2, hL⟩ fun T vals h' tk hPt hT htup hMid hk => ⟨.ref T, rfl, ?_⟩
    refine W.go elts k pos i T _ _ E hMid fun h'' hSt hk2 => ?_
    obtain ⟨t, y', hy', rfl⟩ := hPt
    obtain ⟨u, hu, ry⟩ := rv.get hx
    have e1 : y' = u := by
      have : its[i]? = some y' := by simpa using hy'
      rw [hu] at this; exact (Option.some.inj this).symm
    subst e1
    have htup2 : IsTup h'' T #[.int (i : Int) t, y'] := by
      obtain ⟨o, q1, q2⟩ := htup
      exact ⟨o, hk2 T o (W.apart _ _ _ hMid) q1, q2⟩
    refine ⟨.ref T, upd H T (tupE T [.int (i : Int), x]), ?_, rfl, ⟨T, x, I.hok.fresh hT, rfl, fun zs hzs => by rw [inj zs hzs]; exact hx, rfl⟩, ⟨hSt.1, hSt.2.1⟩, fun b hb => ?_⟩
    · exact I.turnLaid (s := s) (h' := h'') (t' := tk) hf hT (fun b ob hb q => hk2 b ob hb (hk b ob hb q)) (tupE_ok ⟨by show 2 ≤ sizeLine; decide, [.int (i : Int) t, y'], .cons ⟨t, rfl⟩ (.cons ry .nil), htup2⟩)
    · have hbT : b ≠ T := fun z => by
        have : b < s.heap.objs.size := by
          rcases List.mem_cons.mp hb with rfl | hb
          · exact Heap.lt_size he
          · rw [List.mem_singleton.mp hb]; exact Heap.lt_size hoi
        exact absurd (Nat.lt_of_lt_of_le this hT) (by rw [z]; exact Nat.lt_irrefl _)
      rw [upd_ne hbT]; exact (hf b hb).1
  done := by
    intro X hP hw hK hc i pins s σ H E I hf st hs
    subst hP hw
    obtain ⟨xs, hq, hle⟩ := hs
    obtain ⟨⟨its, rv, hL⟩, inj⟩ := rd X pins σ H s xs hK I hq
    obtain ⟨fp, Mid, W⟩ := W X.A its.toArray s.heap i (I.ok.hd hc) hL st.2 st.1
    have hi : i = its.toArray.size := by rw [← hle, rv.length]; simp
    refine W.done s _ E (by rw [← hi]; exact ⟨st.1, st.2, hL⟩) fun h' tk hk => ⟨rfl, ?_⟩
    exact I.turnedL hf hk
  self := fun A i s Q E st h => by obtain ⟨⟨old, he⟩, _⟩ := st; exact wpAny_pyIter_enum he h

section
variable {X : Cx} {elts : List Expr} {k : Nat} {tpos : Pos}
def iEnumT (K : PySem.W.Frag) (ta : TA) : TI := fun σ H R => ta σ H fun vs H1 => ∃ a, vs = [.ref a] ∧ (∃ xs, SqT K H1 a xs) ∧ R (Iten fun H xs => SqT K H a xs) H1
theorem boot_enum : bootBuiltins "enumerate" = some (.type "enumerate") := by decide +kernel
theorem pi_enumT {l : Expr} {ta : TA} {p pos : Pos} (hg : Gl X "enumerate") (hm : X.mg "enumerate" = none) (ha : PA X [l] ta) (hs : starEach [l] X.env = [(false, eval l X.env)] := by rfl) :
    PI X (.Tuple elts k tpos) (.Call (.Name "enumerate" p) [l] [] pos) (iEnumT X.K ta) := by
  intro pins s σ H R I h
  refine Call_ (ld_blt I hg hm boot_enum (PyProof.Rows.callWith_type1 (thn (ha pos pins s σ H _ I h) fun us s1 ⟨vs, H1, I1, r1, q1⟩ => ?_) hs rfl))
  obtain ⟨a, rfl, ⟨xs, hq⟩, q⟩ := q1
  obtain ⟨u, rfl, ru⟩ := vals1 r1
  obtain rfl : u = Value.ref a := ru
  obtain ⟨its, rv, p, hz⟩ := I1.tuple hq
  refine call_enumerate_tuple (show s1.heap.IsTuple a its.toArray from p) fun h' he hit hsz hk => ?_
  refine wpAny_pyIter_enum he ?_
  have I2 : Inv X pins σ H1 { s1 with heap := h' } := I1.kept (t' := s1.toks) hk
  refine ⟨s1.heap.objs.size + 1, [s1.heap.objs.size + 1, s1.heap.objs.size], _, _, H1, rfl, I2, turn_enum (fun H xs => SqT X.K H a xs) (fun h its => h.IsTuple a its) (fun i h => h.IsTupleIter s1.heap.objs.size a i) (s1.heap.objs.size + 1) s1.heap.objs.size ?_ ?_ ?_ ?_, ⟨⟨_, he⟩, hit⟩, fun b hb => ?_, q⟩
  · rintro i h ⟨o, q1, q2, q3⟩
    exact ⟨o, q1, fun v z => by rw [q3] at z; cases z⟩
  · rintro i h h' ⟨o, q1, q2⟩ kp
    exact ⟨o, kp o q1, q2⟩
  · intro X' pins' σ' H' s' ys hK I' hq'
    rw [← hK] at hq'
    obtain ⟨its', rv', p', _⟩ := I'.tuple hq'
    exact ⟨⟨its', rv', p'⟩, fun zs hz => I'.tuple_inj (by rw [hK]; exact hz) hq'⟩
  · intro A items h i hh hL hI hE
    obtain ⟨old, hE⟩ := hE
    obtain ⟨ol, hol, hcl, _⟩ := id hL
    obtain ⟨oi, hoi, hci, _⟩ := id hI
    have hne : a ≠ s1.heap.objs.size := ne_cls hol hoi (by rw [hcl, hci]; decide)
    have hne2 : a ≠ s1.heap.objs.size + 1 := ne_cls hol hE (by rw [hcl]; show Value.type "tuple" ≠ Value.type "enumerate"; decide)
    exact ⟨_, _, WalksT.enumerateD (Draws_tuple (A := A.in1) hh s1.heap.objs.size a hne items) (s1.heap.objs.size + 1) (Nat.succ_ne_self _) (fun hm => (List.mem_cons.mp hm).elim (Nat.succ_ne_self _) fun hm => hne2 (List.mem_singleton.mp hm).symm) (by simp)⟩
  · rcases List.mem_cons.mp hb with rfl | hb
    · exact I1.fpOk (Nat.le_succ _) (I1.hok.fresh (Nat.le_succ _))
    · rw [List.mem_singleton.mp hb]; exact I1.fpOk (Nat.le_refl _) (I1.hok.fresh (Nat.le_refl _))
end
end L2
namespace L2
open PySem PySem.Spec PyProof.Rows

theorem rel_of_kind {P : Program} {w : World} {k : Key} {u : Value} (h : (mixKind P w).is k u = true) : RelV (kV k) u := by
  rcases keyIs_shape (show keyIs k u = true from h) with ⟨i, t, rfl, rfl⟩ | ⟨x, t, rfl, rfl⟩
  · exact ⟨t, rfl⟩
  · exact ⟨t, rfl⟩
section
variable {X : Cx} {elts : List Expr} {k : Nat} {tpos : Pos}
end

section
variable {X : Cx}
theorem call_range1 : CallR X (.type "range") (fun xs H Q => ∃ j : Int, xs = [.int j] ∧ ∀ r, H r = none → Q (.ref r) (upd H r (.rng 0 j))) := by
  intro pins s σ H xs us Q I r h
  obtain ⟨j, rfl, q⟩ := h
  obtain ⟨u, rfl, t, rfl⟩ := vals1 r
  refine call_range_1 ⟨.ref s.heap.objs.size, _, I.laid (a := s.heap.objs.size) (o := .rng 0 j) (fun _ _ e => Heap.get?_push_of_some _ e) (Nat.le_refl _) ⟨_, _, _, Heap.get?_push_size _ rfl⟩, rfl, q _ (I.hok.fresh (Nat.le_refl _))⟩
theorem call_list_rng (hc : X.calm = true) : CallR X (.type "list") (fun xs H Q => ∃ (r : Addr) (n : Nat), xs = [.ref r] ∧ H r = some (.rng 0 (n : Int)) ∧ n ≤ 1000 ∧ ∀ l, H l = none → Q (.ref l) (upd H l (.lst (nv (List.range n))))) := by
  intro pins s σ H xs us Q I r h
  obtain ⟨a, n, rfl, ha, hn, q⟩ := h
  obtain ⟨u, rfl, ru⟩ := vals1 r
  obtain rfl : u = Value.ref a := ru
  obtain ⟨t, u', v', e⟩ := (show ObjOk X.prog X.w H s.heap a (.rng 0 (n : Int)) from I.hok a _ ha)
  refine call_list_range (n := n) (I.ok.hd hc) (show IsRange s.heap a 0 (n : Int) 1 t u' v' from e) (small_one (by decide) (by decide) (by omega) (by omega)) (by rw [rangeSize_one]; split <;> omega) (by omega) fun h' tk acc c hk hacc hI => ?_
  refine ⟨.ref s.heap.objs.size, _, I.laid (a := s.heap.objs.size) (o := .lst (nv (List.range n))) (h' := h') (t' := tk) hk (Nat.le_refl _) ⟨?_, acc.toList, c, ?_, by simpa using hacc⟩, rfl, q _ (I.hok.fresh (Nat.le_refl _))⟩
  · rw [nv_len, List.length_range]; exact Nat.le_of_lt (small1000 hn)
  · obtain ⟨hsz, hi⟩ := hI
    have key : ∀ (m : Nat) (l : List Value), l.length = m → (∀ (j : Nat) (v : Value), l[j]? = some v → ∃ t, v = Value.int ((0 : Int) + (j : Nat) * 1) t) → Vals (nv (List.range m)) l := by
      intro m
      induction m with
      | zero => intro l hl _; rw [List.length_eq_zero_iff.mp hl]; exact .nil
      | succ m ih =>
        intro l hl hv
        have hne : l ≠ [] := by intro e; rw [e] at hl; simp at hl
        rw [← List.dropLast_concat_getLast hne, List.range_succ]
        have e1 : nv (List.range m ++ [m]) = nv (List.range m) ++ nv [m] := by simp [nv]
        rw [e1]
        refine Vals.append (ih l.dropLast (by simp [hl]) fun j v hj => ?_) (.cons ?_ .nil)
        · have hjl : j < l.dropLast.length := (List.getElem?_eq_some_iff.mp hj).1
          refine hv j v ?_
          rw [List.getElem?_dropLast] at hj
          split at hj
          · exact hj
          · cases hj
        · obtain ⟨t, e⟩ := hv m (l.getLast hne) (by rw [List.getLast_eq_getElem, ← List.getElem?_eq_getElem]; congr 1; omega)
          exact ⟨t, by rw [e]; congr 1; omega⟩
    exact key n acc.toList (by simpa using hsz) fun j v hj => hi j v (by simpa using hj)

/-- what may be sorted: a list, a tuple, the keys of a dict -/
def SortSrc (K : PySem.W.Frag) (H : Hp) (p : Addr) (r : List Nat) : Prop := SqL K H p (nv r) ∨ SqT K H p (nv r) ∨ ∃ kvs, H p = some (.dK kvs) ∧ kvs.map (·.1) = r.map fun (n : Nat) => Sum.inl (n : Int)
theorem ints_nv : ∀ {r : List Nat} {us : List Value}, Vals (nv r) us → IntsAre us (r.map fun (n : Nat) => (n : Int)) := fun {r us} h => intsAre_of (by rw [List.map_map]; exact h)
theorem nats_of {ms : List Int} {r : List Nat} (p : ms.Perm (r.map fun (n : Nat) => (n : Int))) (so : ms.Pairwise (· ≤ ·)) : ∃ S : List Nat, ms = S.map (fun (n : Nat) => (n : Int)) ∧ S.Perm r ∧ S.Pairwise (· ≤ ·) := by
  have hn : ∀ m ∈ ms, 0 ≤ m := fun m hm => by
    obtain ⟨n, _, rfl⟩ := List.mem_map.mp (p.mem_iff.mp hm)
    exact Int.natCast_nonneg n
  have e : ms = (ms.map Int.toNat).map fun (n : Nat) => (n : Int) := by
    rw [List.map_map]
    conv => lhs; rw [← List.map_id ms]
    exact List.map_congr_left fun m hm => by simp [Int.toNat_of_nonneg (hn m hm)]
  refine ⟨ms.map Int.toNat, e, ?_, ?_⟩
  · have := p.map Int.toNat
    rw [List.map_map] at this
    have e2 : r.map (Int.toNat ∘ fun (n : Nat) => (n : Int)) = r := by
      conv => rhs; rw [← List.map_id r]
      exact List.map_congr_left fun m _ => by simp
    rw [e2] at this; exact this
  · exact List.pairwise_map.mpr (so.imp_of_mem fun ha hb h => by have := hn _ ha; have := hn _ hb; omega)
theorem vals_of_ints {us : List Value} {S : List Nat} (h : IntsAre us (S.map fun (n : Nat) => (n : Int))) : Vals (nv S) us := by
  have := vals_ints h
  rw [List.map_map] at this
  exact this
def rSorted (K : PySem.W.Frag) : List V → Hp → VK → Prop := fun xs H Q => ∃ (p : Addr) (r : List Nat), xs = [.ref p] ∧ SortSrc K H p r ∧ r.length < 64 ∧ ∀ l S, H l = none → S.Perm r → S.Pairwise (· ≤ ·) → Q (.ref l) (upd H l (.lst (nv S)))
theorem call_sorted (hc : X.calm = true) : CallR X (.builtin "sorted") (rSorted X.K) := by
  intro pins s σ H xs us Q I rr h
  obtain ⟨p, r, rfl, src, h64, q⟩ := h
  obtain ⟨u, rfl, ru⟩ := vals1 rr
  obtain rfl : u = Value.ref p := ru
  have hh := I.ok.hd hc
  have fin : ∀ (vs : List Value), IntsAre vs (r.map fun (n : Nat) => (n : Int)) →
      (∀ (A : Around) (R : List Value → Shared → Prop), A.handled = none → (∀ vs ns' h' tk, IntsAre vs ns' → ns' = (r.map fun (n : Nat) => (n : Int)) → (∀ b o, s.heap.get? b = some o → h'.get? b = some o) → R vs { s with heap := h', toks := tk }) → wpAny (model X.prog X.w) A (collect (.ref p)) R X.xe s) →
      wpAny (model X.prog X.w) X.A (call (.builtin "sorted") [.ref p]) (EP X pins σ Q) X.xe s := by
    intro vs hI hcol
    refine sorted_by hI (by rw [hI.length, List.length_map]; exact h64) hcol hh fun h1 h2 tk e out ns' a1 a2 a3 hk ho hk2 => ?_
    obtain ⟨S, rfl, pS, sS⟩ := nats_of a2 a3
    have I1 : Inv X pins σ H { s with heap := h1, toks := tk } := I.kept hk
    have hlen : S.length < 64 := by rw [pS.length_eq]; exact h64
    refine ⟨.ref h1.objs.size, _, I1.laid (a := h1.objs.size) (o := .lst (nv S)) (h' := h2) (t' := tk) hk2 (Nat.le_refl _) ⟨?_, out.toList, e, vals_of_ints a1, by simpa using ho⟩, rfl, q _ S (I1.hok.fresh (Nat.le_refl _)) pS sS⟩
    rw [nv_len]; exact Nat.le_of_lt (small1000 (by omega))
  rcases src with hq | hq | ⟨kvs, hd, hkeys⟩
  · obtain ⟨its, rv, pl, hz⟩ := I.list hq
    refine fin its (ints_nv rv) fun A R hA hR => ?_
    refine collect_list pl.isList (hR its _ _ s.toks (ints_nv rv) rfl fun b o e => ?_) (by rw [← rv.length]; exact hz)
    exact (Heap.get?_update_other _ _ (Nat.ne_of_gt (Heap.lt_size e))).trans (Heap.get?_push_of_some _ e)
  · obtain ⟨its, rv, pl, hz⟩ := I.tuple hq
    refine fin its (ints_nv rv) fun A R hA hR => ?_
    exact collect_tup (show s.heap.IsTuple p its.toArray from pl) (by rw [← rv.length]; exact hz) fun h' hk => hR its _ _ s.toks (ints_nv rv) rfl hk
  · obtain ⟨z, hs, vs, rv, dd⟩ := dk_of I.hok hd
    obtain ⟨ep, da⟩ := dd.dictAt
    have hks : vs.map (·.1) = r.map fun (n : Nat) => Sum.inl (n : Int) := by rw [← rv.keys]; exact hkeys
    have key : ∀ (l : List Value), l.length = vs.length → (∀ (j : Nat) (v : Value), l[j]? = some v → ∃ k x, vs[j]? = some (k, x) ∧ (mixKind X.prog X.w).is k v = true) → IntsAre l (r.map fun (n : Nat) => (n : Int)) := by
      intro l hl hj
      refine ints_nv ?_
      have hlr : l.length = r.length := by rw [hl]; simpa using congrArg List.length hks
      have : ∀ (r' : List Nat) (l' : List Value), l'.length = r'.length → (∀ (j : Nat) (v : Value), l'[j]? = some v → ∃ n, r'[j]? = some n ∧ ∃ t, v = Value.int (n : Int) t) → Vals (nv r') l' := by
        intro r'
        induction r' with
        | nil => intro l' hl _; rw [List.length_eq_zero_iff.mp hl]; exact .nil
        | cons n r' ih =>
          intro l' hl hj
          cases l' with
          | nil => simp at hl
          | cons v l' =>
            obtain ⟨m, em, t, ev⟩ := hj 0 v rfl
            simp at em
            subst em
            exact .cons ⟨t, ev⟩ (ih l' (by simpa using hl) fun j v hv => by simpa using hj (j + 1) v (by simpa using hv))
      refine this r l hlr fun j v hv => ?_
      obtain ⟨k, x, e1, e2⟩ := hj j v hv
      have e3 : (r.map fun (n : Nat) => (Sum.inl (n : Int) : Key))[j]? = some k := by rw [← hks, List.getElem?_map, e1]; rfl
      rw [List.getElem?_map] at e3
      cases en : r[j]? with
      | none => rw [en] at e3; cases e3
      | some n =>
        rw [en] at e3
        have e4 : (Sum.inl (n : Int) : Key) = k := Option.some.inj e3
        subst e4
        obtain ⟨t, et⟩ := (show ∃ t, v = Value.int (n : Int) t from rel_of_kind e2)
        exact ⟨n, rfl, t, et⟩
    obtain ⟨l0, hl0, hj0⟩ : ∃ l : List Value, l.length = vs.length ∧ ∀ (j : Nat) (v : Value), l[j]? = some v → ∃ k x, vs[j]? = some (k, x) ∧ (mixKind X.prog X.w).is k v = true := by
      refine ⟨vs.map fun kv => match kv.1 with | Sum.inl i => Value.int i 0 | Sum.inr x => Value.str x 0, by simp, fun j v hv => ?_⟩
      rw [List.getElem?_map] at hv
      cases e : vs[j]? with
      | none => rw [e] at hv; cases hv
      | some kv =>
        rw [e] at hv
        obtain ⟨k, x⟩ := kv
        refine ⟨k, x, rfl, ?_⟩
        cases k with
        | inl i => cases hv; exact mixKind_int _ _ i 0
        | inr x => cases hv; exact mixKind_str _ _ x 0
    refine fin l0 (key l0 hl0 hj0) fun A R hA hR => ?_
    refine PySem.W.kdu_collect (PySem.W.kdl_dict (knd := mixKind X.prog X.w) (kvs := vs) (ep := ep) hs) hA da (by rw [← rv.length]; exact z) fun h' tk acc hk hacc => ?_
    exact hR acc.toList _ h' tk (key acc.toList (by simpa using hacc.1) fun j v hv => hacc.2 j v (by simpa using hv)) rfl hk

end
end L2
namespace L2
open PySem PySem.Spec PyProof.Rows
/-- for i, x in enumerate(xs), xs left as it is -/
theorem for_en {sq : Hp → List V → Prop} {xs : List V} {g : TG} {tb : TS} {D : Ends} {σ : St} {H : Hp} (Pv : Nat → St → Hp → Prop) (h0 : Pv 0 σ H) (hl : ∀ i σ H, i ≤ xs.length → Pv i σ H → sq H xs)
    (hs : ∀ i x σ H T, xs[i]? = some x → H T = none → Pv i σ H → g (.ref T) σ (upd H T (tupE T [.int (i : Int), x])) fun σ2 H2 => tb { D with nx := Pv (i + 1), ct := Pv (i + 1), bk := D.nx } σ2 H2) (hd : ∀ σ H, Pv xs.length σ H → D.nx σ H) :
    ∃ W : Nat → Nat → St → Hp → Prop, (∃ m, W 0 m σ H) ∧ ∀ i m σ H, W i m σ H →
      ((Iten sq).stop i H ∧ D.nx σ H) ∨ ((Iten sq).go i H ∧ ∃ N : St → Hp → Prop, (∀ σ' H', N σ' H' → ∃ m', m' < m ∧ W (i + 1) m' σ' H') ∧ ∀ x H', (Iten sq).yld i H x H' → g x σ H' fun σ2 H2 => tb { D with nx := N, ct := N, bk := D.nx } σ2 H2) := by
  refine ⟨fun i m σ H => m = xs.length - i ∧ i ≤ xs.length ∧ Pv i σ H, ⟨xs.length, by simp, Nat.zero_le _, h0⟩, ?_⟩
  rintro i m σ H ⟨rfl, hi, p⟩
  have q := hl i σ H hi p
  by_cases hlt : i < xs.length
  · refine .inr ⟨⟨xs, xs[i], q, by simp [hlt]⟩, Pv (i + 1), fun σ' H' p' => ⟨xs.length - (i + 1), by omega, rfl, hlt, p'⟩, fun x H' y => ?_⟩
    obtain ⟨T, z, hT, rfl, hz, rfl⟩ := y
    exact hs i z σ H T (hz xs q) hT p
  · have e : i = xs.length := by omega
    subst e
    exact .inl ⟨⟨xs, q, rfl⟩, hd σ H p⟩
/-- behind an element of a comprehension: n in all, ys the list that comes -/
def CPost (n : Nat) (ys : List V) (Pv : Nat → St → Hp → Prop) (d : Addr) (i : Nat) (σ3 : St) (y : V) (H4 : Hp) : Prop :=
  ∃ xs, H4 d = some (.lst xs) ∧ xs.length < sizeLine ∧ ∃ m', m' < n - i ∧ m' = n - (i + 1) ∧ i + 1 ≤ n ∧ Pv (i + 1) σ3 (upd H4 d (.lst (xs ++ [y]))) ∧ (upd H4 d (.lst (xs ++ [y]))) d = some (.lst (ys.take (i + 1)))
theorem cpost {n : Nat} {ys : List V} {Pv : Nat → St → Hp → Prop} {d : Addr} {i : Nat} {σ3 : St} {y : V} {H4 : Hp} (hi : i < n) (hn : n ≤ 1000) (hd : H4 d = some (.lst (ys.take i))) (hy : ys[i]? = some y) (hp : Pv (i + 1) σ3 (upd H4 d (.lst (ys.take (i + 1))))) :
    CPost n ys Pv d i σ3 y H4 := by
  have e : ys.take (i + 1) = ys.take i ++ [y] := by rw [List.take_add_one, hy]; rfl
  refine ⟨_, hd, ?_, n - (i + 1), by omega, rfl, hi, by rw [← e]; exact hp, by rw [upd_same, e]⟩
  have : (ys.take i).length ≤ i := by rw [List.length_take]; exact Nat.min_le_left _ _
  exact small1000 (by omega)
theorem comp_by {J : It} {g : TG} {te : TE} {d : Addr} {σ0 : St} {H1 : Hp} {Q : Addr → Hp → Prop} (n : Nat) (ys : List V) (hy : ys.length = n) (Pv : Nat → St → Hp → Prop) (h0 : Pv 0 σ0 (upd H1 d (.lst [])))
    (go : ∀ i σ H, i < n → Pv i σ H → H d = some (.lst (ys.take i)) → J.go i H ∧ ∀ x H2, J.yld i H x H2 → g x σ H2 fun σ3 H3 => te σ3 H3 fun y H4 => CPost n ys Pv d i σ3 y H4)
    (stop : ∀ σ H, Pv n σ H → H d = some (.lst ys) → J.stop n H ∧ Q d H) :
    ∃ W : Nat → Nat → St → Hp → Prop, (∃ m, W 0 m σ0 (upd H1 d (.lst []))) ∧ ∀ i m σ' H', W i m σ' H' →
      (J.stop i H' ∧ Q d H') ∨ (J.go i H' ∧ ∀ x H2, J.yld i H' x H2 → g x σ' H2 fun σ3 H3 => te σ3 H3 fun y H4 => ∃ xs, H4 d = some (.lst xs) ∧ xs.length < sizeLine ∧ ∃ m', m' < m ∧ W (i + 1) m' σ3 (upd H4 d (.lst (xs ++ [y])))) := by
  refine ⟨fun i m σ H => m = n - i ∧ i ≤ n ∧ Pv i σ H ∧ H d = some (.lst (ys.take i)), ⟨n, by simp, Nat.zero_le _, h0, upd_same⟩, ?_⟩
  rintro i m σ H ⟨rfl, hi, p, hd⟩
  by_cases hlt : i < n
  · exact .inr (go i σ H hlt p hd)
  · have e : i = n := by omega
    subst e
    rw [List.take_of_length_le (by omega)] at hd
    exact .inl (stop σ H p hd)
end L2
namespace Sq

theorem sub_len {α : Type} [DecidableEq α] : ∀ (l l' : List α), l.Nodup → (∀ x ∈ l, x ∈ l') → l.length ≤ l'.length
  | [], _, _, _ => Nat.zero_le _
  | a :: l, l', nd, h => by
    have nd' := List.nodup_cons.mp nd
    have ha : a ∈ l' := h a List.mem_cons_self
    have := sub_len l (l'.erase a) nd'.2 fun x hx => by
      have hne : x ≠ a := fun e => nd'.1 (e ▸ hx)
      exact (List.mem_erase_of_ne hne).mpr (h x (List.mem_cons_of_mem _ hx))
    rw [List.length_erase_of_mem ha] at this
    have := List.length_pos_of_mem ha
    simp only [List.length_cons]; omega

theorem full {α : Type} [DecidableEq α] {l l' : List α} (nd : l.Nodup) (h : ∀ x ∈ l, x ∈ l') (hl : l'.length ≤ l.length) : ∀ x ∈ l', x ∈ l := fun x hx => by
  refine Classical.byContradiction fun hn => ?_
  have h1 : (x :: l).Nodup := List.nodup_cons.mpr ⟨hn, nd⟩
  have h2 := sub_len (x :: l) l' h1 fun y hy => by
    rcases List.mem_cons.mp hy with rfl | hy
    · exact hx
    · exact h y hy
  simp only [List.length_cons] at h2; omega

theorem nd_inj {α : Type} {l : List α} (nd : l.Nodup) {i j : Nat} (hi : i < l.length) (hj : j < l.length) (e : l[i] = l[j]) : i = j := by
  have h := List.pairwise_iff_getElem.mp nd
  rcases Nat.lt_trichotomy i j with c | c | c
  · exact absurd e (h i j hi hj c)
  · exact c
  · exact absurd e.symm (h j i hj hi c)

/-- a row of n squares: each stands once -/
structure Row (n : Nat) (r : List Nat) : Prop where
  len : r.length = n
  nd : r.Nodup
  lt : ∀ x ∈ r, x < n

abbrev nx (r : List Nat) (x : Nat) : Nat := r.getD x 0

section
variable {n : Nat} {r : List Nat}
theorem Row.get (h : Row n r) {i : Nat} (hi : i < n) : r[i]? = some (nx r i) := by
  have : i < r.length := by rw [h.len]; exact hi
  simp [nx, List.getD, List.getElem?_eq_getElem this]
theorem Row.mem (h : Row n r) {i : Nat} (hi : i < n) : nx r i ∈ r := List.mem_of_getElem? (h.get hi)
theorem Row.nlt (h : Row n r) {i : Nat} (hi : i < n) : nx r i < n := h.lt _ (h.mem hi)
theorem Row.has (h : Row n r) {x : Nat} (hx : x < n) : x ∈ r := by
  refine full h.nd (l' := List.range n) (fun y hy => List.mem_range.mpr (h.lt y hy)) (by simp [h.len]) x (List.mem_range.mpr hx)
theorem Row.inj (h : Row n r) {i j : Nat} (hi : i < n) (hj : j < n) (e : nx r i = nx r j) : i = j := by
  have h1 : i < r.length := by rw [h.len]; exact hi
  have h2 : j < r.length := by rw [h.len]; exact hj
  have e' : r[i] = r[j] := by simpa [nx, List.getD, List.getElem?_eq_getElem h1, List.getElem?_eq_getElem h2] using e
  exact nd_inj h.nd h1 h2 e'
theorem Row.idx_lt (h : Row n r) {x : Nat} (hx : x < n) : r.idxOf x < n := by
  have := List.idxOf_lt_length_of_mem (h.has hx)
  rwa [h.len] at this
theorem Row.nx_idx (h : Row n r) {x : Nat} (hx : x < n) : nx r (r.idxOf x) = x := by
  have h1 := List.idxOf_lt_length_of_mem (h.has hx)
  simp [nx, List.getD, List.getElem?_eq_getElem h1]
theorem Row.idx_nx (h : Row n r) {i : Nat} (hi : i < n) : r.idxOf (nx r i) = i :=
  h.inj (h.idx_lt (h.nlt hi)) hi (h.nx_idx (h.nlt hi))
theorem Row.of_perm {l : List Nat} (p : l.Perm (List.range n)) : Row n l where
  len := by simpa using p.length_eq
  nd := p.nodup_iff.mpr List.nodup_range
  lt := fun x hx => List.mem_range.mp (p.mem_iff.mp hx)
end

/-- the row turned round -/
def back (r : List Nat) : List Nat := (List.range r.length).map fun x => r.idxOf x
theorem back_len (r : List Nat) : (back r).length = r.length := by simp [back]
theorem back_nx {n : Nat} {r : List Nat} (h : Row n r) {x : Nat} (hx : x < n) : nx (back r) x = r.idxOf x := by
  have : x < r.length := by rw [h.len]; exact hx
  simp [nx, back, List.getD, this]
theorem Row.back {n : Nat} {r : List Nat} (h : Row n r) : Row n (back r) where
  len := by rw [back_len, h.len]
  nd := by
    refine List.pairwise_map.mpr (List.Pairwise.imp_of_mem (fun {a b} ha hb hne e => hne ?_) (List.nodup_range (n := r.length)))
    rw [h.len] at ha hb
    have ha := List.mem_range.mp ha
    have hb := List.mem_range.mp hb
    rw [← h.nx_idx ha, e, h.nx_idx hb]
  lt := fun x hx => by
    obtain ⟨y, hy, rfl⟩ := List.mem_map.mp hx
    rw [h.len] at hy
    exact h.idx_lt (List.mem_range.mp hy)

/-- a set of squares that right and up do not leave -/
def Shut (n : Nat) (r u : List Nat) (T : Nat → Prop) : Prop := ∀ x, x < n → T x → T (nx r x) ∧ T (nx u x)

/-- a sheet -/
structure Sheet (n : Nat) (r u : List Nat) : Prop where
  pos : 1 ≤ n
  most : n ≤ 36
  row : Row n r
  col : Row n u
  conn : ∀ T : Nat → Prop, T 0 → Shut n r u T → ∀ x, x < n → T x

theorem pop_perm {n : Nat} {line left : List Nat} {k : Nat} {y : Nat} (p : (line ++ left).Perm (List.range n)) (e : left[k]? = some y) :
    ((line ++ [y]) ++ left.eraseIdx k).Perm (List.range n) := by
  refine List.Perm.trans ?_ p
  rw [List.append_assoc]
  refine List.Perm.append_left _ ?_
  have hk : k < left.length := (List.getElem?_eq_some_iff.mp e).1
  have hy : left[k] = y := (List.getElem?_eq_some_iff.mp e).2
  have h1 : left = left.take k ++ left[k] :: left.drop (k + 1) := by
    rw [← List.drop_eq_getElem_cons hk, List.take_append_drop]
  rw [List.eraseIdx_eq_take_drop_succ]
  conv => rhs; rw [h1, hy]
  exact (List.perm_middle (a := y) (l₁ := left.take k) (l₂ := left.drop (k + 1))).symm

structure Met (n : Nat) (r u : List Nat) (first : Nat) (M : List Nat) (k : Nat) : Prop where
  nd : M.Nodup
  hd : first ∈ M
  lt : ∀ x ∈ M, x < n
  kle : k ≤ M.length
  shut : ∀ i x, i < k → M[i]? = some x → nx r x ∈ M ∧ nx u x ∈ M
  least : ∀ T : Nat → Prop, T first → Shut n r u T → ∀ x ∈ M, T x
theorem Met.len {n : Nat} {r u : List Nat} {first : Nat} {M : List Nat} {k : Nat} (h : Met n r u first M k) : M.length ≤ n := by
  have := sub_len M (List.range n) h.nd fun x hx => List.mem_range.mpr (h.lt x hx)
  simpa using this
theorem Met.start {n : Nat} {r u : List Nat} {first : Nat} (h : first < n) : Met n r u first [first] 0 where
  nd := by simp
  hd := by simp
  lt := fun x hx => by rw [List.mem_singleton.mp hx]; exact h
  kle := Nat.zero_le _
  shut := fun i x hi => absurd hi (Nat.not_lt_zero _)
  least := fun T h0 _ x hx => by rw [List.mem_singleton.mp hx]; exact h0
/-- put at the end where it is not there yet -/
def put (M : List Nat) (y : Nat) : List Nat := if y ∈ M then M else M ++ [y]
theorem mem_put {M : List Nat} {y x : Nat} : x ∈ put M y ↔ x ∈ M ∨ x = y := by
  unfold put; split
  · rename_i h; exact ⟨.inl, fun q => q.elim id fun e => e ▸ h⟩
  · simp
theorem put_get {M : List Nat} {y x : Nat} {i : Nat} (h : M[i]? = some x) : (put M y)[i]? = some x := by
  unfold put; split
  · exact h
  · rw [List.getElem?_append_left (List.getElem?_eq_some_iff.mp h).1]; exact h
theorem put_len {M : List Nat} {y : Nat} : M.length ≤ (put M y).length := by
  unfold put; split <;> simp
theorem put_nd {M : List Nat} {y : Nat} (h : M.Nodup) : (put M y).Nodup := by
  unfold put; split
  · exact h
  · rename_i hy; exact List.nodup_append.mpr ⟨h, by simp, fun a ha b hb e => hy (by rw [List.mem_singleton.mp hb] at e; exact e ▸ ha)⟩
theorem Met.step {n : Nat} {r u : List Nat} {first : Nat} {M : List Nat} {k x : Nat} (h : Met n r u first M k) (hr : Row n r) (hu : Row n u) (hx : M[k]? = some x) :
    Met n r u first (put (put M (nx r x)) (nx u x)) (k + 1) where
  nd := put_nd (put_nd h.nd)
  hd := mem_put.mpr (.inl (mem_put.mpr (.inl h.hd)))
  lt := fun y hy => by
    have hxn := h.lt x (List.mem_of_getElem? hx)
    rcases mem_put.mp hy with hy | rfl
    · rcases mem_put.mp hy with hy | rfl
      · exact h.lt y hy
      · exact hr.nlt hxn
    · exact hu.nlt hxn
  kle := by
    have := (List.getElem?_eq_some_iff.mp hx).1
    have h1 := put_len (M := M) (y := nx r x)
    have h2 := put_len (M := put M (nx r x)) (y := nx u x)
    omega
  shut := fun i y hi hy => by
    have hk := (List.getElem?_eq_some_iff.mp hx).1
    have hi' : i < M.length := by omega
    have e : M[i]? = some M[i] := List.getElem?_eq_getElem hi'
    have e2 := put_get (y := nx u x) (put_get (y := nx r x) e)
    rw [hy] at e2
    have e3 : y = M[i] := Option.some.inj e2
    rw [← e3] at e
    rcases Nat.lt_or_ge i k with hlt | hge
    · obtain ⟨a, b⟩ := h.shut i y hlt e
      exact ⟨mem_put.mpr (.inl (mem_put.mpr (.inl a))), mem_put.mpr (.inl (mem_put.mpr (.inl b)))⟩
    · have : i = k := by omega
      subst this
      rw [hx] at e
      cases e
      exact ⟨mem_put.mpr (.inl (mem_put.mpr (.inr rfl))), mem_put.mpr (.inr rfl)⟩
  least := fun T h0 hs y hy => by
    have hxM := List.mem_of_getElem? hx
    have hxn := h.lt x hxM
    have hT := h.least T h0 hs x hxM
    rcases mem_put.mp hy with hy | rfl
    · rcases mem_put.mp hy with hy | rfl
      · exact h.least T h0 hs y hy
      · exact (hs x hxn hT).1
    · exact (hs x hxn hT).2
/-- all that is met -/
structure MetAll (n : Nat) (r u : List Nat) (first : Nat) (M : List Nat) : Prop where
  nd : M.Nodup
  hd : first ∈ M
  lt : ∀ x ∈ M, x < n
  shut : ∀ x ∈ M, nx r x ∈ M ∧ nx u x ∈ M
  least : ∀ T : Nat → Prop, T first → Shut n r u T → ∀ x ∈ M, T x
theorem Met.all {n : Nat} {r u : List Nat} {first : Nat} {M : List Nat} {k : Nat} (h : Met n r u first M k) (hk : M.length ≤ k) : MetAll n r u first M where
  nd := h.nd
  hd := h.hd
  lt := h.lt
  shut := fun x hx => by
    obtain ⟨i, hi, e⟩ := List.mem_iff_getElem.mp hx
    exact h.shut i x (by omega) (by rw [List.getElem?_eq_getElem hi, e])
  least := h.least
theorem MetAll.perm {n : Nat} {r u : List Nat} {first : Nat} {M S : List Nat} (h : MetAll n r u first M) (p : S.Perm M) : MetAll n r u first S where
  nd := p.nodup_iff.mpr h.nd
  hd := p.mem_iff.mpr h.hd
  lt := fun x hx => h.lt x (p.mem_iff.mp hx)
  shut := fun x hx => ⟨p.mem_iff.mpr (h.shut x (p.mem_iff.mp hx)).1, p.mem_iff.mpr (h.shut x (p.mem_iff.mp hx)).2⟩
  least := fun T h0 hs x hx => h.least T h0 hs x (p.mem_iff.mp hx)
def among (r S : List Nat) : List Nat := S.map fun x => S.idxOf (nx r x)
theorem among_len (r S : List Nat) : (among r S).length = S.length := by simp [among]
theorem among_nx {r S : List Nat} {i : Nat} {x : Nat} (h : S[i]? = some x) : nx (among r S) i = S.idxOf (nx r x) := by
  simp [nx, among, List.getD, h]
theorem idx_get {S : List Nat} (nd : S.Nodup) {i x : Nat} (h : S[i]? = some x) : S.idxOf x = i := by
  obtain ⟨hi, e⟩ := List.getElem?_eq_some_iff.mp h
  have hm : x ∈ S := List.mem_of_getElem? h
  have h1 := List.idxOf_lt_length_of_mem hm
  have e1 : S[S.idxOf x] = x := List.getElem_idxOf h1
  exact nd_inj nd h1 hi (e1.trans e.symm)
theorem get_idx {S : List Nat} {x : Nat} (h : x ∈ S) : S[S.idxOf x]? = some x := by
  have h1 := List.idxOf_lt_length_of_mem h
  rw [List.getElem?_eq_getElem h1, List.getElem_idxOf h1]
theorem among_row {n : Nat} {r S : List Nat} (hr : Row n r) (nd : S.Nodup) (lt : ∀ x ∈ S, x < n) (cl : ∀ x ∈ S, nx r x ∈ S) : Row S.length (among r S) where
  len := among_len r S
  nd := by
    refine List.pairwise_map.mpr (List.Pairwise.imp_of_mem (fun {a b} ha hb hne e => hne ?_) nd)
    have h1 := get_idx (cl a ha)
    rw [e, get_idx (cl b hb)] at h1
    exact hr.inj (lt a ha) (lt b hb) (Option.some.inj h1).symm
  lt := fun x hx => by
    obtain ⟨y, hy, rfl⟩ := List.mem_map.mp hx
    exact List.idxOf_lt_length_of_mem (cl y hy)
theorem among_sheet {n : Nat} {r u S : List Nat} (hn : n ≤ 36) (hr : Row n r) (hu : Row n u) (h : MetAll n r u 0 S) (so : S.Pairwise (· ≤ ·)) : Sheet S.length (among r S) (among u S) where
  pos := List.length_pos_of_mem h.hd
  most := by
    have := sub_len S (List.range n) h.nd fun x hx => List.mem_range.mpr (h.lt x hx)
    simp only [List.length_range] at this; omega
  row := among_row hr h.nd h.lt fun x hx => (h.shut x hx).1
  col := among_row hu h.nd h.lt fun x hx => (h.shut x hx).2
  conn := fun T h0 hs i hi => by
    have z : S[0]? = some 0 := by
      cases S with
      | nil => exact absurd h.hd (by simp)
      | cons a S =>
        rcases List.mem_cons.mp h.hd with e | hm
        · simp [← e]
        · have := (List.pairwise_cons.mp so).1 0 hm
          have : a = 0 := by omega
          simp [this]
    have key := h.least (fun x => x ∈ S ∧ T (S.idxOf x)) ⟨h.hd, by rw [idx_get h.nd z]; exact h0⟩ fun x _ ⟨hx, t⟩ => by
      have hlt := List.idxOf_lt_length_of_mem hx
      have := hs (S.idxOf x) hlt t
      rw [among_nx (get_idx hx), among_nx (get_idx hx)] at this
      exact ⟨⟨(h.shut x hx).1, this.1⟩, (h.shut x hx).2, this.2⟩
    have e : S[i]? = some S[i] := List.getElem?_eq_getElem hi
    have := (key S[i] (List.getElem_mem hi)).2
    rwa [idx_get h.nd e] at this

end Sq
namespace Sq
variable {n : Nat} {r u : List Nat} {first : Nat} {F : List Nat} {P : List (List Nat)} {k j : Nat}
end Sq
namespace K1
open PySem L2
def top (i : Nat) : Stmt := PySem.Challenge.pw_squaresheet_k36_whole_in_parts_and_back.main.body.getD i (.Pass ⟨0, 0, 0, 0⟩)
abbrev sSize : Stmt := top 7
abbrev sBackRow : Stmt := top 8
abbrev sIsWhole : Stmt := top 9
abbrev sIsSq : Stmt := top 10
abbrev sCycleFrom : Stmt := top 11
abbrev sCycles : Stmt := top 12
abbrev sCorners : Stmt := top 14
abbrev sTurnRow : Stmt := top 15
abbrev sRoughSquares : Stmt := top 16
abbrev sPart : Stmt := top 18
abbrev sCommonDivisor : Stmt := top 19
abbrev sWalk : Stmt := top 22
abbrev sNeedPlace : Stmt := top 23
abbrev sIsInside : Stmt := top 24
abbrev sNeedWay : Stmt := top 25
abbrev sWalked : Stmt := top 26
abbrev sUnitOf : Stmt := top 27
abbrev sInUnits : Stmt := top 28
abbrev sIsAtCorner : Stmt := top 29
abbrev sSetOut : Stmt := top 30
abbrev sTicksToSide : Stmt := top 31
abbrev sArrived : Stmt := top 32
abbrev sCell : Stmt := top 34
abbrev sWhole : Stmt := top 35
abbrev sLRow : Stmt := top 36
abbrev sLTorus : Stmt := top 37
abbrev sLExchanged : Stmt := top 38
abbrev sLTogether : Stmt := top 39
abbrev sLFree : Stmt := top 40
abbrev sLRaw : Stmt := top 41
abbrev sLDigits : Stmt := top 42
abbrev sSheet : Stmt := top 43
abbrev sLPair : Stmt := top 44
abbrev sLPart : Stmt := top 45
abbrev sLPlace : Stmt := top 46
abbrev sLAnyPart : Stmt := top 47
abbrev sLAnyPlace : Stmt := top 48
abbrev sLAnyDirection : Stmt := top 49
abbrev sHanded : Stmt := top 50
abbrev sLDirection : Stmt := top 51
abbrev sLIsThere : Stmt := top 52
abbrev sLIsCorner : Stmt := top 53
abbrev sLaw : Stmt := top 54
end K1
namespace K1
open PySem L2 Sq
/-- the builtins' names are not taken by the text -/
structure Bi (mg : Str → Option Value) : Prop where
  len : mg "len" = none
  range : mg "range" = none
  list : mg "list" = none
  tuple : mg "tuple" = none
  isin : mg "isinstance" = none
  int : mg "int" = none
  bool : mg "bool" = none
  all : mg "all" = none
  set : mg "set" = none
  sorted : mg "sorted" = none
  enum : mg "enumerate" = none
/-- a def of the text -/
structure Fn (K : PySem.W.Frag) (mg : Str → Option Value) (x : Str) (st : Stmt) (ps : List Str) (f : Addr) (fd : FuncData) : Prop where
  F : Fun K x x st f fd
  b : Binds K fd ps []
  m : mg x = some (.ref f)

def RowAt (K : PySem.W.Frag) (H : Hp) (p : Addr) (r : List Nat) : Prop := SqL K H p (nv r) ∨ SqT K H p (nv r)

def spWhole : Sp := fun vs H Q _ => ∃ i : Int, vs = [.int i] ∧ Q (.bl true) H
def spSize : Sp := fun vs H Q _ => ∃ (a : Addr) (r u : List Nat), vs = [.ref a] ∧ ShAt H a r u ∧ Q (.int (r.length : Int)) H
def spIsSq : Sp := fun vs H Q _ => ∃ i n : Int, vs = [.int i, .int n] ∧ Q (.bl (decide (0 ≤ i ∧ i < n))) H

theorem boot_isin : bootBuiltins "isinstance" = some (.builtin "isinstance") := by decide +kernel
theorem boot_int : bootBuiltins "int" = some (.type "int") := by decide +kernel
theorem boot_bool : bootBuiltins "bool" = some (.type "bool") := by decide +kernel
theorem boot_tuple : bootBuiltins "tuple" = some (.type "tuple") := by decide +kernel
theorem boot_list : bootBuiltins "list" = some (.type "list") := by decide +kernel
theorem boot_sorted : bootBuiltins "sorted" = some (.builtin "sorted") := by decide +kernel
theorem nv_erase (xs : List Nat) (k : Nat) : (nv xs).eraseIdx k = nv (xs.eraseIdx k) := by
  unfold nv
  induction xs generalizing k with
  | nil => rfl
  | cons x xs ih => cases k with
    | zero => rfl
    | succ k => simp only [List.map_cons, List.eraseIdx_cons_succ, ih]
theorem same_upd {H H' : Hp} {l : Addr} {o : HO} (e : Same H H') (h : H l = none) : Same H (upd H' l o) := fun b u q => by
  rw [upd_ne (ne_of_none q h)]; exact e b u q
/-- a square is drawn out of those that are left -/
theorem popDraw {H : Hp} {lf : Addr} {left : List Nat} {x : Int} {Q : VK} (h : H lf = some (.lst (nv left))) (h0 : 0 < left.length) (h1 : left.length ≤ 36)
    (q : ∀ (k y : Nat), left[k]? = some y → Q (.int (y : Int)) (upd H lf (.lst (nv (left.eraseIdx k))))) : rPopAt (.ref lf) [.int (x % ((nv left).length : Int))] H Q := by
  have hl := nv_len left
  have a0 : 0 ≤ x % ((nv left).length : Int) := Int.emod_nonneg _ (by omega)
  have a1 : x % ((nv left).length : Int) < ((nv left).length : Int) := Int.emod_lt_of_pos _ (by omega)
  have a2 : (x % ((nv left).length : Int)).toNat < left.length := by omega
  have a3 : left[(x % ((nv left).length : Int)).toNat]? = some left[(x % ((nv left).length : Int)).toNat] := List.getElem?_eq_getElem a2
  refine ⟨lf, _, _, (x % ((nv left).length : Int)).toNat, _, rfl, rfl, h, by omega, by omega, seqIndex_of a0 a1, nv_get a3, ?_⟩
  rw [nv_erase]
  exact q _ _ a3
theorem Same.tseq {K : PySem.W.Frag} {H H' : Hp} {a : Addr} {xs : List V} (e : Same H H') (h : SqT K H a xs) : SqT K H' a xs := by
  rcases h with (h | ⟨o, h⟩) | h
  · exact .inl (.inl (e _ _ h))
  · exact .inl (.inr ⟨o, e _ _ h⟩)
  · exact .inr h
theorem RowAt.same {K : PySem.W.Frag} {H H' : Hp} {p : Addr} {r : List Nat} (e : Same H H') (h : RowAt K H p r) : RowAt K H' p r := h.imp e.seq (Same.tseq e)
theorem rowIx {K : PySem.W.Frag} {H : Hp} {p : Addr} {r : List Nat} {n i : Nat} {Q : VK} (h : RowAt K H p r) (hr : Row n r) (hi : i < n) (q : Q (.int (nx r i : Int)) H) : rIx K (.ref p) (.int (i : Int)) H Q := by
  rcases h with h | h
  · exact .inl ⟨p, _, _, _, rfl, rfl, h, atI_nat (nv_get (hr.get hi)), q⟩
  · exact .inr (.inl ⟨p, _, _, _, rfl, rfl, h, atI_nat (nv_get (hr.get hi)), q⟩)
theorem nv_flat (xs : List Nat) : (nv xs).all flatV = true := by
  rw [List.all_eq_true]
  intro x hx
  obtain ⟨n, _, rfl⟩ := List.mem_map.mp hx
  rfl
theorem inV_nv (x : Nat) (xs : List Nat) : inV (.int (x : Int)) (nv xs) = decide (x ∈ xs) := by
  unfold inV nv
  rw [List.any_map]
  apply Bool.eq_iff_iff.mpr
  rw [List.any_eq_true, decide_eq_true_iff]
  constructor
  · rintro ⟨y, hy, e⟩
    have : (y : Int) = (x : Int) := by simpa [eqV, scal] using e
    have : y = x := by omega
    rw [← this]; exact hy
  · intro h
    exact ⟨x, h, by simp [eqV, scal]⟩
/-- how far the fifth slot is from 100 -/
def mu (j : Nat) (σ : St) : Nat := match σ[j]? with
  | some (some (.int k)) => (100 - k).toNat
  | _ => 0
theorem foldl_put_len : ∀ (l M : List Nat), (l.foldl put M).length ≤ M.length + l.length
  | [], M => Nat.le_refl _
  | x :: l, M => by
    have h1 := foldl_put_len l (put M x)
    have h2 : (put M x).length ≤ M.length + 1 := by unfold put; split <;> simp
    simp only [List.foldl_cons, List.length_cons]; omega
end K1
namespace L2
open PySem PySem.Spec PyProof.Rows
section
variable {X : Cx} {tg : Expr}
/-- {e}, e a whole number -/
def tFmtI (te : TE) : TE := fun σ H Q => te σ H fun x H1 => ∃ i : Int, x = .int i ∧ i.natAbs.log2 < 1920 ∧ Q (.str (toString i)) H1
theorem pe_fmtI {e : Expr} {te : TE} {pos : Pos} (he : PE X e te) : PE X (.FormattedValue e (-1) none pos) (tFmtI te) := by
  intro pins s σ H Q I h
  refine wpAny_FormattedValue_plain (thn (he pins s σ H _ I h) fun v s1 ⟨x, H1, I1, r1, i, e, hz, q⟩ => ?_)
  subst e
  obtain ⟨t, rfl⟩ := r1
  exact wpAny_formatField_int hz ⟨.str (toString i), H1, I1.tok _, ⟨_, rfl⟩, q⟩
/-- the parts of an f-string, from the left -/
def tParts : List TE → Str → TE
  | [], acc => fun _ H Q => Q (.str acc) H
  | t :: ts, acc => fun σ H Q => t σ H fun x H1 => ∃ y, x = .str y ∧ (acc ++ y).length ≤ sizeLine ∧ tParts ts (acc ++ y) σ H1 Q
inductive PParts (X : Cx) : List Expr → List TE → Prop
  | nil : PParts X [] []
  | cons {e : Expr} {t : TE} {es : List Expr} {ts : List TE} : PE X e t → PParts X es ts → PParts X (e :: es) (t :: ts)
theorem evalEach_map (env : Env) : ∀ es : List Expr, evalEach es env = es.map fun e => eval e env
  | [] => rfl
  | e :: es => by
    show eval e env :: evalEach es env = _
    rw [evalEach_map env es]; rfl
theorem joins_of {pins : List (Addr × Obj)} : ∀ {es : List Expr} {ts : List TE} {acc : Str} {s : Shared} {σ : St} {H : Hp} {Q : VK}, PParts X es ts → Inv X pins σ H s → acc.length ≤ sizeLine → tParts ts acc σ H Q →
    Joins (model X.prog X.w) X.A X.xe (es.map fun e => eval e X.env) acc (fun out s₁ => out.length ≤ sizeLine ∧ EP X pins σ Q (.str out s₁.toks) { s₁ with toks := s₁.toks + 1 }) s
  | [], _, acc, s, σ, H, Q, .nil, I, hz, h => ⟨hz, .str acc, H, I.tok _, ⟨_, rfl⟩, h⟩
  | e :: es, _, acc, s, σ, H, Q, .cons h1 hr, I, hz, h => by
    refine thn (h1 pins s σ H _ I h) fun v s1 ⟨x, H1, I1, r1, y, ex, hy, q⟩ => ?_
    subst ex
    obtain ⟨t, rfl⟩ := r1
    exact ⟨y, t, rfl, hy, joins_of hr I1 hy q⟩
theorem pe_fstr {e1 e2 : Expr} {es : List Expr} {ts : List TE} {pos : Pos} (h : PParts X (e1 :: e2 :: es) ts) : PE X (.JoinedStr (e1 :: e2 :: es) pos) (tParts ts Str.empty) := by
  intro pins s σ H Q I hw
  refine wpAny_JoinedStr ?_
  rw [evalEach_map]
  exact joins_of h I (by decide) hw
end
end L2
namespace L2
open PySem PySem.Spec PyProof.Rows
/-- e: an exception of the class C with the dict d; B: what stays whatever the flight does; told: it has a traceback, whose flight mark is fl -/
def ExAt (B : Heap) (e : Addr) (C : Value) (d : Option Addr) (h : Heap) : Prop :=
  ∃ oe vs, h.get? e = some oe ∧ oe.cls = C ∧ oe.dict = d ∧ oe.data = .fields vs ∧ vs[2]? = some .none ∧ (vs[1]? = some .none ∨ ∃ T oT ts fl, vs[1]? = some (.ref T) ∧ B.get? T = none ∧ T ≠ e ∧ h.get? T = some oT ∧ oT.data = .fields ts ∧ ts[3]? = some fl)
def ExOn (B : Heap) (e : Addr) (C : Value) (d : Option Addr) (fl : Value) (h : Heap) : Prop :=
  ∃ oe vs T oT ts, h.get? e = some oe ∧ oe.cls = C ∧ oe.dict = d ∧ (oe.data = .fields vs ∧ vs[2]? = some .none) ∧ vs[1]? = some (.ref T) ∧ B.get? T = none ∧ T ≠ e ∧ h.get? T = some oT ∧ oT.data = .fields ts ∧ ts[3]? = some fl
theorem ExOn.at {B h : Heap} {e : Addr} {C fl : Value} {d : Option Addr} (x : ExOn B e C d fl h) : ExAt B e C d h := by
  obtain ⟨oe, vs, T, oT, ts, h1, h2, h3, h4, h5, h6, h7, h8, h9, h10⟩ := x
  exact ⟨oe, vs, h1, h2, h3, h4.1, h4.2, .inr ⟨T, oT, ts, fl, h5, h6, h7, h8, h9, h10⟩⟩
/-- what a station asks and gives -/
structure Air (B : Heap) (l : List Env) (e : Addr) (h : Heap) : Prop where
  stays : B.StaysIn h
  new : B.get? e = none
  frames : h.FunFrames B l
section
variable {M : Model} {A : Around} {E : Value → Shared → Prop} {s : Shared}
theorem dict_mapFields (o : Obj) (f : Array Value → Array Value) : (o.mapFields f).dict = o.dict := by
  obtain ⟨c, d, dt, sl⟩ := o
  cases dt <;> rfl
/-- an entry of the traceback is laid -/
theorem air_entry {B : Heap} {env : Env} {outer : List Env} {L e : Addr} {oe : Obj} {vs : Array Value} {head : Value} {had : Bool} {Q : Unit → Shared → Prop}
    (fr : A.frames = some (env :: outer)) (fl : env.frame = some L) (a : Air B (env :: outer) e s.heap) (he : s.heap.get? e = some oe) (hd : oe.data = .fields vs) (hcx : vs[2]? = some .none)
    (q : ∀ h', Air B (env :: outer) e h' → ExOn B e oe.cls oe.dict (rawInt L) h' → s.heap.UpToSlots h' → Q () { s with heap := h' }) :
    wpAny M A (do let f ← frameOf env; let pl ← entryPlaceOf L had; let b ← EntryCells.newEntry head f .none (rawInt L) .none pl; setField (.ref e) 1 b) Q E s := by
  have hz2 : 2 < vs.size := (Array.getElem?_eq_some_iff.mp hcx).1
  have hz : 1 < vs.size := by omega
  have nfr : e ∉ (env :: outer).filterMap (·.frame) := fun z => by
    obtain ⟨_, o, ho, hn⟩ := a.frames.mem z
    rw [he] at ho
    cases ho
    exact hn vs hd
  refine wpAny_bind (wpAny_frameOf_fun fr a.frames fl fun h1 so => ?_)
  refine wpAny_bind (wpAny_entryPlaceOf fun pl hpl => ?_)
  unfold EntryCells.newEntry newFields
  refine wpAny_bind (wpAny_newObj_type ?_ (hpl.sizeOk5 _ _ _ _ _))
  have he1 : h1.get? e = some oe := by rw [so.2.1 e nfr]; exact he
  have st1 : B.StaysIn h1 := fun b o hb => by
    rw [so.2.1 b fun z => by rw [(a.frames.mem z).1] at hb; cases hb]
    exact a.stays b o hb
  generalize hrec : ({ cls := .type "traceback", dict := none, data := .fields ([head, .ref L, .none, rawInt L, .none] ++ (if pl.isEmpty then List.replicate 6 Value.none else pl)).toArray } : Obj) = rec
  have rdat : ∃ ts : Array Value, rec.data = .fields ts ∧ ts[3]? = some (rawInt L) := by
    refine ⟨([head, .ref L, .none, rawInt L, .none] ++ (if pl.isEmpty then List.replicate 6 Value.none else pl)).toArray, by rw [← hrec], ?_⟩
    simp
  obtain ⟨ts, rd, r3⟩ := rdat
  have he2 := Heap.get?_push_of_some (h := h1) rec he1
  refine wpAny_setField he2 hd hz ?_
  have nT : h1.objs.size ≠ e := Nat.ne_of_gt (Heap.lt_size he1)
  have dat3 := Obj.data_mapFields hd (·.setIfInBounds 1 (Value.ref h1.objs.size))
  have he3 := Heap.get?_update_self (Obj.mapFields (·.setIfInBounds 1 (Value.ref h1.objs.size))) he2 (Obj.isFreed_of_fields dat3)
  have rnf : rec.isFreed = false := Obj.isFreed_of_fields rd
  have hT3 : ((h1.push rec).update e (Obj.mapFields (·.setIfInBounds 1 (Value.ref h1.objs.size)))).get? h1.objs.size = some rec := by
    rw [Heap.get?_update_other _ _ (Ne.symm nT)]; exact Heap.get?_push_size h1 rnf
  have keep : ∀ b o, b ≠ e → h1.get? b = some o → ((h1.push rec).update e (Obj.mapFields (·.setIfInBounds 1 (Value.ref h1.objs.size)))).get? b = some o := fun b o nb hb => by
    rw [Heap.get?_update_other _ _ (Ne.symm nb)]; exact Heap.get?_push_of_some _ hb
  have nrec : ∀ b o, s.heap.get? b = some o → (∀ ws, o.data ≠ .fields ws) → b ≠ e := fun b o hb hn z => by
    rw [z, he] at hb
    cases hb
    exact hn vs hd
  refine q _ ⟨fun b o hb => keep b o (fun z => by rw [z, a.new] at hb; cases hb) (st1 b o hb), a.new, a.frames.of_keeps fun b o hb hn => ?_⟩ ?_ fun b o hb hn => ?_
  · obtain ⟨sl, e1⟩ := so.2.2 b o hb
    exact ⟨_, keep b _ (nrec b o hb hn) e1, rfl⟩
  · refine ⟨_, _, h1.objs.size, rec, ts, he3, Obj.cls_mapFields _ _, dict_mapFields _ _, ⟨dat3, by rw [Array.getElem?_setIfInBounds_ne (by decide)]; exact hcx⟩, by simp [hz], st1.fresh, nT, hT3, rd, r3⟩
  · obtain ⟨sl, e1⟩ := so.2.2 b o hb
    exact ⟨sl, keep b _ (nrec b o hb hn) e1⟩
/-- a traceback's mark is set -/
theorem air_mark {B : Heap} {l : List Env} {e T : Addr} {oe oT : Obj} {vs ts : Array Value} {fl v : Value} (a : Air B l e s.heap) (he : s.heap.get? e = some oe) (hd : oe.data = .fields vs) (hcx : vs[2]? = some .none) (h1 : vs[1]? = some (.ref T)) (nT : B.get? T = none) (nTe : T ≠ e)
    (hT : s.heap.get? T = some oT) (hdT : oT.data = .fields ts) (h3 : ts[3]? = some fl) {Q : Unit → Shared → Prop}
    (q : ∀ h', Air B l e h' → h'.get? e = some oe → ExOn B e oe.cls oe.dict v h' → s.heap.UpToSlots h' → Q () { s with heap := h' }) : wpAny M A (setField (.ref T) 3 v) Q E s := by
  have z3 : 3 < ts.size := (Array.getElem?_eq_some_iff.mp h3).1
  have other : ∀ b, b ≠ T → (s.heap.update T (Obj.mapFields (·.setIfInBounds 3 v))).get? b = s.heap.get? b := fun b nb => Heap.get?_update_other _ _ (Ne.symm nb)
  have nrec : ∀ b o, s.heap.get? b = some o → (∀ ws, o.data ≠ .fields ws) → b ≠ T := fun b o hb hn z => by
    rw [z, hT] at hb
    cases hb
    exact hn ts hdT
  have he' := (other e (Ne.symm nTe)).trans he
  refine wpAny_setField hT hdT z3 (q _ ⟨fun b o hb => ?_, a.new, a.frames.of_keeps fun b o hb hn => ⟨o, (other b (nrec b o hb hn)).trans hb, rfl⟩⟩ he' ?_ fun b o hb hn => ⟨o.slots, (other b (nrec b o hb hn)).trans hb⟩)
  · exact (other b fun z => by rw [z, nT] at hb; cases hb).trans (a.stays b o hb)
  · exact ⟨oe, vs, T, _, _, he', rfl, rfl, ⟨hd, hcx⟩, h1, nT, nTe, Heap.get?_update_self _ hT (Obj.isFreed_of_fields (Obj.data_mapFields hdT _)), Obj.data_mapFields hdT _, by simp [z3]⟩
/-- the frame is noted -/
theorem air_note {B : Heap} {env : Env} {outer : List Env} {L e : Addr} {C : Value} {d : Option Addr} {Q : Unit → Shared → Prop} (fr : A.frames = some (env :: outer)) (fl : env.frame = some L) (a : Air B (env :: outer) e s.heap) (x : ExAt B e C d s.heap)
    (q : ∀ h', Air B (env :: outer) e h' → ExOn B e C d (rawInt L) h' → s.heap.UpToSlots h' → Q () { s with heap := h' }) : wpAny M A (noteFrame (.ref e) env) Q E s := by
  obtain ⟨oe, vs, he, rfl, rfl, hd, hz, hv⟩ := x
  unfold noteFrame
  simp only [fl]
  rcases hv with hv | ⟨T, oT, ts, f0, hv, nT, nTe, hT, hdT, h3⟩
  · refine wpAny_bind (wpAny_field he hd hv ?_)
    rw [if_neg (by decide)]
    exact air_entry fr fl a he hd hz q
  · refine wpAny_bind (wpAny_field he hd hv ?_)
    rw [if_pos (show (Value.ref T != Value.none) = true from by simp)]
    refine wpAny_bind (wpAny_field hT hdT h3 ?_)
    by_cases e0 : (f0 == rawInt L) = true
    · rw [if_pos e0]
      have e1 : f0 = rawInt L := by simpa using e0
      subst e1
      exact wpAny_pure (q s.heap a ⟨oe, vs, T, oT, ts, he, rfl, rfl, ⟨hd, hz⟩, hv, nT, nTe, hT, hdT, h3⟩ (Heap.UpToSlots.refl _))
    · rw [if_neg e0]
      refine wpAny_bind (air_mark a he hd hz hv nT nTe hT hdT h3 fun h1 a1 he1 _ u1 => ?_)
      exact air_entry (s := { s with heap := h1 }) fr fl a1 he1 hd hz fun h2 a2 x2 u2 => q h2 a2 x2 (u1.trans u2)
/-- the flight's mark -/
theorem air_flight {B : Heap} {l : List Env} {e : Addr} {C f0 : Value} {d : Option Addr} {o : Option Addr} {Q : Unit → Shared → Prop} (a : Air B l e s.heap) (x : ExOn B e C d f0 s.heap)
    (q : ∀ h', Air B l e h' → ExOn B e C d (o.elim .none fun f => rawInt f) h' → s.heap.UpToSlots h' → Q () { s with heap := h' }) : wpAny M A (setFlight (.ref e) o) Q E s := by
  obtain ⟨oe, vs, T, oT, ts, he, rfl, rfl, ⟨hd, hcx⟩, hv, nT, nTe, hT, hdT, h3⟩ := x
  unfold setFlight
  refine wpAny_bind (wpAny_field he hd hv ?_)
  rw [if_pos (show (Value.ref T != Value.none) = true from by simp)]
  exact air_mark a he hd hcx hv nT nTe hT hdT h3 fun h' a' _ x' u' => q h' a' x' u'
theorem Air.tail {B : Heap} {env : Env} {outer : List Env} {e : Addr} {h : Heap} (a : Air B (env :: outer) e h) : Air B outer e h := ⟨a.stays, a.new, a.frames.2.2⟩
/-- the frame is left -/
theorem air_leave {B : Heap} {env : Env} {outer : List Env} {L e : Addr} {C : Value} {d : Option Addr} {Q : Unit → Shared → Prop} (fr : A.frames = some (env :: outer)) (fl : env.frame = some L) (a : Air B (env :: outer) e s.heap) (x : ExAt B e C d s.heap)
    (q : ∀ h', Air B outer e h' → ExAt B e C d h' → s.heap.UpToSlots h' → Q () { s with heap := h' }) : wpAny M A (leaving env (.ref e)) Q E s := by
  unfold leaving
  refine wpAny_bind (air_note fr fl a x fun h1 a1 x1 u1 => ?_)
  exact air_flight (s := { s with heap := h1 }) a1 x1 fun h2 a2 x2 u2 => q h2 a2.tail x2.at (u1.trans u2)
end
/-- what was there ahead, and is kept in B; the frames up to their slots -/
structure UnB (fs : List Addr) (H H' : Hp) (h B h' : Heap) : Prop where
  keep : ∀ b o, h.get? b = some o → H b = none → b ∉ fs → B.get? b = some o
  slot : ∀ b o, h.get? b = some o → H b = none → b ∈ fs → ∃ sl, h'.get? b = some { o with slots := sl }
  free : ∀ b o, h.get? b = some o → H b = none → H' b = none
  there : ∀ b o, h.get? b = some o → b ∉ fs → ∃ o', B.get? b = some o'
  tups : ∀ b xs, H b = some (.tup xs) → H' b = some (.tup xs)
  frzs : ∀ b o u, H b = some (.frz o u) → H' b = some (.frz o u)
  tbls : ∀ b ps, H b = some (.tbl ps) → ∃ more, H' b = some (.tbl (ps ++ more))
/-- the exception e flies, over the frames at outer; H, s: ahead of the call; H': what is tracked now -/
structure Fly (P : Program) (w : World) (outer : List Env) (H : Hp) (s : Shared) (C : Value) (d : Option Addr) (H' : Hp) (e : Addr) (s' : Shared) : Prop where
  os : s'.os = s.os
  bare : AllBare s'.gens
  ex : ∃ B, Air B outer e s'.heap ∧ ExAt B e C d s'.heap ∧ HOk P w H' B ∧ UnB (frs outer) H H' s.heap B s'.heap
def CX1 (P : Program) (w : World) : CXT := fun outer H s E ev s' => ∃ e C d H', ev = .ref e ∧ Fly P w outer H s C d H' e s' ∧ E C d H'
end L2
namespace L2
open PySem PySem.Spec PyProof.Rows
abbrev vE : List Value := [.type "ValueError", .type "Exception", .type "BaseException", .type "object"]
/-- a class of the text under ValueError, without an __init__ of its own -/
def ExCls (K : PySem.W.Frag) (C : Addr) : Prop := PySem.W.excIn K C vE "ValueError.__new__" = true
theorem ExCls.obj {K : PySem.W.Frag} {C : Addr} {h : Heap} (q : ExCls K C) (k : K.In h) :
    ∃ bm N nm qn bs hd sn sub ab col dd k0 k1 k2 k3 k5 mN, h.get? C = some (excClassObj nm qn C N bs bm hd sn sub ab col dd k0 k1 k2 k3 k5 "ValueError.__new__") ∧ h.Ns N mN ∧ mN "__init__" = none ∧ OwnTail h vE bm := by
  unfold ExCls PySem.W.excIn at q
  split at q
  · rename_i dd cd sl ho
    split at q
    · rename_i C1 bm k0 k1 k2 k3 n k5 hm hs
      simp only [Bool.and_eq_true, beq_iff_eq, Bool.not_eq_true'] at q
      obtain ⟨⟨⟨⟨⟨e1, e2⟩, hdel⟩, ht⟩, hok⟩, hni⟩ := q
      subst e1 e2
      cases cd
      dsimp only at hm hdel hok hni
      subst hm hdel
      have esl : sl = #[k0, k1, k2, k3, some (.builtin "ValueError.__new__"), k5] := by
        cases sl
        simp only at hs
        rw [hs]
      subst esl
      exact ⟨bm, _, _, _, _, _, _, _, _, _, dd, k0, k1, k2, k3, k5, _, k _ _ ho, .of_isNs (PySem.W.isNs_of_in k hok), PySem.W.nsMap_none_of_in k hok hni, PySem.W.tail_of_in k ht⟩
    · cases q
  · cases q
/-- an exception just made here reaches what is wanted of exceptions -/
def Throws (X : Cx) (E : XK) : Prop := ∀ (pins : List (Addr × Obj)) (σ : St) (H : Hp) (s : Shared) (h' : Heap) (e : Addr) (C : Value) (args : List Value), Inv X pins σ H s → Heap.MadeExcOf s.heap h' e C args → E C none H → X.xe (.ref e) { s with heap := h' }
def tRaise (ta : TA) (C : Addr) (E : XK) : TS := fun _ σ H => ta σ H fun vs H1 => vs.length ≤ sizeLine ∧ E (.ref C) none H1
section
variable {X : Cx} {x : Str} {C : Addr} {e₀ : Expr} {rest : List Expr} {ta : TA} {E : XK} {np cpos pos : Pos}
theorem ps_raise (hc : X.calm = true) (hC : ExCls X.K C) (hg : Gl X x) (hm : X.mg x = some (.ref C)) (ht : Throws X E) (ha : PA X (e₀ :: rest) ta) (hdb : (x == ("__debug__" : Str)) = false := by decide)
    (he : starEach (e₀ :: rest) X.env = (false, eval e₀ X.env) :: starEach rest X.env := by rfl) (hpl : (backTo cpos (starEach rest X.env)).any (·.1) = false := by rfl) :
    PS X (.Raise (some (.Call (.Name x np) (e₀ :: rest) [] cpos)) none pos) (tRaise ta C E) := by
  intro pins s σ H D I h
  obtain ⟨bm, N, nm, qn, bs, hd, sn, sub, ab, col, dd, k0, k1, k2, k3, k5, mN, oC, nN, ni, TL⟩ := hC.obj I.mod.kin
  have FB := PySem.F.excBase_ValueError
  refine wpAny_Raise_call_subT (C := C) (nm := nm) (q := qn) (N := N) (bs := bs) (bm := bm) (hdct := hd) (sn := sn) (sub := sub) (ab := ab) (col := col) (dd := dd) (k0 := k0) (k1 := k1) (k2 := k2) (k3 := k3) (k5 := k5)
    FB (mN := mN) (TL.hasType FB.hasBase) (I.ok.hd hc) (by rw [he]; show (false || (backTo cpos (starEach rest X.env)).any (·.1)) = false; rw [hpl]; rfl) ni (ld_glob I hg hm ⟨rfl, ?_⟩ hdb)
  have hA := ha cpos pins s σ H _ I h
  rw [he] at hA ⊢
  refine Calls.evalArgs_plain (thn hA fun us s2 ⟨vs, H2, I2, r2, hz, q2⟩ => ⟨rfl, by rw [← r2.length]; exact hz, I2.bk _ _ oC, nN.keeps I2.bk, TL.keeps I2.bk, fun h' e hm => ht pins σ H2 s2 h' e _ _ I2 hm q2⟩)
end
/-- the tracked things lie in B -/
theorem hok_hide {P : Program} {w : World} {H : Hp} {h : Heap} {l : List Addr} (x : HOk P w H h) (fr : ∀ b ∈ l, H b = none) : HOk P w H (PySem.W.hideAll h l) := fun b u e => by
  refine (x b u e).stay (fun c v hc q => PySem.W.hideAll_get _ q fun z => ?_) (fun _ q => q) fun _ _ q => q
  rcases hc with hc | hc
  · rw [hc] at z
    rw [fr b z] at e; cases e
  · rw [fr c z] at hc; cases hc
section
variable {P : Program} {w : World} {K : PySem.W.Frag} {mg : Str → Option Value} {base : Heap} {N : List Str} {qual : Str} {scope : Scope} {f : Addr} {cd : Value} {A : Around} {outer : List Env} {s : Shared} {H : Hp} {E E' : XK}
/-- the frames of a def's body -/
theorem frs_cons {env : Env} {l : List Env} {L : Addr} (h : env.frame = some L) : frs (env :: l) = L :: frs l := by unfold frs; rw [List.filterMap_cons, h]
/-- behind the callee: what was ahead of the def is in B -/
theorem UnB.after {X : Cx} {pins : List (Addr × Obj)} {σ : St} {Hc H' : Hp} {sc : Shared} {B h' h2 : Heap} {e : Addr} (I : Inv X pins σ Hc sc) (hex : X.ex = []) (hst : X.stack = X.env :: X.outer) (hfr : X.env.frame = some X.env.locals)
    (a : Air B X.stack e h') (u : UnB (frs X.stack) Hc H' sc.heap B h') (up : h'.UpToSlots h2) : UnB (frs X.outer) X.H₀ H' X.s₀.heap B h2 := by
  have nex : ∀ b : Addr, b ∉ X.ex := fun b z => by rw [hex] at z; cases z
  have efr : frs X.stack = X.env.locals :: frs X.outer := by rw [hst, frs_cons hfr]
  have old : ∀ b o, X.s₀.heap.get? b = some o → b ∉ frs X.outer → b ∉ frs X.stack := fun b o q hb z => by
    rw [efr] at z
    rcases List.mem_cons.mp z with z | z
    · have l1 := Heap.lt_size q
      rw [z] at l1
      exact absurd (Nat.lt_of_lt_of_le l1 I.ok.above) (Nat.lt_irrefl _)
    · exact hb z
  have inn : ∀ b, b ∈ frs X.outer → b ∈ frs X.stack := fun b hb => by rw [efr]; exact List.mem_cons_of_mem _ hb
  exact {
    keep := fun b o q n hb => u.keep b o (I.base.keep b o q n hb (nex b)) (I.base.free b o q n (nex b)) (old b o q hb)
    slot := fun b o q n hb => by
      obtain ⟨sl, e1⟩ := I.base.slot b o q n hb (nex b)
      obtain ⟨sl2, e2⟩ := u.slot b _ e1 (I.base.free b o q n (nex b)) (inn b hb)
      obtain ⟨_, o3, e3, nf⟩ := a.frames.mem (inn b hb)
      have : o3 = { ({ o with slots := sl } : Obj) with slots := sl2 } := by rw [e2] at e3; exact (Option.some.inj e3).symm
      subst this
      obtain ⟨sl3, e4⟩ := up b _ e2 nf
      exact ⟨sl3, e4⟩
    free := fun b o q n => by
      obtain ⟨o1, e1⟩ := I.base.there b o q (nex b)
      exact u.free b o1 e1 (I.base.free b o q n (nex b))
    there := fun b o q hb => by
      obtain ⟨o1, e1⟩ := I.base.there b o q (nex b)
      exact u.there b o1 e1 (old b o q hb)
    tups := fun b xs q => u.tups b xs (I.base.tups b xs q)
    frzs := fun b o v q => u.frzs b o v (I.base.frzs b o v q)
    tbls := fun b ps q => by
      obtain ⟨m1, e1⟩ := I.base.tbls b ps q
      obtain ⟨m2, e2⟩ := u.tbls b _ e1
      exact ⟨m1 ++ m2, by rw [e2, Array.append_assoc]⟩ }
theorem pass1 (hE : ∀ C d H', E' C d H' → E C d H') : Passes (CX1 P w) (cxOf (CX1 P w) P w K mg base N qual scope f cd A outer s H E) E' := by
  rintro pins σ Hc sc ev s' I ⟨e, C, d, H', rfl, fly, hq⟩
  obtain ⟨B, a, x, hok, u⟩ := fly.ex
  refine air_leave (B := B) (L := s.heap.objs.size) I.ok.frames rfl a x fun h2 a2 x2 up => ?_
  exact ⟨e, C, d, H', rfl, ⟨fly.os.trans I.os, fly.bare, B, a2, x2, hok, UnB.after I rfl rfl rfl a u up⟩, hE _ _ _ hq⟩
/-- a raise: the frames hidden, all stays -/
theorem fly_made {X : Cx} {pins : List (Addr × Obj)} {σ : St} {Hc : Hp} {sc : Shared} {h' : Heap} {e : Addr} {C : Value} {args : List Value} (I : Inv X pins σ Hc sc) (m : Heap.MadeExcOf sc.heap h' e C args) :
    ∃ B, Air B X.stack e h' ∧ ExAt B e C none h' ∧ HOk X.prog X.w Hc B ∧ UnB (frs X.stack) Hc Hc sc.heap B h' := by
  have fr := I.stkFree
  refine ⟨PySem.W.hideAll sc.heap (frs X.stack), ⟨fun b o q => m.keeps _ _ (PySem.W.of_hideAll _ q), ?_, ?_⟩, ?_, hok_hide I.hok fr, ?_⟩
  · cases q : (PySem.W.hideAll sc.heap (frs X.stack)).get? e with
    | none => rfl
    | some o =>
      have := PySem.W.of_hideAll _ q
      rw [m.new] at this; cases this
  · refine (PySem.W.funFrames_hide I.stack fun env he a ha => List.mem_filterMap.mpr ⟨env, he, ha⟩).of_keeps fun b o q _ => ⟨o, m.keeps _ _ q, rfl⟩
  · obtain ⟨t, he, _, _⟩ := m.there
    exact ⟨_, _, he, rfl, rfl, rfl, by simp, .inl rfl⟩
  · exact ⟨fun b o q _ hb => PySem.W.hideAll_get _ q hb, fun b o q _ _ => ⟨o.slots, m.keeps _ _ q⟩, fun _ _ _ n => n, fun b o q hb => ⟨o, PySem.W.hideAll_get _ q hb⟩, fun _ _ q => q, fun _ _ _ q => q, fun _ ps q => ⟨#[], by simpa using q⟩⟩
theorem throw1 : Throws (cxOf (CX1 P w) P w K mg base N qual scope f cd A outer s H E) E := by
  intro pins σ Hc sc h' e C args I m hq
  obtain ⟨B, a, x, hok, u⟩ := fly_made I m
  refine air_leave (s := { sc with heap := h' }) (B := B) (L := s.heap.objs.size) I.ok.frames rfl a x fun h2 a2 x2 up => ?_
  exact ⟨e, C, none, Hc, rfl, ⟨I.os, I.bare, B, a2, x2, hok, UnB.after I rfl rfl rfl a u up⟩, hq⟩
end
/-- THE RULE for a def that may raise -/
theorem Fun.ok1 {P : Program} {w : World} {K : PySem.W.Frag} {mg : Str → Option Value} {base : Heap} {x qual : Str} {st : Stmt} {f : Addr} {fd : FuncData} {N ps : List Str} {k : Nat} {sp : Sp} (F : Fun K x qual st f fd) (S : FnScope N ps (defScope st)) (len : ∀ vs H Q E, sp vs H Q E → vs.length = ps.length)
    (hbody : ∀ (cdv : Value) (A : Around) (outer : List Env) (s : Shared) (H : Hp) (vs : List V) (Q : VK) (E : XK), Room k (A.deeper (envOfC qual (defScope st) s.heap.objs.size f cdv)) → sp vs H Q E →
      ∃ t, PSs (cxOf (CX1 P w) P w K mg base N qual (defScope st) f cdv A outer s H E) (defBody st) t ∧ t { nx := fun _ H' => Q .non H', rt := Q } (start N vs) H) : FnOk P w K mg base (CX1 P w) (k + 1) f fd ps sp := by
  obtain ⟨oc, od, kV, doc, pm, an, cdv, ct, osl, rfl, lk, hcd⟩ := F.ex
  exact fn_of lk hcd S len fun A outer s H vs Q E hr hsp => hbody cdv A outer s H vs Q E hr hsp
end L2
namespace L2
open PySem PySem.Spec PyProof.Rows
section
variable {X : Cx} {pins : List (Addr × Obj)} {σ : St} {H : Hp} {s : Shared} {W : Value → Shared → Prop} {e : Addr}
end
end L2
namespace L2
open PySem PySem.Spec PyProof.Rows
section
variable {X : Cx} {pins : List (Addr × Obj)} {σ : St} {H : Hp} {C : Value} {d : Option Addr} {e : Addr} {s : Shared}
end
section
variable {X : Cx} {x n : Str} {DA : Addr} {j : Nat} {b₀ : Stmt} {suite : List Stmt} {ts : Addr → TS} {tr : TH} {np hpos pos : Pos} {rest : List ExceptHandler}
end
section
variable {X : Cx} {CX : CXT} {k : Nat} {f : Addr} {fd : FuncData} {ps : List Str} {sp : Sp} {dvs : List V} {ds : List Value} {E : XK} {x : Str} {p pos : Pos} {e : Expr} {es : List Expr} {t : TA} {te : TE} {σ : St}
end
end L2
namespace L2
open PySem PySem.Spec PyProof.Rows
section
variable {prog : Program} {w : World} {A : Around} {E : Value → Shared → Prop} {s : Shared} {K : PySem.W.Frag} {x D : Addr} {ox : Obj} {od : Option Obj} {name : Str}
end
section
variable {X : Cx}
end
end L2
namespace L2
open PySem PySem.Spec PyProof.Rows
section
variable {X : Cx} {o e : Expr} {es : List Expr} {to : TE} {t : TA} {name : Str} {id : String} {r : V → List V → Hp → VK → Prop} {apos cpos : Pos}
theorem idx_first : ∀ (r : List Nat) (j i : Nat), j < r.idxOf i → r[j]? ≠ some i
  | [], j, i, h => by simp at h
  | a :: r, j, i, h => by
    by_cases e : a = i
    · subst e; simp at h
    · cases j with
      | zero => simp; exact e
      | succ j =>
        have h' : j < r.idxOf i := by
          rw [List.idxOf_cons] at h
          have : (a == i) = false := by simpa using e
          rw [this] at h
          simp at h
          exact h
        simpa using idx_first r j i h'
end
end L2
namespace L2
open PySem PySem.Spec PyProof.Rows
structure ClsF (K : PySem.W.Frag) (D : Addr) : Prop where
  ty : PySem.W.typeIn K (.ref D) = some (.type "type")
  cl : PySem.W.isClsIn K D = true
  be : PySem.W.subIn K (.ref D) (.type "BaseException") = some true
  ga : PySem.W.findIn K (.ref D) "__getattribute__" = some (some (.builtin "BaseException.__getattribute__"))
  gt : PySem.W.findIn K (.ref D) "__getattr__" = some none
  ac : PySem.W.findIn K (.ref D) "__class__" = some (some (.builtin "object.__class__"))
  sp : PySem.W.specialIn K (.builtin "object.__class__") "__get__" = some (some (.builtin "getset_descriptor.__get__"))
  tk : PySem.W.takesIn K (.builtin "object.__class__") = some true
  mo : PySem.W.mroIn K D (.type "object") = some true
end L2
namespace L2
open PySem PySem.Spec PyProof.Rows
def Bt (n : Nat) (i : Int) : Prop := i.natAbs < 2 ^ n
theorem Bt.mono {n m : Nat} {i : Int} (h : Bt n i) (l : n ≤ m) : Bt m i := Nat.lt_of_lt_of_le h (Nat.pow_le_pow_right (by decide) l)
theorem Bt.mul {n m : Nat} {i j : Int} (h : Bt n i) (g : Bt m j) : Bt (n + m) (i * j) := by
  unfold Bt at *
  rw [Int.natAbs_mul, Nat.pow_add]
  exact Nat.mul_lt_mul'' h g
theorem Bt.add {n : Nat} {i j : Int} (h : Bt n i) (g : Bt n j) : Bt (n + 1) (i + j) := by
  unfold Bt at *
  rw [Nat.pow_succ]
  generalize (2 : Nat) ^ n = k at h g ⊢
  omega
theorem Bt.le {n : Nat} {i j : Int} (h : Bt n j) (l : i.natAbs ≤ j.natAbs) : Bt n i := Nat.lt_of_le_of_lt l h
theorem Bt.log {n : Nat} {i : Int} (h : Bt n i) (h0 : i ≠ 0) : i.natAbs.log2 < n := (Nat.log2_lt (by omega)).mpr h
theorem Bt.bits {n : Nat} {i : Int} (h : Bt n i) : Builtin.Int.intBits i ≤ n := by
  unfold Builtin.Int.intBits
  by_cases e : (i == 0) = true
  · rw [if_pos e]; exact Nat.zero_le _
  · rw [if_neg e]; exact h.log (by simpa using e)
section
variable {X : Cx}
theorem op_mulB : OpR X (binaryOp .Mult) (rI (fun i j => Bt 4000 i ∧ Bt 4000 j) fun i j => .int (i * j)) := opI fun _ _ _ _ _ _ _ hc q =>
  mul_int q (IntMulOk.of_bits (Nat.le_trans hc.1.bits (by decide)) (Nat.le_trans hc.2.bits (by decide)))
theorem op_fdivB : OpR X (binaryOp .FloorDiv) (rI (fun _ j => j ≠ 0 ∧ Bt 4000 j) fun i j => .int (i.fdiv j)) := opI fun i j _ _ _ _ _ hc q =>
  floordiv_int hc.1 q (.inl (PyProof.noPylong_of_log2 (Nat.lt_of_lt_of_le (hc.2.log hc.1) (by decide))))
theorem call_isinstC : CallR X (.builtin "isinstance") (fun xs H Q => ∃ x c t b, xs = [x, .ref c] ∧ TyOf X.K H x t ∧ PySem.W.kitOne X.K t (.ref c) = some b ∧ Q (.bl b) H) := by
  intro pins s σ H xs us Q I r h
  obtain ⟨x, c, t, b, rfl, ty, e, q⟩ := h
  obtain ⟨u, w', rfl, ru, rc⟩ := vals2 r
  obtain rfl : w' = Value.ref c := rc
  exact isinst_ok I ru ty e fun tk => ⟨.bl b, H, I.tok _, rfl, q⟩
end
structure FunD (K : PySem.W.Frag) (x qual : Str) (st : Stmt) (dV : Value) (f : Addr) (fd : FuncData) : Prop where
  ex : ∃ (oc : Value) (od : Option Addr) (kV doc pm : Value) (an : Option Addr) (cdv ct : Value) (osl : Array (Option Value)),
    fd = PySem.W.fnOf x qual (defArgs st) (defBody st) (defScope st) dV kV doc pm an cdv ct ∧ K.lookup f = some ⟨oc, od, .func fd, osl⟩ ∧ PySem.W.codeIn K cdv qual = true
  kp : PySem.W.keepIn K (.ref f) = true
section
variable {P : Program} {w : World} {K : PySem.W.Frag} {mg : Str → Option Value} {base : Heap}
theorem FunD.ok1 {x qual : Str} {st : Stmt} {dV : Value} {f : Addr} {fd : FuncData} {N ps : List Str} {k : Nat} {sp : Sp} (F : FunD K x qual st dV f fd) (S : FnScope N ps (defScope st)) (len : ∀ vs H Q E, sp vs H Q E → vs.length = ps.length)
    (hbody : ∀ (cdv : Value) (A : Around) (outer : List Env) (s : Shared) (H : Hp) (vs : List V) (Q : VK) (E : XK), Room k (A.deeper (envOfC qual (defScope st) s.heap.objs.size f cdv)) → sp vs H Q E →
      ∃ t, PSs (cxOf (CX1 P w) P w K mg base N qual (defScope st) f cdv A outer s H E) (defBody st) t ∧ t { nx := fun _ H' => Q .non H', rt := Q } (start N vs) H) : FnOk P w K mg base (CX1 P w) (k + 1) f fd ps sp := by
  obtain ⟨oc, od, kV, doc, pm, an, cdv, ct, osl, rfl, lk, hcd⟩ := F.ex
  exact fn_of lk hcd S len fun A outer s H vs Q E hr hsp => hbody cdv A outer s H vs Q E hr hsp
theorem funD_mk {x qual : Str} {st : Stmt} {dV : Value} {f : Addr} {oc : Value} {od an : Option Addr} {osl : Array (Option Value)} {kV doc pm cdv ct : Value} (l : K.lookup f = some ⟨oc, od, .func (PySem.W.fnOf x qual (defArgs st) (defBody st) (defScope st) dV kV doc pm an cdv ct), osl⟩)
    (c : PySem.W.codeIn K cdv qual = true) (k : PySem.W.keepIn K (.ref f) = true) : FunD K x qual st dV f (PySem.W.fnOf x qual (defArgs st) (defBody st) (defScope st) dV kV doc pm an cdv ct) := ⟨⟨oc, od, kV, doc, pm, an, cdv, ct, osl, rfl, l, c⟩, k⟩
end
/-- what is called never raises -/
theorem passE0 {P : Program} {w : World} {X : Cx} : Passes (CX1 P w) X E0 := by rintro _ _ _ _ _ _ _ ⟨_, _, _, _, _, _, z⟩; exact z.elim
/-- a method as the top has left it -/
structure MFn (K : PySem.W.Frag) (C : Addr) (m qual : Str) (st : Stmt) (ps : List Str) (f : Addr) (fd : FuncData) : Prop where
  F : Fun K m qual st f fd
  b : Binds K fd ps []
  m : Meth K C m f
end L2
namespace Sq
/-- what both are divided by -/
def dv (t b : Int) : Int := if b < 0 then -((Int.gcd t b : Nat) : Int) else ((Int.gcd t b : Nat) : Int)
def lowT (t b : Int) : Int := t.fdiv (dv t b)
def lowB (t b : Int) : Int := b.fdiv (dv t b)
theorem gcd_pos {t b : Int} (h : b ≠ 0) : 0 < Int.gcd t b := Int.gcd_pos_of_ne_zero_right t h
theorem dv_abs (t b : Int) : (dv t b).natAbs = Int.gcd t b := by unfold dv; split <;> omega
theorem dv_ne {t b : Int} (h : b ≠ 0) : dv t b ≠ 0 := by
  have := gcd_pos (t := t) h
  have := dv_abs t b
  omega
theorem dv_dvd_l (t b : Int) : dv t b ∣ t := by
  have : ((Int.gcd t b : Nat) : Int) ∣ t := Int.gcd_dvd_left t b
  unfold dv
  split
  · exact Int.neg_dvd.mpr this
  · exact this
theorem dv_dvd_r (t b : Int) : dv t b ∣ b := by
  have : ((Int.gcd t b : Nat) : Int) ∣ b := Int.gcd_dvd_right t b
  unfold dv
  split
  · exact Int.neg_dvd.mpr this
  · exact this
theorem lowT_mul (t b : Int) : lowT t b * dv t b = t := Int.fdiv_mul_cancel (dv_dvd_l t b)
theorem lowB_mul (t b : Int) : lowB t b * dv t b = b := Int.fdiv_mul_cancel (dv_dvd_r t b)
theorem pos_l {x k : Int} (h : 0 < k) (h2 : 0 < x * k) : 0 < x := by
  rcases (show 0 < x ∨ x ≤ 0 by omega) with l | l
  · exact l
  · have := Int.mul_le_mul_of_nonneg_right l (Int.le_of_lt h)
    rw [Int.zero_mul] at this
    omega
theorem lowB_pos {t b : Int} (h : b ≠ 0) : 0 < lowB t b := by
  have e := lowB_mul t b
  have g := gcd_pos (t := t) h
  unfold dv at e
  by_cases hb : b < 0
  · rw [if_pos hb] at e
    have : lowB t b * ((Int.gcd t b : Nat) : Int) = -b := by rw [Int.mul_neg] at e; omega
    exact pos_l (k := ((Int.gcd t b : Nat) : Int)) (by omega) (by omega)
  · rw [if_neg hb] at e
    exact pos_l (k := ((Int.gcd t b : Nat) : Int)) (by omega) (by omega)
theorem abs_le_mul {x d : Int} (h : d ≠ 0) : x.natAbs ≤ (x * d).natAbs := by
  rw [Int.natAbs_mul]
  exact Nat.le_mul_of_pos_right _ (by omega)
theorem lowT_le {t b : Int} (h : b ≠ 0) : (lowT t b).natAbs ≤ t.natAbs := by
  have := abs_le_mul (x := lowT t b) (dv_ne (t := t) h)
  rwa [lowT_mul] at this
theorem lowB_le {t b : Int} (h : b ≠ 0) : (lowB t b).natAbs ≤ b.natAbs := by
  have := abs_le_mul (x := lowB t b) (dv_ne (t := t) h)
  rwa [lowB_mul] at this
theorem dv_pos {t b : Int} (h : 0 < b) : 0 < dv t b := by
  have := gcd_pos (t := t) (b := b) (by omega)
  unfold dv; rw [if_neg (by omega)]; omega
theorem dv_scale {t b k : Int} (h : 0 < k) : dv (t * k) (b * k) = dv t b * k := by
  unfold dv
  rw [Int.gcd_mul_right]
  have e : ((Int.gcd t b * k.natAbs : Nat) : Int) = ((Int.gcd t b : Nat) : Int) * k := by rw [Int.natCast_mul, Int.natAbs_of_nonneg (by omega)]
  rw [e]
  by_cases hb : b < 0
  · have : b * k < 0 := Int.mul_neg_of_neg_of_pos hb h
    rw [if_pos this, if_pos hb, Int.neg_mul]
  · have : ¬ b * k < 0 := Int.not_lt.mpr (Int.mul_nonneg (by omega) (by omega))
    rw [if_neg this, if_neg hb]
theorem low_scale {t b k : Int} (hb : b ≠ 0) (h : 0 < k) : lowT (t * k) (b * k) = lowT t b ∧ lowB (t * k) (b * k) = lowB t b := by
  have hd : dv t b * k ≠ 0 := Int.mul_ne_zero (dv_ne hb) (by omega)
  constructor
  · have e := lowT_mul (t * k) (b * k)
    rw [dv_scale h] at e
    have e2 : lowT t b * (dv t b * k) = t * k := by rw [← Int.mul_assoc, lowT_mul]
    exact Int.eq_of_mul_eq_mul_right hd (e.trans e2.symm)
  · have e := lowB_mul (t * k) (b * k)
    rw [dv_scale h] at e
    have e2 : lowB t b * (dv t b * k) = b * k := by rw [← Int.mul_assoc, lowB_mul]
    exact Int.eq_of_mul_eq_mul_right hd (e.trans e2.symm)
/-- alike fractions have the same lowest terms -/
theorem low_eq {a b c d : Int} (hb : 0 < b) (hd : 0 < d) (h : a * d = c * b) : lowT a b = lowT c d ∧ lowB a b = lowB c d := by
  have h1 := low_scale (t := a) (b := b) (k := d) (by omega) hd
  have h2 := low_scale (t := c) (b := d) (k := b) (by omega) hb
  rw [h, Int.mul_comm b d] at h1
  exact ⟨h1.1.symm.trans h2.1, h1.2.symm.trans h2.2⟩
theorem low_low {a b : Int} (hb : 0 < b) : lowT (lowT a b) (lowB a b) = lowT a b ∧ lowB (lowT a b) (lowB a b) = lowB a b :=
  low_eq (lowB_pos (by omega)) hb (by
    have e1 := lowT_mul a b
    have e2 := lowB_mul a b
    generalize lowT a b = x at *; generalize lowB a b = y at *; generalize dv a b = p at *
    subst e1 e2
    grind)
end Sq
namespace Sq
end Sq
namespace K1
open PySem L2 Sq
abbrev sPInit : Stmt := inClass sPart 0
theorem tb_ne : ¬ (("top" : Str) = "bottom") := by decide +kernel
def flds (t b : Int) : List (Str × V) := putF "bottom" (.int b) (putF "top" (.int t) [])
theorem flds_top (t b : Int) : (flds t b).lookup ("top" : Str) = some (.int t) := by
  unfold flds
  rw [lookup_putF, if_neg tb_ne, lookup_putF, if_pos rfl]
theorem flds_bot (t b : Int) : (flds t b).lookup ("bottom" : Str) = some (.int b) := by
  unfold flds
  rw [lookup_putF, if_pos rfl]
theorem flds_no (t b : Int) {m : Str} (h1 : ¬ m = "bottom") (h2 : ¬ m = "top") : (flds t b).lookup m = none := by
  unfold flds
  rw [lookup_putF, if_neg h1, lookup_putF, if_neg h2]
  all_goals rfl
/-- a Part stands at p -/
def PtAt (C : Addr) (H : Hp) (p : Addr) (t b : Int) : Prop := ∃ dx, H p = some (.ins C dx (flds t b))
theorem PtAt.same {C p : Addr} {H H' : Hp} {t b : Int} (h : PtAt C H p t b) (s : Same H H') : PtAt C H' p t b := let ⟨dx, e⟩ := h; ⟨dx, s _ _ e⟩
/-- what is asked of the class as the top has made it -/
structure PTx (K : PySem.W.Frag) (mg : Str → Option Value) (C : Addr) : Prop where
  cl : Cls K C
  nT : NoAttr K C "top"
  nB : NoAttr K C "bottom"
  mgC : mg "Part" = some (.ref C)
  kt : PySem.W.kitOne K (.ref C) (.ref C) = some true
  ha : PySem.W.findIn K (.ref C) "__class__" = some (some (.builtin "object.__class__"))
  hn : PySem.W.specialIn K (.builtin "object.__class__") "__get__" = some (some (.builtin "getset_descriptor.__get__"))
  htk : PySem.W.takesIn K (.builtin "object.__class__") = some true
  hm : PySem.W.mroIn K C (.type "object") = some true
end K1
namespace K1
open PySem L2 Sq
def spCd : Sp := fun vs H Q _ => ∃ a b : Int, vs = [.int a, .int b] ∧ Q (.int ((Int.gcd a b : Nat) : Int)) H
section
variable {P : Program} {w : World} {K : PySem.W.Frag} {mg : Str → Option Value} {base : Heap}
abbrev nCd : List Str := ["one", "other", "greater", "lesser", "left_over"]
theorem scCd : FnScope nCd ["one", "other"] (defScope sCommonDivisor) := ⟨rfl, rfl, rfl, by decide +kernel, rfl, by decide +kernel, by decide +kernel⟩
theorem boot_abs : bootBuiltins "abs" = some (.builtin "abs") := by decide +kernel
theorem ok_cd {f : Addr} {fd : FuncData} (hA : mg "abs" = none) (F : Fn K mg "common_divisor" sCommonDivisor ["one", "other"] f fd) : FnOk P w K mg base CX0 1 f fd ["one", "other"] spCd := by
  refine F.F.ok scCd (fun vs H Q E h => ?_) (fun cdv A outer s H vs Q E hr h => ?_)
  · obtain ⟨a, b, rfl, _⟩ := h; rfl
  · obtain ⟨a, b, rfl, k⟩ := h
    refine ⟨_, pss_cons (ps_set (i := 2) scCd.nd rfl (Or.inl rfl) (pe_callB call_abs rfl hA boot_abs (pa_cons (pv 0) pa_nil)))
      (pss_cons (ps_set (i := 3) scCd.nd rfl (Or.inl rfl) (pe_callB call_abs rfl hA boot_abs (pa_cons (pv 1) pa_nil)))
      (pss_cons (ps_while PassesOwn.never (pt_cmpR op_ne (pv 3) pe_int (nomark _))
        (pss_cons (ps_set (i := 4) scCd.nd rfl (Or.inl rfl) (pe_op op_mod (pv 2) (pv 3)))
        (pss_cons (ps_set (i := 2) scCd.nd rfl (Or.inl rfl) (pv 3))
        (pss_one (ps_set (i := 3) scCd.nd rfl (Or.inl rfl) (pv 4))))))
      (pss_one (ps_ret (pv 2))))), ?_⟩
    refine ⟨_, rfl, _, rfl, _, rfl, _, rfl, ?_⟩
    have abs : ∀ i : Int, (if i < 0 then -i else i) = ((i.natAbs : Nat) : Int) := fun i => by split <;> omega
    rw [abs a, abs b]
    refine while_by (fun σ H' => H' = H ∧ ∃ (x y : Nat) (o : Option V), σ = [some (.int a), some (.int b), some (.int (x : Int)), some (.int (y : Int)), o] ∧ Nat.gcd x y = Int.gcd a b)
      (fun σ _ => match σ with | [_, _, _, some (.int y), _] => y.natAbs | _ => 0) ⟨rfl, _, _, none, rfl, rfl⟩ ?_ ?_
    · rintro σ H' ⟨rfl, x, y, o, rfl, hg⟩
      refine ⟨_, rfl, rfl, _, rfl, ?_⟩
      refine ite2 (fun h => ?_) (fun h => ?_)
      · have hy : (y : Int) ≠ 0 := by simpa using h
        refine ⟨_, rfl, _, rfl, _, _, rfl, rfl, (by show (0 : Int) < (y : Int); omega), ?_⟩
        refine ⟨_, rfl, _, rfl, ?_⟩
        refine ⟨⟨rfl, y, x % y, some (.int ((x % y : Nat) : Int)), by simp [Int.natCast_emod], ?_⟩, ?_⟩
        · rw [← hg, Nat.gcd_comm x y, Nat.gcd_rec y x, Nat.gcd_comm]
        · show ((x : Int) % (y : Int)).natAbs < ((y : Int)).natAbs
          have := Nat.mod_lt x (show 0 < y by omega)
          rw [← Int.natCast_emod, Int.natAbs_natCast, Int.natAbs_natCast]; exact this
      · have hy : (y : Int) = 0 := by simpa using h
        have : y = 0 := by omega
        subst this
        rw [Nat.gcd_zero_right] at hg
        refine ⟨_, rfl, ?_⟩
        rw [hg]; exact k
    · rintro σ H' Q1 Q2 hq ⟨x, e1, e2, y, e3, e4⟩
      exact ⟨x, e1, e2, y, e3, hq _ _ e4⟩
end
end K1
namespace K1
open PySem L2 Sq
end K1
namespace K1
open PySem L2 Sq
theorem fr_whole {i B : Int} (hB : 0 < B) : lowT i B / lowB i B = i / B := by
  have e1 := lowT_mul i B
  have e2 := lowB_mul i B
  have hd := dv_pos (t := i) hB
  generalize lowT i B = z at *; generalize lowB i B = u at *; generalize dv i B = p at *
  have e3 : i / B = z / u := by rw [← e1, ← e2, Int.mul_comm z p, Int.mul_comm u p, Int.mul_ediv_mul_of_pos _ _ hd]
  rw [e3]
end K1
namespace Sq
def sid (U a s : Int) : Int := if 0 < s then (U - a) / s else if s < 0 then a / -s else U
def ou (p U x : Int) : Int := if p < 0 ∧ x = 0 then U else x
def z0 (U x : Int) : Int := if x = U then 0 else x
def lo (p x : Int) (c : Nat) : List Nat := if p < 0 ∧ x = 0 then [c] else []
def li (U x : Int) (c : Nat) : List Nat := if x = U then [c] else []
structure WS where
  x : Int
  y : Int
  t : Int
  w : List Nat
def room (p q U M : Int) (s : WS) : Int := min (min (sid U (ou p U s.x) p) (sid U (ou q U s.y) q)) (M - s.t)
def stp (p q U M : Int) (s : WS) : WS := ⟨z0 U (ou p U s.x + p * room p q U M s), z0 U (ou q U s.y + q * room p q U M s), s.t + room p q U M s,
  s.w ++ (lo p s.x 0 ++ (lo q s.y 1 ++ (li U (ou p U s.x + p * room p q U M s) 2 ++ li U (ou q U s.y + q * room p q U M s) 3)))⟩
def ws (p q U M X Y : Int) : Nat → WS
  | 0 => ⟨X, Y, 0, []⟩
  | i + 1 => stp p q U M (ws p q U M X Y i)
structure WIn (p q U M : Int) (s : WS) : Prop where
  x0 : 0 ≤ s.x
  x1 : s.x < U
  y0 : 0 ≤ s.y
  y1 : s.y < U
  t0 : 0 ≤ s.t
  t1 : s.t ≤ M
  px : p ≠ 0 → p ∣ s.x
  qy : q ≠ 0 → q ∣ s.y
/-- what a direction and a unit must be -/
structure WOk (p q U : Int) : Prop where
  u : 0 < U
  n : ¬ (p = 0 ∧ q = 0)
  p : p ≠ 0 → p ∣ U
  q : q ≠ 0 → q ∣ U
theorem ou_ge {p U x : Int} (hU : 0 < U) (h0 : 0 ≤ x) (h1 : x < U) : 0 ≤ ou p U x ∧ ou p U x ≤ U := by
  unfold ou; split <;> omega
theorem ou_dvd {p U x : Int} (hU : p ∣ U) (hx : p ∣ x) : p ∣ ou p U x := by
  unfold ou; split
  · exact hU
  · exact hx
theorem sid_pos {p U x : Int} (hU : 0 < U) (h0 : 0 ≤ x) (h1 : x < U) (dU : p ≠ 0 → p ∣ U) (dx : p ≠ 0 → p ∣ x) : 1 ≤ sid U (ou p U x) p := by
  unfold sid
  by_cases hp : 0 < p
  · rw [if_pos hp]
    have e : ou p U x = x := by unfold ou; rw [if_neg (by omega)]
    rw [e]
    obtain ⟨k, hk⟩ := Int.dvd_sub (dU (by omega)) (dx (by omega))
    rw [hk, Int.mul_ediv_cancel_left _ (by omega)]
    have : 0 < p * k := by omega
    exact Int.pos_of_mul_pos_right this (by omega)
  · rw [if_neg hp]
    by_cases hn : p < 0
    · rw [if_pos hn]
      have hpos : 0 < ou p U x := by unfold ou; split <;> omega
      obtain ⟨k, hk⟩ := ou_dvd (dU (by omega)) (dx (by omega))
      have e : ou p U x = (-p) * (-k) := by rw [hk]; rw [Int.neg_mul_neg]
      rw [e, Int.mul_ediv_cancel_left _ (by omega)]
      rw [e] at hpos
      exact Int.pos_of_mul_pos_right hpos (by omega)
    · rw [if_neg hn]; omega
theorem sid_in {p U x m : Int} (hU : 0 < U) (h0 : 0 ≤ x) (h1 : x < U) (hm : 1 ≤ m) (hs : m ≤ sid U (ou p U x) p) : 0 ≤ ou p U x + p * m ∧ ou p U x + p * m ≤ U ∧ (p ≤ 0 → ou p U x + p * m < U) := by
  unfold sid at hs
  have ho := ou_ge (p := p) hU h0 h1
  by_cases hp : 0 < p
  · rw [if_pos hp] at hs
    have := Int.mul_le_of_le_ediv hp hs
    have e : m * p = p * m := Int.mul_comm _ _
    have : 0 ≤ p * m := Int.mul_nonneg (by omega) (by omega)
    refine ⟨by omega, by omega, fun z => by omega⟩
  · rw [if_neg hp] at hs
    by_cases hn : p < 0
    · rw [if_pos hn] at hs
      have h2 := Int.mul_le_of_le_ediv (show 0 < -p by omega) hs
      have e : m * -p = -(p * m) := by rw [Int.mul_neg, Int.mul_comm]
      have h3 : 1 * 1 ≤ m * -p := Int.mul_le_mul hm (by omega) (by omega) (by omega)
      refine ⟨by omega, by omega, fun _ => by omega⟩
    · have e : p = 0 := by omega
      subst e
      have e2 : ou 0 U x = x := by unfold ou; rw [if_neg (by omega)]
      rw [e2, Int.zero_mul]
      exact ⟨by omega, by omega, fun _ => by omega⟩
theorem z0_in {U x : Int} (hU : 0 < U) (h0 : 0 ≤ x) (h1 : x ≤ U) : 0 ≤ z0 U x ∧ z0 U x < U := by
  unfold z0; split <;> omega
theorem z0_dvd {p U x : Int} (h : p ∣ x) : p ∣ z0 U x := by
  unfold z0; split
  · exact Int.dvd_zero p
  · exact h
theorem room_pos {p q U M : Int} {s : WS} (o : WOk p q U) (h : WIn p q U M s) (ht : s.t < M) : 1 ≤ room p q U M s := by
  have a := sid_pos o.u h.x0 h.x1 o.p h.px
  have b := sid_pos o.u h.y0 h.y1 o.q h.qy
  unfold room; omega
theorem stp_in {p q U M : Int} {s : WS} (o : WOk p q U) (h : WIn p q U M s) (ht : s.t < M) : WIn p q U M (stp p q U M s) ∧ s.t < (stp p q U M s).t := by
  have m1 := room_pos o h ht
  have ha : room p q U M s ≤ sid U (ou p U s.x) p := by unfold room; omega
  have hb : room p q U M s ≤ sid U (ou q U s.y) q := by unfold room; omega
  have hc : room p q U M s ≤ M - s.t := by unfold room; omega
  obtain ⟨a1, a2, _⟩ := sid_in o.u h.x0 h.x1 m1 ha
  obtain ⟨b1, b2, _⟩ := sid_in o.u h.y0 h.y1 m1 hb
  have za := z0_in o.u a1 a2
  have zb := z0_in o.u b1 b2
  have := h.t0
  refine ⟨⟨za.1, za.2, zb.1, zb.2, ?_, ?_, fun hp => ?_, fun hq => ?_⟩, ?_⟩
  · show 0 ≤ s.t + room p q U M s; omega
  · show s.t + room p q U M s ≤ M; omega
  · exact z0_dvd (Int.dvd_add (ou_dvd (o.p hp) (h.px hp)) (Int.dvd_mul_right p _))
  · exact z0_dvd (Int.dvd_add (ou_dvd (o.q hq) (h.qy hq)) (Int.dvd_mul_right q _))
  · show s.t < s.t + room p q U M s; omega
def lt4 (r u : List Nat) (s c : Nat) : Nat := if c = 0 then nx (back r) s else if c = 1 then nx (back u) s else if c = 2 then nx r s else nx u s
def app4 (r u : List Nat) (w : List Nat) (s : Nat) : Nat := w.foldl (lt4 r u) s
theorem app4_add (r u w w' : List Nat) (s : Nat) : app4 r u (w ++ w') s = app4 r u w' (app4 r u w s) := by unfold app4; rw [List.foldl_append]
theorem lt4_lt {n : Nat} {r u : List Nat} (hr : Row n r) (hu : Row n u) {s : Nat} (hs : s < n) (c : Nat) : lt4 r u s c < n := by
  unfold lt4
  split
  · exact hr.back.nlt hs
  split
  · exact hu.back.nlt hs
  split
  · exact hr.nlt hs
  · exact hu.nlt hs
theorem app4_lt {n : Nat} {r u : List Nat} (hr : Row n r) (hu : Row n u) : ∀ (w : List Nat) {s : Nat}, s < n → app4 r u w s < n
  | [], _, h => h
  | c :: w, s, h => app4_lt hr hu w (lt4_lt hr hu h c)
theorem app4_lo (r u : List Nat) (p x : Int) (s : Nat) : app4 r u (lo p x 0) s = if p < 0 ∧ x = 0 then nx (back r) s else s := by
  unfold lo; split <;> rfl
theorem app4_lo1 (r u : List Nat) (p x : Int) (s : Nat) : app4 r u (lo p x 1) s = if p < 0 ∧ x = 0 then nx (back u) s else s := by
  unfold lo; split <;> rfl
theorem app4_li (r u : List Nat) (U x : Int) (s : Nat) : app4 r u (li U x 2) s = if x = U then nx r s else s := by
  unfold li; split <;> rfl
theorem app4_li1 (r u : List Nat) (U x : Int) (s : Nat) : app4 r u (li U x 3) s = if x = U then nx u s else s := by
  unfold li; split <;> rfl
def c4 (c : Nat) (w : List Nat) : Int := (w.count c : Int)
theorem c4_app (c : Nat) (w w' : List Nat) : c4 c (w ++ w') = c4 c w + c4 c w' := by unfold c4; rw [List.count_append]; omega
theorem c4_lo (c d : Nat) (p x : Int) : c4 c (lo p x d) = if (p < 0 ∧ x = 0) ∧ d = c then 1 else 0 := by
  unfold lo c4
  by_cases h : p < 0 ∧ x = 0
  · rw [if_pos h]
    by_cases e : d = c
    · subst e; rw [if_pos ⟨h, rfl⟩]; simp
    · rw [if_neg fun z => e z.2]; simp [e]
  · rw [if_neg h, if_neg fun z => h z.1]; rfl
theorem c4_li (c d : Nat) (U x : Int) : c4 c (li U x d) = if x = U ∧ d = c then 1 else 0 := by
  unfold li c4
  by_cases h : x = U
  · rw [if_pos h]
    by_cases e : d = c
    · subst e; rw [if_pos ⟨h, rfl⟩]; simp
    · rw [if_neg fun z => e z.2]; simp [e]
  · rw [if_neg h, if_neg fun z => h z.1]; rfl
theorem stp_x {p q U M : Int} {s : WS} : (stp p q U M s).x + U * (c4 2 (stp p q U M s).w - c4 0 (stp p q U M s).w) = s.x + U * (c4 2 s.w - c4 0 s.w) + p * room p q U M s := by
  show z0 U (ou p U s.x + p * room p q U M s) + U * (c4 2 (s.w ++ _) - c4 0 (s.w ++ _)) = _
  simp only [c4_app, c4_lo, c4_li]
  generalize room p q U M s = m
  unfold z0 ou
  generalize c4 2 s.w = a
  generalize c4 0 s.w = b
  have e1 : U * (a - b) = U * a - U * b := Int.mul_sub _ _ _
  by_cases h : p < 0 ∧ s.x = 0
  · by_cases k : U + p * m = U
    · simp [h, k, Int.mul_sub, Int.mul_add]; omega
    · simp [h, k, Int.mul_sub, Int.mul_add]; omega
  · by_cases k : s.x + p * m = U
    · simp [h, k, Int.mul_sub, Int.mul_add]; omega
    · simp [h, k, Int.mul_sub, Int.mul_add]; omega
theorem stp_y {p q U M : Int} {s : WS} : (stp p q U M s).y + U * (c4 3 (stp p q U M s).w - c4 1 (stp p q U M s).w) = s.y + U * (c4 3 s.w - c4 1 s.w) + q * room p q U M s := by
  show z0 U (ou q U s.y + q * room p q U M s) + U * (c4 3 (s.w ++ _) - c4 1 (s.w ++ _)) = _
  simp only [c4_app, c4_lo, c4_li]
  generalize room p q U M s = m
  unfold z0 ou
  generalize c4 3 s.w = a
  generalize c4 1 s.w = b
  by_cases h : q < 0 ∧ s.y = 0
  · by_cases k : U + q * m = U
    · simp [h, k, Int.mul_sub, Int.mul_add]; omega
    · simp [h, k, Int.mul_sub, Int.mul_add]; omega
  · by_cases k : s.y + q * m = U
    · simp [h, k, Int.mul_sub, Int.mul_add]; omega
    · simp [h, k, Int.mul_sub, Int.mul_add]; omega
theorem ws_x (p q U M X Y : Int) : ∀ i, (ws p q U M X Y i).x + U * (c4 2 (ws p q U M X Y i).w - c4 0 (ws p q U M X Y i).w) = X + p * (ws p q U M X Y i).t
  | 0 => by show X + U * (0 - 0) = X + p * 0; simp
  | i + 1 => by
    have ih := ws_x p q U M X Y i
    have h := stp_x (p := p) (q := q) (U := U) (M := M) (s := ws p q U M X Y i)
    show (stp p q U M (ws p q U M X Y i)).x + U * (c4 2 (stp p q U M (ws p q U M X Y i)).w - c4 0 (stp p q U M (ws p q U M X Y i)).w) = X + p * ((ws p q U M X Y i).t + room p q U M (ws p q U M X Y i))
    rw [h, ih, Int.mul_add]; omega
theorem ws_y (p q U M X Y : Int) : ∀ i, (ws p q U M X Y i).y + U * (c4 3 (ws p q U M X Y i).w - c4 1 (ws p q U M X Y i).w) = Y + q * (ws p q U M X Y i).t
  | 0 => by show Y + U * (0 - 0) = Y + q * 0; simp
  | i + 1 => by
    have ih := ws_y p q U M X Y i
    have h := stp_y (p := p) (q := q) (U := U) (M := M) (s := ws p q U M X Y i)
    show (stp p q U M (ws p q U M X Y i)).y + U * (c4 3 (stp p q U M (ws p q U M X Y i)).w - c4 1 (stp p q U M (ws p q U M X Y i)).w) = Y + q * ((ws p q U M X Y i).t + room p q U M (ws p q U M X Y i))
    rw [h, ih, Int.mul_add]; omega
end Sq
namespace Sq
theorem ws_in {p q U M X Y : Int} (o : WOk p q U) (h0 : WIn p q U M ⟨X, Y, 0, []⟩) : ∀ i, (∀ j, j < i → (ws p q U M X Y j).t < M) → WIn p q U M (ws p q U M X Y i)
  | 0, _ => h0
  | i + 1, h => (stp_in o (ws_in o h0 i fun j hj => h j (by omega)) (h i (by omega))).1
end Sq
namespace L2
open PySem PySem.Spec PyProof.Rows
section
variable {X : Cx}
def rIndexL : V → List V → Hp → VK → Prop := fun x vs H Q => ∃ (p : Addr) (r : List Nat) (i : Nat), x = .ref p ∧ vs = [.int (i : Int)] ∧ H p = some (.lst (nv r)) ∧ i ∈ r ∧ Q (.int (r.idxOf i : Nat)) H
def eInt (i : Int) : Value → Bool
  | .int m _ => m == i
  | _ => false
theorem mt_indexL : MtR X "list.index" rIndexL := by
  intro pins s σ H x vs v us Q I rx rv h
  obtain ⟨p, r, i, rfl, rfl, hp, hi, q⟩ := h
  cases rx
  obtain ⟨u, rfl, t, rfl⟩ := rv.one
  obtain ⟨z, its, n, r', hl, e⟩ := I.lstM hp
  have hlen : its.length = r.length := by rw [← r'.length, nv_len]
  have item : ∀ (j : Nat) (hj : j < its.length), ∃ (m : Nat) (t : Tok), r[j]? = some m ∧ its[j] = .int (m : Int) t := fun j hj => by
    have hj' : j < r.length := by rw [← hlen]; exact hj
    obtain ⟨u, hu, ru⟩ := r'.get (nv_get (List.getElem?_eq_getElem hj'))
    rw [List.getElem?_eq_getElem hj] at hu
    obtain ⟨t, ht⟩ := ru
    exact ⟨_, t, List.getElem?_eq_getElem hj', (Option.some.inj hu).trans ht⟩
  have hil := List.idxOf_lt_length_of_mem hi
  have hlt : r.idxOf i < its.length := by rw [hlen]; exact hil
  have hz63 : (sizeLine : Nat) ≤ 2 ^ 62 := by decide
  refine call_meets PySem.F.slot_list_index ⟨_, e, rfl⟩ PySem.F.entry_list_index (PySem.F.args_list_index_2 _ _) (SeqAt.list_indexAt p its.toArray n none #[] (.int (i : Int) t) (eInt (i : Int)) (r.idxOf i) (by rw [List.size_toArray]; exact hlt) (by
      have : nv r = nv r := rfl
      have hl2 : (nv r).length ≤ sizeLine := z
      rw [nv_len] at hl2
      omega) ?_ (fun m hm hlt' => ?_)) ⟨e, fun y hy => ?_, ?_⟩
  · obtain ⟨m, t', hm, ey⟩ := item _ hlt
    rw [List.getElem_toArray, ey]
    rw [List.getElem?_eq_getElem hil, List.getElem_idxOf hil] at hm
    show ((m : Int) == (i : Int)) = true
    rw [← Option.some.inj hm]; simp
  · have hm' : m < its.length := by simpa using hm
    obtain ⟨k, t', hk, ey⟩ := item m hm'
    rw [List.getElem_toArray, ey]
    show ((k : Int) == (i : Int)) = false
    have hne : k ≠ i := fun z => idx_first r m i hlt' (by rw [← z]; exact hk)
    simp; omega
  · have hy : y ∈ its := by simpa using hy
    obtain ⟨j, hj, ey⟩ := List.mem_iff_getElem.mp hy
    obtain ⟨m, t', _, e2⟩ := item j hj
    rw [← ey, e2]
    exact SeqAt.EqAt.int_int (m : Int) t' (i : Int) t
  · exact ⟨.int (r.idxOf i : Nat), H, I.tok _, ⟨_, rfl⟩, q⟩
end
end L2
namespace L2
open PySem PySem.Spec PyProof.Rows
section
variable {X : Cx} {elts : List Expr} {k : Nat} {tpos : Pos}
end
end L2
namespace L2
open PySem PySem.Spec PyProof.Rows
section
variable {X : Cx}
end
end L2
namespace L2
open PySem PySem.Spec PyProof.Rows
section
variable {X : Cx}
theorem boot_max : bootBuiltins "max" = some (.builtin "max") := by decide +kernel
end
end L2
namespace L2
open PySem PySem.Spec PyProof.Rows
end L2
namespace L2
open PySem PySem.Spec PyProof.Rows
variable {X : Cx}
theorem vals3 {x y z : V} {us : List Value} (r : Vals [x, y, z] us) : ∃ u v w, us = [u, v, w] ∧ RelV x u ∧ RelV y v ∧ RelV z w := by
  cases r with
  | cons a r => cases r with
    | cons b r => cases r with
      | cons c r => cases r; exact ⟨_, _, _, rfl, a, b, c⟩
/-- min(i, j, k) -/
theorem call_min3 (hc : X.calm = true) : CallR X (.builtin "min") (fun xs H Q => ∃ i j k : Int, xs = [.int i, .int j, .int k] ∧ Q (.int (min (min i j) k)) H) := by
  intro pins s σ H xs us Q I r h
  obtain ⟨i, j, k, rfl, q⟩ := h
  obtain ⟨u, v, w', rfl, ⟨t, rfl⟩, ⟨t', rfl⟩, ⟨t'', rfl⟩⟩ := vals3 r
  refine min_three_ints (I.ok.hd hc) fun h' tk kk => ⟨.int (min (min i j) k), H, I.kept kk, ?_, q⟩
  by_cases h1 : j < i
  · by_cases h2 : k < j
    · rw [if_pos h1, if_pos h2]; exact ⟨_, by rw [show min (min i j) k = k by omega]⟩
    · rw [if_pos h1, if_neg h2]; exact ⟨_, by rw [show min (min i j) k = j by omega]⟩
  · by_cases h2 : k < i
    · rw [if_neg h1, if_pos h2]; exact ⟨_, by rw [show min (min i j) k = k by omega]⟩
    · rw [if_neg h1, if_neg h2]; exact ⟨_, by rw [show min (min i j) k = i by omega]⟩
end L2
namespace K1
open PySem L2 Sq
def mx1 (p : Int) : Int := ((max p.natAbs 1 : Nat) : Int)
theorem mx1_eq (p : Int) : (if (1 : Int) > (if p < 0 then -p else p) then 1 else (if p < 0 then -p else p)) = mx1 p := by
  unfold mx1
  by_cases h : p < 0
  · rw [if_pos h]; split <;> omega
  · rw [if_neg h]; split <;> omega
theorem mx1_pos (p : Int) : 1 ≤ mx1 p := by unfold mx1; omega
theorem mx1_le {p : Int} (h : p.natAbs ≤ 60) : mx1 p ≤ 60 := by unfold mx1; omega
theorem mx1_dvd {p : Int} (h : p ≠ 0) : p ∣ mx1 p := by
  have e : mx1 p = (p.natAbs : Int) := by unfold mx1; omega
  rw [e]; exact Int.dvd_natAbs.mpr (Int.dvd_refl p)
def unU (bx by_ p q : Int) : Int := bx * by_ * mx1 p * mx1 q
theorem unU_ok {bx by_ p q : Int} (x0 : 0 < bx) (y0 : 0 < by_) (n : ¬ (p = 0 ∧ q = 0)) : WOk p q (unU bx by_ p q) where
  u := Int.mul_pos (Int.mul_pos (Int.mul_pos x0 y0) (by have := mx1_pos p; omega)) (by have := mx1_pos q; omega)
  n := n
  p := fun h => Int.dvd_mul_of_dvd_left (Int.dvd_mul_of_dvd_right (mx1_dvd h))
  q := fun h => Int.dvd_mul_of_dvd_right (mx1_dvd h)
/-- a place: a square and two parts -/
def P3 (C : Addr) (H : Hp) (l : Addr) (sq : Nat) (tx bx ty by_ : Int) : Prop := ∃ px py, H l = some (.tup [.int (sq : Int), .ref px, .ref py]) ∧ PtAt C H px tx bx ∧ PtAt C H py ty by_
theorem P3.same {C l : Addr} {H H' : Hp} {sq : Nat} {tx bx ty by_ : Int} (h : P3 C H l sq tx bx ty by_) (s : Same H H') : P3 C H' l sq tx bx ty by_ := let ⟨px, py, h1, h2, h3⟩ := h; ⟨px, py, s _ _ h1, h2.same s, h3.same s⟩
def spUo5 (C : Addr) : Sp := fun vs H Q _ => ∃ (l : Addr) (sq : Nat) (tx bx ty by_ p q : Int), vs = [.ref l, .int p, .int q] ∧ P3 C H l sq tx bx ty by_ ∧ Bt 60 bx ∧ Bt 60 by_ ∧ p.natAbs ≤ 60 ∧ q.natAbs ≤ 60 ∧ Q (.int (unU bx by_ p q)) H
section
variable {P : Program} {w : World} {K : PySem.W.Frag} {mg : Str → Option Value} {base : Heap}
abbrev n_uo5 : List Str := ["place", "p", "q"]
theorem sc_uo5 : FnScope n_uo5 ["place", "p", "q"] (defScope sUnitOf) := ⟨rfl, rfl, rfl, by decide +kernel, rfl, by decide +kernel, by decide +kernel⟩
theorem ok_uo5 {f : Addr} {fd : FuncData} {C : Addr} (T : PTx K mg C) (T_abs : mg "abs" = none) (T_max : mg "max" = none) (F : Fn K mg "unit_of" sUnitOf ["place", "p", "q"] f fd) : FnOk P w K mg base CX0 1 f fd ["place", "p", "q"] (spUo5 C) := by
  refine F.F.ok sc_uo5 (fun vs H Q E h => ?_) (fun cdv A outer s H vs Q E hr h => ?_)
  · obtain ⟨l, sq, tx, bx, ty, by_, p, q, rfl, _⟩ := h; rfl
  · obtain ⟨l, sq, tx, bx, ty, by_, p, q, rfl, ⟨px, py, h1, ⟨dx, h2⟩, ⟨dy, h3⟩⟩, hx, hy, hp, hq, k⟩ := h
    refine ⟨_, (pss_one (ps_ret (pe_op op_mul (pe_op op_mul (pe_op op_mul (pe_fld (pe_ix ix_tup (pv 0) pe_int (fun _ _ => rfl)) rfl) (pe_fld (pe_ix ix_tup (pv 0) pe_int (fun _ _ => rfl)) rfl)) (pe_callB (call_max2 rfl) rfl T_max boot_max (pa_cons (pe_callB call_abs rfl T_abs boot_abs (pa_cons (pv 1) pa_nil)) (pa_cons pe_int pa_nil)))) (pe_callB (call_max2 rfl) rfl T_max boot_max (pa_cons (pe_callB call_abs rfl T_abs boot_abs (pa_cons (pv 2) pa_nil)) (pa_cons pe_int pa_nil)))))), ?_⟩
    have e60 : (2 : Nat) ^ 60 = 1152921504606846976 := by decide
    have hx' : bx.natAbs < 1152921504606846976 := hx
    have hmp := mx1_pos p
    have hmq := mx1_pos q
    have lp := mx1_le hp
    have lq := mx1_le hq
    refine ⟨_, rfl, l, _, 1, _, rfl, rfl, SqT.of h1, atI_nat (j := 1) rfl, px, C, dx, _, _, rfl, h2, T.cl, T.nB, flds_bot _ _, _, rfl, l, _, 2, _, rfl, rfl, SqT.of h1, atI_nat (j := 2) rfl, py, C, dy, _, _, rfl, h3, T.cl, T.nB, flds_bot _ _, ?_⟩
    refine ⟨_, _, rfl, rfl, .inl ⟨by omega, by omega⟩, _, rfl, _, rfl, _, _, rfl, ?_⟩
    rw [mx1_eq]
    refine ⟨_, _, rfl, rfl, .inr ⟨by omega, by omega⟩, _, rfl, _, rfl, _, _, rfl, ?_⟩
    rw [mx1_eq]
    exact ⟨_, _, rfl, rfl, .inr ⟨by omega, by omega⟩, k⟩
end
end K1
namespace K1
open PySem L2 Sq
theorem bt12 {b : Int} (h0 : 0 < b) (h1 : b < 1000000000000) : Bt 60 b := by
  show b.natAbs < 2 ^ 60
  have : (2 : Nat) ^ 60 = 1152921504606846976 := by decide
  omega
theorem low_cross {i B : Int} : lowT i B * B = i * lowB i B := by
  have a := lowT_mul i B
  have b := lowB_mul i B
  generalize lowT i B = z at *
  generalize lowB i B = u at *
  generalize dv i B = d at *
  rw [← a, ← b]
  rw [Int.mul_assoc z d u, Int.mul_comm u d]
end K1
namespace Sq
section
variable {n : Nat} {r f : List Nat}
theorem nx_back (hf : Row n f) {i : Nat} (hi : i < n) : nx (back f) (nx f i) = i := by rw [back_nx hf (hf.nlt hi)]; exact hf.idx_nx hi
theorem nx_back' (hf : Row n f) {i : Nat} (hi : i < n) : nx f (nx (back f) i) = i := by rw [back_nx hf hi]; exact hf.nx_idx hi
theorem row_of {l : List Nat} (hl : l.length = n) (lt : ∀ i, i < n → nx l i < n) (inj : ∀ i j, i < n → j < n → nx l i = nx l j → i = j) : Row n l where
  len := hl
  nd := by
    refine List.pairwise_iff_getElem.mpr fun i j hi hj hij e => ?_
    have := inj i j (by omega) (by omega) (by simp [nx, List.getD, List.getElem?_eq_getElem hi, List.getElem?_eq_getElem hj, e])
    omega
  lt := fun x hx => by
    obtain ⟨i, hi, e⟩ := List.mem_iff_getElem.mp hx
    have := lt i (by omega)
    rwa [show nx l i = x from by simp [nx, List.getD, List.getElem?_eq_getElem hi, e]] at this
end
end Sq
namespace Sq
/-- i steps on -/
def it (w : List Nat) (x : Nat) : Nat → Nat
  | 0 => x
  | i + 1 => nx w (it w x i)
/-- the list of what is met from x on, until one would come to x again -/
structure Cyc (w : List Nat) (x : Nat) (M : List Nat) : Prop where
  pos : 1 ≤ M.length
  is : M = (List.range M.length).map (it w x)
  back : it w x M.length = x
  new : ∀ i, 1 ≤ i → i < M.length → it w x i ≠ x
theorem Cyc.unique {w : List Nat} {x : Nat} {M M' : List Nat} (h : Cyc w x M) (h' : Cyc w x M') : M = M' := by
  have e : M.length = M'.length := by
    rcases Nat.lt_trichotomy M.length M'.length with c | c | c
    · exact absurd h.back (h'.new _ h.pos c)
    · exact c
    · exact absurd h'.back (h.new _ h'.pos c)
  rw [h.is, h'.is, e]
section
variable {n : Nat} {w : List Nat}
theorem it_lt (rw' : Row n w) {x : Nat} (hx : x < n) : ∀ i, it w x i < n
  | 0 => hx
  | i + 1 => rw'.nlt (it_lt rw' hx i)
theorem it_cancel (rw' : Row n w) {x : Nat} (hx : x < n) : ∀ i j, it w x (i + j) = it w x i → it w x j = x
  | 0, j, h => by simpa [it] using h
  | i + 1, j, h => by
    have e : it w x (i + 1 + j) = nx w (it w x (i + j)) := by rw [show i + 1 + j = (i + j) + 1 from by omega]; rfl
    rw [e] at h
    exact it_cancel rw' hx i j (rw'.inj (it_lt rw' hx _) (it_lt rw' hx _) h)
theorem it_nodup (rw' : Row n w) {x k : Nat} (hx : x < n) (h : ∀ i, 1 ≤ i → i < k → it w x i ≠ x) : ((List.range k).map (it w x)).Nodup := by
  refine List.pairwise_map.mpr (List.Pairwise.imp_of_mem (R := fun a b => a < b) (fun {a b} ha hb hab e => ?_) List.pairwise_lt_range)
  have hb := List.mem_range.mp hb
  have := it_cancel rw' hx a (b - a) (by rw [show a + (b - a) = b from by omega]; exact e.symm)
  exact h (b - a) (by omega) (by omega) this
theorem it_len (rw' : Row n w) {x k : Nat} (hx : x < n) (h : ∀ i, 1 ≤ i → i < k → it w x i ≠ x) : k ≤ n := by
  have := sub_len _ (List.range n) (it_nodup rw' hx h) fun y hy => by
    obtain ⟨i, _, rfl⟩ := List.mem_map.mp hy
    exact List.mem_range.mpr (it_lt rw' hx i)
  simpa using this
theorem Cyc.nd (rw' : Row n w) {x : Nat} (hx : x < n) {M : List Nat} (h : Cyc w x M) : M.Nodup := by
  rw [h.is]; exact it_nodup rw' hx h.new
theorem Cyc.get {x : Nat} {M : List Nat} (h : Cyc w x M) {i : Nat} (hi : i < M.length) : M[i]? = some (it w x i) := by
  rw [h.is]; simp [hi]
theorem Cyc.lt (rw' : Row n w) {x : Nat} (hx : x < n) {M : List Nat} (h : Cyc w x M) : ∀ y ∈ M, y < n := fun y hy => by
  rw [h.is] at hy
  obtain ⟨i, _, rfl⟩ := List.mem_map.mp hy
  exact it_lt rw' hx i
/-- the next in the round is the next in the row -/
theorem Cyc.next {x : Nat} {M : List Nat} (h : Cyc w x M) {i y : Nat} (hi : M[i]? = some y) : M[(i + 1) % M.length]? = some (nx w y) := by
  have hl := (List.getElem?_eq_some_iff.mp hi).1
  have e : y = it w x i := by have := h.get hl; rw [hi] at this; exact Option.some.inj this
  subst e
  rcases Nat.lt_or_ge (i + 1) M.length with c | c
  · rw [Nat.mod_eq_of_lt c, h.get c]; rfl
  · have : i + 1 = M.length := by omega
    rw [this, Nat.mod_self, h.get h.pos]
    have hb := h.back
    rw [← this] at hb
    show some x = some (nx w (it w x i))
    rw [show nx w (it w x i) = it w x (i + 1) from rfl, hb]
theorem it_add (x : Nat) (i : Nat) : ∀ j, it w x (i + j) = it w (it w x i) j
  | 0 => rfl
  | j + 1 => by show nx w (it w x (i + j)) = nx w (it w (it w x i) j); rw [it_add x i j]
end
end Sq
namespace Sq
def per (n : Nat) (w : List Nat) (x : Nat) : Nat := ((List.range n).find? fun k => decide (it w x (k + 1) = x)).getD 0 + 1
def cyc (n : Nat) (w : List Nat) (x : Nat) : List Nat := (List.range (per n w x)).map (it w x)
def lead (n : Nat) (w : List Nat) (x : Nat) : Bool := decide (∀ y ∈ cyc n w x, x ≤ y)
def rounds (n : Nat) (w : List Nat) : List (List Nat) := ((List.range n).filter (lead n w)).map (cyc n w)
section
variable {n : Nat} {w : List Nat}
theorem per_is (rw' : Row n w) {x : Nat} (hx : x < n) : it w x (per n w x) = x ∧ ∀ i, 1 ≤ i → i < per n w x → it w x i ≠ x := by
  unfold per
  cases h : (List.range n).find? fun k => decide (it w x (k + 1) = x) with
  | none =>
    have := List.find?_eq_none.mp h
    have := it_len (k := n + 1) rw' hx fun i h1 h2 e => by
      refine this (i - 1) (List.mem_range.mpr (by omega)) ?_
      rw [show i - 1 + 1 = i from by omega]; exact decide_eq_true e
    omega
  | some k =>
    obtain ⟨h1, as, bs, h2, h3⟩ := List.find?_eq_some_iff_append.mp h
    refine ⟨of_decide_eq_true h1, fun i hi hlt e => ?_⟩
    have hlt : i < k + 1 := hlt
    have hk : as.length = k := by
      have hl : as.length < n := by
        have := congrArg List.length h2
        simp at this; omega
      have e1 : (List.range n)[as.length]? = some k := by rw [h2]; simp
      rw [List.getElem?_range hl] at e1
      exact Option.some.inj e1
    have hi' : i - 1 < as.length := by omega
    have hl : as.length ≤ n := by
      have := congrArg List.length h2
      simp at this; omega
    have e2 : as[i - 1]? = some (i - 1) := by
      have : (List.range n)[i - 1]? = as[i - 1]? := by rw [h2, List.getElem?_append_left hi']
      rw [← this, List.getElem?_range (by omega)]
    have := h3 (i - 1) (List.mem_of_getElem? e2)
    rw [show i - 1 + 1 = i from by omega, e] at this
    simp at this
theorem cyc_len (n : Nat) (w : List Nat) (x : Nat) : (cyc n w x).length = per n w x := by simp [cyc]
theorem cyc_is (rw' : Row n w) {x : Nat} (hx : x < n) : Cyc w x (cyc n w x) := by
  obtain ⟨h1, h2⟩ := per_is rw' hx
  refine ⟨by rw [cyc_len]; unfold per; omega, by rw [cyc_len]; rfl, by rw [cyc_len]; exact h1, by rw [cyc_len]; exact h2⟩
theorem Cyc.eq (rw' : Row n w) {x : Nat} (hx : x < n) {M : List Nat} (h : Cyc w x M) : M = cyc n w x := h.unique (cyc_is rw' hx)
theorem cyc_head (rw' : Row n w) {x : Nat} (hx : x < n) : (cyc n w x)[0]? = some x := (cyc_is rw' hx).get (cyc_is rw' hx).pos
/-- each step stays in the cycle -/
theorem it_mem (rw' : Row n w) {x : Nat} (hx : x < n) : ∀ i, it w x i ∈ cyc n w x
  | 0 => List.mem_of_getElem? (cyc_head rw' hx)
  | i + 1 => by
    obtain ⟨j, hj, e⟩ := List.mem_iff_getElem.mp (it_mem rw' hx i)
    have := (cyc_is rw' hx).next (i := j) (y := it w x i) (by rw [List.getElem?_eq_getElem hj, e])
    exact List.mem_of_getElem? this
theorem mem_it (rw' : Row n w) {x y : Nat} (h : y ∈ cyc n w x) : ∃ i, i < per n w x ∧ y = it w x i := by
  obtain ⟨i, hi, rfl⟩ := List.mem_map.mp h
  exact ⟨i, List.mem_range.mp hi, rfl⟩
theorem cyc_lt (rw' : Row n w) {x y : Nat} (hx : x < n) (h : y ∈ cyc n w x) : y < n := (cyc_is rw' hx).lt rw' hx y h
theorem it_back (rw' : Row n w) {x : Nat} (hx : x < n) {i : Nat} (hi : i ≤ per n w x) : it w (it w x i) (per n w x - i) = x := by
  rw [← it_add, show i + (per n w x - i) = per n w x from by omega]
  exact (per_is rw' hx).1
theorem cyc_symm (rw' : Row n w) {x y : Nat} (hx : x < n) (h : y ∈ cyc n w x) : x ∈ cyc n w y := by
  obtain ⟨i, hi, rfl⟩ := mem_it rw' h
  have := it_mem rw' (it_lt rw' hx i) (per n w x - i)
  rwa [it_back rw' hx (Nat.le_of_lt hi)] at this
theorem cyc_trans (rw' : Row n w) {x y z : Nat} (hx : x < n) (h : y ∈ cyc n w x) (h' : z ∈ cyc n w y) : z ∈ cyc n w x := by
  obtain ⟨i, _, rfl⟩ := mem_it rw' h
  obtain ⟨j, _, rfl⟩ := mem_it rw' h'
  rw [← it_add]
  exact it_mem rw' hx _
/-- the least of a list -/
theorem least_of : ∀ (l : List Nat), l ≠ [] → ∃ m ∈ l, ∀ y ∈ l, m ≤ y
  | [], h => absurd rfl h
  | [a], _ => ⟨a, by simp, by simp⟩
  | a :: b :: l, _ => by
    obtain ⟨m, hm, h⟩ := least_of (b :: l) (by simp)
    rcases Nat.lt_or_ge m a with c | c
    · refine ⟨m, List.mem_cons_of_mem _ hm, fun y hy => ?_⟩
      rcases List.mem_cons.mp hy with e | hy
      · rw [e]; omega
      · exact h y hy
    · refine ⟨a, by simp, fun y hy => ?_⟩
      rcases List.mem_cons.mp hy with e | hy
      · rw [e]; omega
      · have := h y hy; omega
theorem lead_iff {x : Nat} : lead n w x = true ↔ ∀ y ∈ cyc n w x, x ≤ y := decide_eq_true_iff
theorem has_lead (rw' : Row n w) {x : Nat} (hx : x < n) : ∃ l, l < n ∧ lead n w l = true ∧ x ∈ cyc n w l := by
  obtain ⟨m, hm, h⟩ := least_of (cyc n w x) (fun e => by have := cyc_head rw' hx; rw [e] at this; simp at this)
  have hmn := cyc_lt rw' hx hm
  exact ⟨m, hmn, lead_iff.mpr fun y hy => h y (cyc_trans rw' hx hm hy), cyc_symm rw' hx hm⟩
theorem lead_unique (rw' : Row n w) {x l l' : Nat} (hl : l < n) (hl' : l' < n) (h1 : lead n w l = true) (h2 : lead n w l' = true) (h : x ∈ cyc n w l) (h' : x ∈ cyc n w l') : l = l' := by
  have a := lead_iff.mp h1 l' (cyc_trans rw' hl h (cyc_symm rw' hl' h'))
  have b := lead_iff.mp h2 l (cyc_trans rw' hl' h' (cyc_symm rw' hl h))
  omega
theorem rounds_perm (rw' : Row n w) : (rounds n w).flatten.Perm (List.range n) := by
  refine (List.perm_ext_iff_of_nodup ?_ List.nodup_range).mpr fun x => ?_
  · refine List.pairwise_flatten.mpr ⟨fun l hl => ?_, ?_⟩
    · obtain ⟨x, hx, rfl⟩ := List.mem_map.mp hl
      have hx := List.mem_range.mp (List.mem_filter.mp hx).1
      exact (cyc_is rw' hx).nd rw' hx
    · refine List.pairwise_map.mpr ?_
      have : ((List.range n).filter (lead n w)).Pairwise (· < ·) := List.Pairwise.filter _ List.pairwise_lt_range
      refine this.imp_of_mem fun {a b} ha hb hab x hx y hy e => ?_
      obtain ⟨a1, a2⟩ := List.mem_filter.mp ha
      obtain ⟨b1, b2⟩ := List.mem_filter.mp hb
      subst e
      have := lead_unique rw' (List.mem_range.mp a1) (List.mem_range.mp b1) a2 b2 hx hy
      omega
  · constructor
    · intro h
      obtain ⟨l, hl, hx⟩ := List.mem_flatten.mp h
      obtain ⟨a, ha, rfl⟩ := List.mem_map.mp hl
      exact List.mem_range.mpr (cyc_lt rw' (List.mem_range.mp (List.mem_filter.mp ha).1) hx)
    · intro h
      obtain ⟨l, h1, h2, h3⟩ := has_lead rw' (List.mem_range.mp h)
      exact List.mem_flatten.mpr ⟨_, List.mem_map.mpr ⟨l, List.mem_filter.mpr ⟨List.mem_range.mpr h1, h2⟩, rfl⟩, h3⟩
end
end Sq
namespace K1
open Sq
end K1
namespace L2
open PySem PySem.Spec PyProof.Rows
section
variable {X : Cx} {o i value : Expr} {pos pos' : Pos} {to ti tv : TE}
/-- xs[i] = v -/
def sLPut (to ti tv : TE) : TS := fun D σ H => tv σ H fun v H1 => to σ H1 fun x H2 => ti σ H2 fun y H3 => rSetL x y v H3 fun H4 => D.nx σ H4
theorem ps_lput (ho : PE X o to) (hi : PE X i ti) (hv : PE X value tv) (hs : swapsWith value (some (.Subscript o i pos')) pos.line X.env = pure false) : PS X (.Assign [.Subscript o i pos'] value pos) (sLPut to ti tv) := by
  intro pins s σ H D I h
  refine wpAny_Assign_Subscript (thn (hv pins s σ H _ I h) fun r s1 ⟨v, H1, I1, rv, q1⟩ => thn (ho pins s1 σ H1 _ I1 q1) fun u s2 ⟨x, H2, I2, rx, q2⟩ => thn (hi pins s2 σ H2 _ I2 q2) fun iv s3 ⟨y, H3, I3, ry, q3⟩ => ?_) hs
  exact thn (set_list pins s3 σ H3 x y v u iv r _ I3 rx ry rv q3) fun _ s4 ⟨H4, I4, q4⟩ => ⟨σ, H4, I4, q4⟩
end
end L2
namespace K1
open PySem L2 Sq
theorem nv_set (xs : List Nat) (j x : Nat) : (nv xs).set j (.int (x : Int)) = nv (xs.set j x) := by
  unfold nv
  rw [List.map_set]
theorem back_fill {n : Nat} {r bl : List Nat} (rr : Row n r) (hl : bl.length = n) (h : ∀ k, k < n → bl[nx r k]? = some k) : bl = back r := by
  refine List.ext_getElem? fun x => ?_
  by_cases hx : x < n
  · have e := h (r.idxOf x) (rr.idx_lt hx)
    rw [rr.nx_idx hx] at e
    rw [e, rr.back.get hx, back_nx rr hx]
  · rw [List.getElem?_eq_none (by omega), List.getElem?_eq_none (by rw [back_len, rr.len]; omega)]
end K1
namespace K1
open PySem L2 Sq
def spCycF (K : PySem.W.Frag) : Sp := fun vs H Q _ => ∃ (p : Addr) (n : Nat) (r : List Nat) (x : Nat), vs = [.ref p, .int (x : Int)] ∧ RowAt K H p r ∧ Row n r ∧ x < n ∧ n ≤ 36 ∧
  ∀ (H' : Hp) (l : Addr) (M : List Nat), Same H H' → H l = none → H' l = some (.lst (nv M)) → Cyc r x M → Q (.ref l) H'
/-- how far the list at l is from 100 -/
def muL (l : Addr) (H : Hp) : Nat := match H l with
  | some (.lst xs) => 100 - xs.length
  | _ => 0
theorem muL_at {l : Addr} {H : Hp} {xs : List V} (h : H l = some (.lst xs)) : muL l H = 100 - xs.length := by unfold muL; rw [h]
theorem last_at {M : List Nat} {k y : Nat} (hk : M.length = k + 1) (h : M[k]? = some y) : atI (nv M) (-1) = some (.int (y : Int)) := by
  unfold atI ixN
  rw [if_neg (by decide), if_pos (by rw [nv_len]; omega)]
  show (nv M)[((-1 : Int) + ((nv M).length : Int)).toNat]? = _
  rw [nv_len, hk, show ((-1 : Int) + ((k + 1 : Nat) : Int)).toNat = k from by omega]
  exact nv_get h
theorem rIx_mono {K : PySem.W.Frag} {x y : V} {H : Hp} {Q Q' : VK} (h : ∀ v H1, Q v H1 → Q' v H1) (q : rIx K x y H Q) : rIx K x y H Q' := by
  rcases q with ⟨a, xs, i, v, q1, q2, q3, q4, q⟩ | ⟨a, xs, i, v, q1, q2, q3, q4, q⟩ | ⟨z, i, v, q1, q2, q3, q4, q⟩
  · exact .inl ⟨a, xs, i, v, q1, q2, q3, q4, h _ _ q⟩
  · exact .inr (.inl ⟨a, xs, i, v, q1, q2, q3, q4, h _ _ q⟩)
  · exact .inr (.inr ⟨z, i, v, q1, q2, q3, q4, h _ _ q⟩)
section
variable {P : Program} {w : World} {K : PySem.W.Frag} {mg : Str → Option Value} {base : Heap}
abbrev nCy : List Str := ["row", "first", "met"]
theorem scCy : FnScope nCy ["row", "first"] (defScope sCycleFrom) := ⟨rfl, rfl, rfl, by decide +kernel, rfl, by decide +kernel, by decide +kernel⟩
theorem ok_cycF {f : Addr} {fd : FuncData} (F : Fn K mg "cycle_from" sCycleFrom ["row", "first"] f fd) : FnOk P w K mg base CX0 1 f fd ["row", "first"] (spCycF K) := by
  refine F.F.ok scCy (fun vs H Q E h => ?_) (fun cdv A outer s H vs Q E hr h => ?_)
  · obtain ⟨p, n, r, x, rfl, _⟩ := h; rfl
  · obtain ⟨p, n, r, x, rfl, hp, rr, hx, hn, k⟩ := h
    refine ⟨_, pss_cons (ps_set (i := 2) scCy.nd rfl (Or.inl rfl) (pe_lst (pa_cons (pv 1) pa_nil)))
      (pss_cons (ps_while PassesOwn.never (pt_cmpR op_ne (pe_ix ix_seq (pv 0) (pe_ix ix_list (pv 2) (pe_un un_neg pe_int) (fun _ _ => rfl)) (fun _ _ => rfl)) (pv 1) (nomark _))
        (pss_one (ps_expr (pe_bm PySem.F.plainAttrs_list PySem.F.slot_list_append PySem.F.type_list_append mt_append (pv 2) (pa_cons (pe_ix ix_seq (pv 0) (pe_ix ix_list (pv 2) (pe_un un_neg pe_int) (fun _ _ => rfl)) (fun _ _ => rfl)) pa_nil)))))
      (pss_one (ps_ret (pv 2)))), ?_⟩
    refine ⟨_, rfl, (by show 1 ≤ sizeLine; decide), fun l hl => ?_⟩
    refine while_by (fun σ H2 => ∃ k, σ = [some (.ref p), some (.int (x : Int)), some (.ref l)] ∧ Same H H2 ∧ H2 l = some (.lst (nv ((List.range (k + 1)).map (it r x)))) ∧ ∀ i, 1 ≤ i → i < k + 1 → it r x i ≠ x) (fun _ H => muL l H) ?_ ?_ ?_
    · exact ⟨0, rfl, same_upd (Same.refl H) hl, upd_same, fun i h1 h2 => absurd h2 (by omega)⟩
    · rintro σ H2 ⟨kk, rfl, s2, h2, new⟩
      have hlen := it_len rr hx new
      have hM : ((List.range (kk + 1)).map (it r x)).length = kk + 1 := by simp
      have hlast := last_at hM (show ((List.range (kk + 1)).map (it r x))[kk]? = some (it r x kk) by simp)
      have hlt := it_lt rr hx kk
      refine ⟨_, rfl, _, rfl, _, rfl, l, _, _, _, rfl, rfl, SqL.of h2, hlast, ?_⟩
      refine rowIx (hp.same s2) rr hlt ?_
      refine ⟨_, rfl, rfl, _, rfl, ?_⟩
      by_cases e : nx r (it r x kk) = x
      · refine iteNS (by rw [e]) ?_
        refine ⟨_, rfl, k H2 l _ s2 hl h2 ⟨by rw [hM]; omega, by rw [hM], by rw [hM]; exact e, by rw [hM]; exact new⟩⟩
      · rw [decide_eq_false (by intro z; have := V.int.inj z; exact e (by omega))]
        refine iteT ?_
        refine ⟨_, rfl, .inl ⟨rfl, _, SqL.of h2⟩, _, rfl, _, rfl, _, rfl, l, _, _, _, rfl, rfl, SqL.of h2, hlast, ?_⟩
        refine rowIx (hp.same s2) rr hlt ?_
        refine ⟨l, _, _, rfl, rfl, h2, by rw [nv_len, hM]; exact small1000 (by omega), ?_⟩
        have e2 : nv ((List.range (kk + 1)).map (it r x)) ++ [.int ((nx r (it r x kk) : Nat) : Int)] = nv ((List.range (kk + 1 + 1)).map (it r x)) := by
          rw [nv_snoc, List.range_succ (n := kk + 1), List.map_append]; rfl
        rw [e2]
        refine ⟨⟨kk + 1, rfl, same_upd s2 hl, upd_same, fun i h1 h2' => ?_⟩, ?_⟩
        · rcases Nat.lt_or_ge i (kk + 1) with c | c
          · exact new i h1 c
          · have : i = kk + 1 := by omega
            subst this; exact e
        · rw [muL_at upd_same, muL_at h2, nv_len, nv_len, hM]
          simp; omega
    · rintro σ H Q Q' h h2
      obtain ⟨v, e1, v1, e2, v2, e3, q⟩ := h2
      refine ⟨v, e1, v1, e2, v2, e3, ?_⟩
      obtain ⟨a, xs, i, v, q1, q2, q3, q4, q⟩ := q
      refine ⟨a, xs, i, v, q1, q2, q3, q4, ?_⟩
      exact rIx_mono (fun x H1 ⟨v', e, q5, w', e', q6⟩ => ⟨v', e, q5, w', e', h _ _ q6⟩) q
end
end K1
namespace L2
open PySem PySem.Spec PyProof.Rows
theorem best_lt (val : Nat → Int) : ∀ n : Nat, argBest (fun i j => decide (val i < val j)) n ≤ n ∧ ∀ j, j ≤ n → val (argBest (fun i j => decide (val i < val j)) n) ≤ val j
  | 0 => ⟨Nat.le_refl _, fun j hj => by have : j = 0 := by omega
                                        subst this; exact Int.le_refl _⟩
  | n + 1 => by
    obtain ⟨h1, h2⟩ := best_lt val n
    show (if decide (val (n + 1) < val (argBest (fun i j => decide (val i < val j)) n)) = true then n + 1 else argBest (fun i j => decide (val i < val j)) n) ≤ n + 1 ∧ _
    show _ ∧ ∀ j, j ≤ n + 1 → val (if decide (val (n + 1) < val (argBest (fun i j => decide (val i < val j)) n)) = true then n + 1 else argBest (fun i j => decide (val i < val j)) n) ≤ val j
    by_cases c : val (n + 1) < val (argBest (fun i j => decide (val i < val j)) n)
    · rw [if_pos (decide_eq_true c)]
      refine ⟨Nat.le_refl _, fun j hj => ?_⟩
      rcases Nat.lt_or_ge j (n + 1) with d | d
      · have := h2 j (by omega); omega
      · have : j = n + 1 := by omega
        subst this; exact Int.le_refl _
    · rw [if_neg (by rw [decide_eq_true_iff]; exact c)]
      refine ⟨by omega, fun j hj => ?_⟩
      rcases Nat.lt_or_ge j (n + 1) with d | d
      · exact h2 j (by omega)
      · have : j = n + 1 := by omega
        subst this; omega
section
variable {X : Cx}
theorem boot_min : bootBuiltins "min" = some (.builtin "min") := by decide +kernel
theorem call_minL (hc : X.calm = true) : CallR X (.builtin "min") (fun xs H Q => ∃ (p : Addr) (ns : List Int), xs = [.ref p] ∧ SqL X.K H p (ns.map V.int) ∧ ns ≠ [] ∧ ∀ m, m ∈ ns → (∀ y ∈ ns, m ≤ y) → Q (.int m) H) := by
  intro pins s σ H xs us Q I r h
  obtain ⟨p, ns, rfl, hq, hne, q⟩ := h
  obtain ⟨u, rfl, ru⟩ := vals1 r
  obtain rfl : u = Value.ref p := ru
  obtain ⟨its, rv, pl, hz⟩ := I.list hq
  have hL := pl.isList
  have hlt : p < s.heap.objs.size := by obtain ⟨o, ho, _⟩ := id hL; exact Heap.lt_size ho
  have hlen : its.length = ns.length := by rw [← rv.length]; simp
  have hpos : 0 < ns.length := List.length_pos_iff.mpr hne
  have hval : ∀ i v, its.toArray[i]? = some v → ∃ t, v = Value.int (ns.getD i 0) t := fun i v hP => by
    have hv : its[i]? = some v := by simpa using hP
    have hi : i < ns.length := by rw [← hlen]; exact (List.getElem?_eq_some_iff.mp hv).1
    have hb : (ns.map V.int)[i]? = some (.int ns[i]) := by simp [hi]
    obtain ⟨u, hu, t, rfl⟩ := rv.get hb
    rw [hv] at hu; cases hu
    exact ⟨t, by simp [List.getD_eq_getElem?_getD, hi]⟩
  refine call_min_walk (wpAny_pyIter_list hL ⟨s.heap.objs.size, _, _, its.toArray.size, _, _, _, rfl, Walks.list (A := X.A.in1) (I.ok.hd hc) s.heap.objs.size p (Nat.ne_of_lt hlt) its.toArray, ⟨⟨_, Heap.get?_push_size _ rfl, rfl, rfl⟩, hL.push _⟩, fun b hb => ?_, by rw [List.size_toArray]; omega, CmpOf.ints_lt (fun i => ns.getD i 0) hval, fun v h' tk hP hk => ?_⟩)
  · rw [Heap.size_push]
    simp at hb
    rcases hb with rfl | rfl
    · exact Nat.lt_succ_self _
    · exact Nat.lt_succ_of_lt hlt
  · obtain ⟨t, rfl⟩ := hval _ v hP
    obtain ⟨b1, b2⟩ := best_lt (fun i => ns.getD i 0) (its.toArray.size - 1)
    rw [List.size_toArray, hlen] at b1 b2 hP ⊢
    generalize argBest (fun i j => decide (ns.getD i 0 < ns.getD j 0)) (ns.length - 1) = k at b1 b2 hP ⊢
    have hk' : k < ns.length := by omega
    refine ⟨.int (ns.getD k 0), H, ?_, ⟨t, rfl⟩, q _ ?_ fun y hy => ?_⟩
    · refine I.kept fun b o e => hk b o (fun hb => ?_) (Heap.get?_push_of_some _ e)
      have := Heap.lt_size e
      simp at hb
      rw [hb] at this
      exact Nat.lt_irrefl _ this
    · simp [List.getD_eq_getElem?_getD, hk']
    · obtain ⟨j, hj, rfl⟩ := List.mem_iff_getElem.mp hy
      have := b2 j (by omega)
      simpa [List.getD_eq_getElem?_getD, hj] using this
end
end L2
namespace L2
open PySem PySem.Spec PyProof.Rows
theorem comp_turnIf {prog : Program} {w : World} {A : Around} {R : Result → Shared → Prop} {s : Shared} {elt target iter cnd : Expr} {scope : Scope} {pos : Pos} {it acc : Value} {env : Env} (I : Nat → Shared → Prop)
    (turn : ∀ n s, I n s → wpAny (model prog w) A (pyNext it) (fun r s₁ => match r with
      | none => R (.ok .next) s₁
      | some v => wpAny (model prog w) A (letOwnedTupleGo target it v) (fun _ s₀ => wpAny (model prog w) A (assign target env v) (fun _ s₂ =>
          wpAny (model prog w) A (isTrue cnd env (eval cnd env)) (fun ok s₃ => if ok = true then
          wpAny (model prog w) A (eval elt env) (fun x s₄ =>
              wpAny (model prog w) A (call (.builtin "list.append") [acc, x]) (fun _ s₅ => ∃ m, m < n ∧ I m s₅) (notedBy (model prog w) A env fun e s' => R (.error e) s') s₄) (notedBy (model prog w) A env fun e s' => R (.error e) s') s₃
            else ∃ m, m < n ∧ I m s₃) (notedBy (model prog w) A env fun e s' => R (.error e) s') s₂)
          (notedBy (model prog w) A env fun e s' => R (.error e) s') s₀) (notedBy (model prog w) A env fun e s' => R (.error e) s') s₁) (notedBy (model prog w) A env fun e s' => R (.error e) s') s)
    (n : Nat) (h : I n s) :
    codeAny (model prog w) A (.compLoop (.ListComp elt [⟨target, iter, [cnd], 0⟩] scope pos) 0 it acc env) R s := by
  refine codeAny_loop rfl I (fun n s hI => ?_) n h
  show wpAny _ A ((compTurn (.ListComp elt [⟨target, iter, [cnd], 0⟩] scope pos) 0 it acc env).onRaise (fun x => do noteFrame x env; theTreesLotGoes x)) _ _ s
  refine wpAny_noted ?_
  rw [compTurn_list]
  refine wpAny_bind (wpAny_standAt (wpAny_bind (wpAny_mono (turn n s hI) (fun r s₁ h₁ => ?_) fun _ _ h' => h')))
  cases r with
  | none => exact wpAny_pure h₁
  | some v =>
    refine wpAny_bind (wpAny_mono h₁ (fun _ s₀ h₀ => ?_) fun _ _ h' => h')
    refine wpAny_bind (wpAny_mono h₀ (fun _ s₂ h₂ => wpAny_bind (wpAny_tests_one (wpAny_mono h₂ (fun ok s₃ h₃ => ?_) fun _ _ h' => h'))) fun _ _ h' => h')
    cases ok with
    | false => exact wpAny_pure ⟨rfl, by simpa using h₃⟩
    | true =>
      have h₃ := (show wpAny _ _ _ _ _ _ from by simpa using h₃)
      exact wpAny_bind (wpAny_bind (wpAny_mono h₃ (fun x s₄ h₄ => wpAny_bind (wpAny_mono h₄ (fun _ s₅ h₅ => wpAny_pure (wpAny_pure ⟨rfl, h₅⟩)) fun _ _ h' => h')) fun _ _ h' => h'))
def tCompIf (wi : TI) (k : Nat) (pull : List Nat) (g : TG) (tt : TT) (te : TE) : TE := fun σ H Q => wi σ H fun J H1 => ∀ d, H1 d = none →
  ∃ W : Nat → Nat → St → Hp → Prop, (∃ m, W 0 m (bst k pull σ) (upd H1 d (.lst []))) ∧ ∀ i m σ' H', W i m σ' H' →
    (J.stop i H' ∧ Q (.ref d) H') ∨
    (J.go i H' ∧ ∀ x H2, J.yld i H' x H2 → g x σ' H2 fun σ3 H3 => tt σ3 H3 fun b H4 => if b = true then te σ3 H4 fun y H5 => ∃ xs, H5 d = some (.lst xs) ∧ xs.length < sizeLine ∧ ∃ m', m' < m ∧ W (i + 1) m' σ3 (upd H5 d (.lst (xs ++ [y])))
      else ∃ m', m' < m ∧ W (i + 1) m' σ3 H4)
section
variable {X : Cx} {elt tg iter cnd : Expr} {sc : Scope} {pos : Pos} {wi : TI} {g : TG} {tt : TT} {te : TE} {N : List Str} {names : List (Str × NameKind)} {N' : List Str} {k : Nat} {pull : List Nat}
theorem pe_compIf (hc : X.calm = true) (B : BScope N names N' k pull sc) (hN : X.N = N) (hnm : X.env.scope.names = names) (hi : PI X tg iter wi)
    (hg : ∀ cl C s₂ H₁ fp pins, PG (blk X sc cl C N' s₂ H₁ fp pins) tg g) (hcn : ∀ cl C s₂ H₁ fp pins, PT (blk X sc cl C N' s₂ H₁ fp pins) cnd tt) (he : ∀ cl C s₂ H₁ fp pins, PE (blk X sc cl C N' s₂ H₁ fp pins) elt te)
    (hs : ∀ x, foldedSetIterable iter X.env x = pure x := by intro _; rfl) : PE X (.ListComp elt [⟨tg, iter, [cnd], 0⟩] sc pos) (tCompIf wi k pull g tt te) := by
  intro pins s σ H Q I h
  rw [eval_ListComp]
  have hcells : ∀ y ∈ sc.names, y.2 = .free → ∃ c, X.env.cells.lookup y.1 = some c := fun y hy hf => I.ok.has y.1 (.inl (by
    show X.env.scope.names.lookup y.1 = _
    rw [hnm]; exact B.fre y hy hf))
  obtain ⟨cl, ecl, c1, _, c3⟩ := closureFor_is (env := X.env) sc.names [] hcells (fun x c e => nomatch e)
  rw [← closureFor_eq] at ecl
  refine wpAny_comprehension_free (use := none) rfl hs ecl B.kind B.loc (thn (hi pins s σ H _ I h) fun xv s1 h1 => thn h1 fun itv s2 h2 => ?_)
  obtain ⟨it, fp, tn, J, H1, e, I2, T, st2, f2, hW⟩ := h2
  subst e
  have ho : ∀ b ∈ fp, ∃ o, s2.heap.get? b = some o := fun b hb => let ⟨o, e, _⟩ := T.obj _ _ st2 b hb; ⟨o, e⟩
  refine wpAny_newObj_type (wpAny_newFunctionEnv B.nocell (by intro y hy; simp at hy) (fun h₁ hns₁ hsb₁ => ?_) B.kind)
  dsimp only at hns₁ hsb₁ ⊢
  rw [Heap.size_push] at hns₁ hsb₁ ⊢
  have old : ∀ b o, s2.heap.get? b = some o → h₁.get? b = some o := fun b o e => by
    have hlt := Heap.lt_size e
    exact (hsb₁.2 b (Nat.ne_of_lt (Nat.lt_succ_of_lt hlt))).trans (Heap.get?_push_of_some _ (Heap.get?_push_of_some _ e))
  have hd : h₁.get? s2.heap.objs.size = some { cls := .type "list", data := .seq ([] : List Value).toArray } :=
    (hsb₁.2 _ (Nat.ne_of_lt (Nat.lt_succ_self _))).trans (Heap.get?_push_of_some _ (Heap.get?_push_size _ rfl))
  have I4 := blk_start (tk := s2.toks + ([] : List (Str × Value)).length) B hN hnm I2 f2 ho c1 c3 hns₁ old hd
  have st4 : tn 0 h₁ := T.keep _ _ _ st2 fun b _ o e => old b o e
  obtain ⟨W, ⟨m0, w0⟩, turn⟩ := hW s2.heap.objs.size (I2.hok.fresh (Nat.le_refl _))
  have fr4 : ∀ b ∈ fp, (upd H1 s2.heap.objs.size (.lst [])) b = none := fun b hb => by
    obtain ⟨o, e⟩ := ho b hb
    rw [upd_ne (Nat.ne_of_lt (Heap.lt_size e))]
    exact (f2 b hb).1
  -- what stays true of the iterator's objects
  have stat : ∀ {H' : Hp}, (∀ b ∈ fp, H' b = none) → ∀ b ∈ fp, FpOk (blk X sc cl (s2.heap.objs.size + 1) N' s2 H1 fp pins) [] H' b := fun hn b hb => by
    refine ⟨hn b hb, (I4.ok.exf b hb).1, I4.ok.exfs b hb, .inl hb, (I4.ok.exf b hb).2, fun p hp => ?_⟩
    have hp : p ∈ X.pn ++ pins := by simpa [blk] using hp
    exact (f2 b hb).2.2.2.2.2 p hp
  have loop : ∀ s₃ : Shared, s₃ = { s2 with heap := h₁, toks := s2.toks + ([] : List (Str × Value)).length } →
      codeAny (model X.prog X.w) X.A (.compLoop (.ListComp elt [⟨tg, iter, [cnd], 0⟩] sc pos) 0 (.ref it) (.ref s2.heap.objs.size) (compEnvC sc cl (s2.heap.objs.size + 1) X.env))
        (compPost (model X.prog X.w) X.A X.xe none (EP X pins σ Q) (.ref s2.heap.objs.size) (s2.heap.objs.size + 1)) s₃ := by
    rintro s₃ rfl
    refine comp_turnIf (fun n s' => ∃ i σ' H', Inv (blk X sc cl (s2.heap.objs.size + 1) N' s2 H1 fp pins) [] σ' H' s' ∧ tn i s'.heap ∧ (∀ b ∈ fp, H' b = none) ∧ W i n σ' H') ?_ m0 ⟨0, _, _, I4, st4, fr4, w0⟩
    rintro n s3 ⟨i, σ3, H3, I3, st3, fr3, w3⟩
    rcases turn i n σ3 H3 w3 with ⟨stop, q⟩ | ⟨go, step⟩
    · refine thn (T.done (blk X sc cl (s2.heap.objs.size + 1) N' s2 H1 fp pins) rfl rfl rfl hc i [] s3 σ3 H3 _ I3 (stat fr3) st3 stop) fun r s4 ⟨hr, I5⟩ => ?_
      subst hr
      obtain ⟨m, hn, _⟩ := id I5.loc
      refine ⟨m, hn, fun h' hs' => ?_⟩
      have ne : ∀ b o, s2.heap.get? b = some o → b ≠ s2.heap.objs.size + 1 := fun b o e => Nat.ne_of_lt (Nat.lt_succ_of_lt (Heap.lt_size e))
      have U : Un (frs X.stack) fp H1 H3 s2.heap s4.heap := I5.base
      have U' : Un (frs X.stack) fp H1 H3 s2.heap h' := ⟨fun b o e n hb hx => (hs'.2 b (ne b o e)).trans (U.keep b o e n hb hx), fun b o e n hb hx => by
          obtain ⟨sl, z⟩ := U.slot b o e n hb hx
          exact ⟨sl, (hs'.2 b (ne b o e)).trans z⟩, U.free, fun b o e hx => by
          obtain ⟨o', z⟩ := U.there b o e hx
          exact ⟨o', (hs'.2 b (ne b o e)).trans z⟩, U.tups, U.frzs, U.tbls⟩
      have hok : HOk X.prog X.w H3 h' := HOk.but (C := s2.heap.objs.size + 1) I5.hok I5.free fun b o hb e => (hs'.2 b hb).trans e
      refine ⟨.ref s2.heap.objs.size, H3, I2.call' (s' := { s4 with heap := h' }) I5.os U' hok I5.bare fun b hb => ?_, rfl, q⟩
      exact ⟨(f2 b hb).2.2.2.1, (f2 b hb).2.1, (f2 b hb).2.2.2.2.1, (f2 b hb).2.2.2.2.2⟩
    · refine thn (T.item (blk X sc cl (s2.heap.objs.size + 1) N' s2 H1 fp pins) rfl rfl rfl hc i [] s3 σ3 H3 _ I3 (stat fr3) st3 go) fun r s4 ⟨u, hr, h4⟩ => ?_
      subst hr
      refine thn h4 fun _ s5 ⟨x, H5, I5, r5, y5, st5, fr5⟩ => ?_
      have I5' := I5.pinned (stat fr5) (T.obj _ _ st5)
      refine wpAny_mono (hg _ _ _ _ _ _ _ s5 σ3 H5 x u _ I5' r5 (step x H5 y5)) (fun _ s6 ⟨σ6, H6, I6, q6⟩ => ?_) fun _ _ z => z.elim
      refine wpAny_mono (hcn _ _ _ _ _ _ _ s6 σ6 H6 _ I6 q6) (fun ok s7 ⟨H7, I7, q7⟩ => ?_) fun _ _ z => z.elim
      cases ok with
      | false =>
        have q7 : ∃ m', m' < n ∧ W (i + 1) m' σ6 H7 := by simpa using q7
        obtain ⟨m', hm, w7⟩ := q7
        refine ⟨m', hm, i + 1, σ6, _, I7.unpinned, T.keep _ _ _ st5 fun b hb o e => (I7.pin (b, o) (List.mem_append_right _ (List.mem_append_right _ (mem_pinsAt hb e)))).1, fun b hb => ?_, w7⟩
        obtain ⟨o, e, _⟩ := T.obj _ _ st5 b hb
        exact (I7.pin (b, o) (List.mem_append_right _ (List.mem_append_right _ (mem_pinsAt hb e)))).2.1
      | true =>
        rw [if_pos rfl] at q7
        refine wpAny_mono (he _ _ _ _ _ _ _ s7 σ6 H7 _ I7 q7) (fun y s8 ⟨z, H8, I8, r8, xs, hx8, hz8, m', hm, w8⟩ => ?_) fun _ _ z => z.elim
        refine wpAny_mono (mt_append (X := blk X sc cl (s2.heap.objs.size + 1) N' s2 H1 fp pins) _ s8 σ6 H8 (.ref s2.heap.objs.size) [z] (.ref s2.heap.objs.size) [y] (fun _ H9 => H9 = upd H8 s2.heap.objs.size (.lst (xs ++ [z]))) I8 rfl (.cons r8 .nil) ⟨_, xs, z, rfl, rfl, hx8, hz8, rfl⟩) (fun _ s9 ⟨_, H9, I9, _, e9⟩ => ?_) fun _ _ z => z.elim
        subst e9
        refine ⟨m', hm, i + 1, σ6, _, I9.unpinned, T.keep _ _ _ st5 fun b hb o e => (I9.pin (b, o) (List.mem_append_right _ (List.mem_append_right _ (mem_pinsAt hb e)))).1, fun b hb => ?_, w8⟩
        obtain ⟨o, e, _⟩ := T.obj _ _ st5 b hb
        exact (I9.pin (b, o) (List.mem_append_right _ (List.mem_append_right _ (mem_pinsAt hb e)))).2.1
  exact codeAny_compStart_list (loop _ rfl) (T.self _ 0 _ _ _ st4 (loop _ rfl))
end
end L2
namespace L2
open PySem PySem.Spec PyProof.Rows
section
variable {X : Cx} {elt tg iter : Expr} {sc : Scope} {pos py spos : Pos} {wi : TI} {g : TG} {te : TE} {N : List Str} {names : List (Str × NameKind)} {N' : List Str} {k j : Nat} {pull : List Nat} {y : Str}
theorem ps_comp (hc : X.calm = true) (hNd : X.N.Nodup) (hj : X.N[j]? = some y) (hy : X.env.scope.names.lookup y = some .local) (B : BScope N names N' k pull sc) (hN : X.N = N) (hnm : X.env.scope.names = names) (hi : PI X tg iter wi)
    (hg : ∀ cl C s₂ H₁ fp pins, PG (blk X sc cl C N' s₂ H₁ fp pins) tg g) (he : ∀ cl C s₂ H₁ fp pins, PE (blk X sc cl C N' s₂ H₁ fp pins) elt te)
    (hs : ∀ x, foldedSetIterable iter X.env x = pure x := by intro _; rfl) (hsw : swapsWith (.ListComp elt [⟨tg, iter, [], 0⟩] sc pos) (some (.Name y py)) spos.line X.env = pure true := by rfl) : PS X (.Assign [.Name y py] (.ListComp elt [⟨tg, iter, [], 0⟩] sc pos) spos) (tAsg (tComp wi k pull g te) (gName j)) := by
  intro pins s σ H D I h
  rw [exec_Assign_Name_used _ _ _ _ hsw]
  refine wpAny_bind (wpAny_standAt (wpAny_bind ?_))
  show wpAny _ X.A (do let _ ← comprehension (.ListComp elt [⟨tg, iter, [], 0⟩] sc pos) sc X.env _ (newList []) false (eval iter X.env) (some (assign (.Name y py) X.env))) _ _ s
  have hcells : ∀ y ∈ sc.names, y.2 = .free → ∃ c, X.env.cells.lookup y.1 = some c := fun y hy hf => I.ok.has y.1 (.inl (by
    show X.env.scope.names.lookup y.1 = _
    rw [hnm]; exact B.fre y hy hf))
  obtain ⟨cl, ecl, c1, _, c3⟩ := closureFor_is (env := X.env) sc.names [] hcells (fun x c e => nomatch e)
  rw [← closureFor_eq] at ecl
  refine wpAny_bind (wpAny_mono (wpAny_comprehension_free (Q := fun _ s' => SP X pins D .next s') (use := some (assign (.Name y py) X.env)) rfl hs ecl B.kind B.loc (thn (hi pins s σ H _ I h) fun xv s1 h1 => thn h1 fun itv s2 h2 => ?_)) (fun _ s' hq => wpAny_pure (wpAny_pure hq)) fun _ _ e => e)
  obtain ⟨it, fp, tn, J, H1, e, I2, T, st2, f2, hW⟩ := h2
  subst e
  have ho : ∀ b ∈ fp, ∃ o, s2.heap.get? b = some o := fun b hb => let ⟨o, e, _⟩ := T.obj _ _ st2 b hb; ⟨o, e⟩
  refine wpAny_newObj_type (wpAny_newFunctionEnv B.nocell (by intro y hy; simp at hy) (fun h₁ hns₁ hsb₁ => ?_) B.kind)
  dsimp only at hns₁ hsb₁ ⊢
  rw [Heap.size_push] at hns₁ hsb₁ ⊢
  have old : ∀ b o, s2.heap.get? b = some o → h₁.get? b = some o := fun b o e => by
    have hlt := Heap.lt_size e
    exact (hsb₁.2 b (Nat.ne_of_lt (Nat.lt_succ_of_lt hlt))).trans (Heap.get?_push_of_some _ (Heap.get?_push_of_some _ e))
  have hd : h₁.get? s2.heap.objs.size = some { cls := .type "list", data := .seq ([] : List Value).toArray } :=
    (hsb₁.2 _ (Nat.ne_of_lt (Nat.lt_succ_self _))).trans (Heap.get?_push_of_some _ (Heap.get?_push_size _ rfl))
  have I4 := blk_start (tk := s2.toks + ([] : List (Str × Value)).length) B hN hnm I2 f2 ho c1 c3 hns₁ old hd
  have st4 : tn 0 h₁ := T.keep _ _ _ st2 fun b _ o e => old b o e
  obtain ⟨W, ⟨m0, w0⟩, turn⟩ := hW s2.heap.objs.size (I2.hok.fresh (Nat.le_refl _))
  have fr4 : ∀ b ∈ fp, (upd H1 s2.heap.objs.size (.lst [])) b = none := fun b hb => by
    obtain ⟨o, e⟩ := ho b hb
    rw [upd_ne (Nat.ne_of_lt (Heap.lt_size e))]
    exact (f2 b hb).1
  -- what stays true of the iterator's objects
  have stat : ∀ {H' : Hp}, (∀ b ∈ fp, H' b = none) → ∀ b ∈ fp, FpOk (blk X sc cl (s2.heap.objs.size + 1) N' s2 H1 fp pins) [] H' b := fun hn b hb => by
    refine ⟨hn b hb, (I4.ok.exf b hb).1, I4.ok.exfs b hb, .inl hb, (I4.ok.exf b hb).2, fun p hp => ?_⟩
    have hp : p ∈ X.pn ++ pins := by simpa [blk] using hp
    exact (f2 b hb).2.2.2.2.2 p hp
  have loop : ∀ s₃ : Shared, s₃ = { s2 with heap := h₁, toks := s2.toks + ([] : List (Str × Value)).length } →
      codeAny (model X.prog X.w) X.A (.compLoop (.ListComp elt [⟨tg, iter, [], 0⟩] sc pos) 0 (.ref it) (.ref s2.heap.objs.size) (compEnvC sc cl (s2.heap.objs.size + 1) X.env))
        (compPost (model X.prog X.w) X.A X.xe (some (assign (.Name y py) X.env)) (fun _ s' => SP X pins D .next s') (.ref s2.heap.objs.size) (s2.heap.objs.size + 1)) s₃ := by
    rintro s₃ rfl
    refine comp_turn (fun n s' => ∃ i σ' H', Inv (blk X sc cl (s2.heap.objs.size + 1) N' s2 H1 fp pins) [] σ' H' s' ∧ tn i s'.heap ∧ (∀ b ∈ fp, H' b = none) ∧ W i n σ' H') ?_ m0 ⟨0, _, _, I4, st4, fr4, w0⟩
    rintro n s3 ⟨i, σ3, H3, I3, st3, fr3, w3⟩
    rcases turn i n σ3 H3 w3 with ⟨stop, q⟩ | ⟨go, step⟩
    · refine thn (T.done (blk X sc cl (s2.heap.objs.size + 1) N' s2 H1 fp pins) rfl rfl rfl hc i [] s3 σ3 H3 _ I3 (stat fr3) st3 stop) fun r s4 ⟨hr, I5⟩ => ?_
      subst hr
      obtain ⟨m, hn, _⟩ := id I5.loc
      have U : Un (frs X.stack) fp H1 H3 s2.heap s4.heap := I5.base
      have J5 : Inv X pins σ H3 s4 := I2.call' (s' := s4) I5.os U I5.hok I5.bare fun b hb => ⟨(f2 b hb).2.2.2.1, (f2 b hb).2.1, (f2 b hb).2.2.2.2.1, (f2 b hb).2.2.2.2.2⟩
      obtain ⟨g0, g1, _, g3, g4, g5⟩ : FpOk X pins H3 (s2.heap.objs.size + 1) := I2.fpOk (Nat.le_succ _) I5.free
      refine wpAny_assign_Name (store_ok2 J5 hNd hj (.inl hy) (v := .ref s2.heap.objs.size) rfl (fun s5 K5 ⟨a, sb, ha⟩ => ?_) (.inr hy))
      have hne : s2.heap.objs.size + 1 ≠ a := fun z => by
        rcases ha with ha | ha
        · exact g1 (z.trans ha)
        · exact g4 _ _ ha z.symm
      refine ⟨m, hn.sameBut sb hne, fun h' hs' => ⟨_, H3, ?_, q⟩⟩
      exact K5.turned (t' := s5.toks) (fun b o hb e => (hs'.2 b hb).trans e) g0 g1 g3 g4 g5
    · refine thn (T.item (blk X sc cl (s2.heap.objs.size + 1) N' s2 H1 fp pins) rfl rfl rfl hc i [] s3 σ3 H3 _ I3 (stat fr3) st3 go) fun r s4 ⟨u, hr, h4⟩ => ?_
      subst hr
      refine thn h4 fun _ s5 ⟨x, H5, I5, r5, y5, st5, fr5⟩ => ?_
      have I5' := I5.pinned (stat fr5) (T.obj _ _ st5)
      refine wpAny_mono (hg _ _ _ _ _ _ _ s5 σ3 H5 x u _ I5' r5 (step x H5 y5)) (fun _ s6 ⟨σ6, H6, I6, q6⟩ => ?_) fun _ _ z => z.elim
      refine wpAny_mono (he _ _ _ _ _ _ _ s6 σ6 H6 _ I6 q6) (fun y s7 ⟨z, H7, I7, r7, xs, hx7, hz7, m', hm, w7⟩ => ?_) fun _ _ z => z.elim
      refine wpAny_mono (mt_append (X := blk X sc cl (s2.heap.objs.size + 1) N' s2 H1 fp pins) _ s7 σ6 H7 (.ref s2.heap.objs.size) [z] (.ref s2.heap.objs.size) [y] (fun _ H8 => H8 = upd H7 s2.heap.objs.size (.lst (xs ++ [z]))) I7 rfl (.cons r7 .nil) ⟨_, xs, z, rfl, rfl, hx7, hz7, rfl⟩) (fun _ s8 ⟨_, H8, I8, _, e8⟩ => ?_) fun _ _ z => z.elim
      subst e8
      refine ⟨m', hm, i + 1, σ6, _, I8.unpinned, T.keep _ _ _ st5 fun b hb o e => (I8.pin (b, o) (List.mem_append_right _ (List.mem_append_right _ (mem_pinsAt hb e)))).1, fun b hb => ?_, w7⟩
      obtain ⟨o, e, _⟩ := T.obj _ _ st5 b hb
      exact (I8.pin (b, o) (List.mem_append_right _ (List.mem_append_right _ (mem_pinsAt hb e)))).2.1
  exact codeAny_compStart_list (loop _ rfl) (T.self _ 0 _ _ _ st4 (loop _ rfl))
end
end L2
namespace L2
open PySem PySem.Spec PyProof.Rows
def XW (n : Nat) (Pv : Nat → List V → St → Hp → Prop) (d : Addr) (i m : Nat) (σ : St) (H : Hp) : Prop := m = n - i ∧ i ≤ n ∧ ∃ xs, Pv i xs σ H ∧ H d = some (.lst xs)
def XPost (n : Nat) (Pv : Nat → List V → St → Hp → Prop) (d : Addr) (i : Nat) (σ3 : St) (y : V) (H4 : Hp) : Prop := ∃ xs, H4 d = some (.lst xs) ∧ xs.length < sizeLine ∧ ∃ m', m' < n - i ∧ XW n Pv d (i + 1) m' σ3 (upd H4 d (.lst (xs ++ [y])))
def XSkip (n : Nat) (Pv : Nat → List V → St → Hp → Prop) (d : Addr) (i : Nat) (σ3 : St) (H4 : Hp) : Prop := ∃ m', m' < n - i ∧ XW n Pv d (i + 1) m' σ3 H4
theorem xpost {n : Nat} {Pv : Nat → List V → St → Hp → Prop} {d : Addr} {i : Nat} {σ3 : St} {y : V} {H4 : Hp} {xs : List V} (hi : i < n) (hd : H4 d = some (.lst xs)) (hl : xs.length ≤ 1000) (hp : Pv (i + 1) (xs ++ [y]) σ3 (upd H4 d (.lst (xs ++ [y])))) : XPost n Pv d i σ3 y H4 :=
  ⟨xs, hd, small1000 hl, n - (i + 1), by omega, rfl, hi, _, hp, upd_same⟩
theorem xskip {n : Nat} {Pv : Nat → List V → St → Hp → Prop} {d : Addr} {i : Nat} {σ3 : St} {H4 : Hp} {xs : List V} (hi : i < n) (hd : H4 d = some (.lst xs)) (hp : Pv (i + 1) xs σ3 H4) : XSkip n Pv d i σ3 H4 :=
  ⟨n - (i + 1), by omega, rfl, hi, _, hp, hd⟩
theorem comp_ex {J : It} {g : TG} {te : TE} {d : Addr} {σ0 : St} {H1 : Hp} {Q : Addr → Hp → Prop} (n : Nat) (Pv : Nat → List V → St → Hp → Prop) (h0 : Pv 0 [] σ0 (upd H1 d (.lst [])))
    (go : ∀ i xs σ H, i < n → Pv i xs σ H → H d = some (.lst xs) → J.go i H ∧ ∀ x H2, J.yld i H x H2 → g x σ H2 fun σ3 H3 => te σ3 H3 fun y H4 => XPost n Pv d i σ3 y H4)
    (stop : ∀ xs σ H, Pv n xs σ H → H d = some (.lst xs) → J.stop n H ∧ Q d H) :
    ∃ W : Nat → Nat → St → Hp → Prop, (∃ m, W 0 m σ0 (upd H1 d (.lst []))) ∧ ∀ i m σ' H', W i m σ' H' →
      (J.stop i H' ∧ Q d H') ∨ (J.go i H' ∧ ∀ x H2, J.yld i H' x H2 → g x σ' H2 fun σ3 H3 => te σ3 H3 fun y H4 => ∃ xs, H4 d = some (.lst xs) ∧ xs.length < sizeLine ∧ ∃ m', m' < m ∧ W (i + 1) m' σ3 (upd H4 d (.lst (xs ++ [y])))) := by
  refine ⟨XW n Pv d, ⟨n, by simp, Nat.zero_le _, [], h0, upd_same⟩, ?_⟩
  rintro i m σ H ⟨rfl, hi, xs, p, hd⟩
  by_cases hlt : i < n
  · exact .inr (go i xs σ H hlt p hd)
  · have : i = n := by omega
    subst this
    exact .inl (stop xs σ H p hd)
theorem compIf_ex {J : It} {g : TG} {tt : TT} {te : TE} {d : Addr} {σ0 : St} {H1 : Hp} {Q : Addr → Hp → Prop} (n : Nat) (Pv : Nat → List V → St → Hp → Prop) (h0 : Pv 0 [] σ0 (upd H1 d (.lst [])))
    (go : ∀ i xs σ H, i < n → Pv i xs σ H → H d = some (.lst xs) → J.go i H ∧ ∀ x H2, J.yld i H x H2 → g x σ H2 fun σ3 H3 => tt σ3 H3 fun b H4 => if b = true then te σ3 H4 fun y H5 => XPost n Pv d i σ3 y H5 else XSkip n Pv d i σ3 H4)
    (stop : ∀ xs σ H, Pv n xs σ H → H d = some (.lst xs) → J.stop n H ∧ Q d H) :
    ∃ W : Nat → Nat → St → Hp → Prop, (∃ m, W 0 m σ0 (upd H1 d (.lst []))) ∧ ∀ i m σ' H', W i m σ' H' →
      (J.stop i H' ∧ Q d H') ∨ (J.go i H' ∧ ∀ x H2, J.yld i H' x H2 → g x σ' H2 fun σ3 H3 => tt σ3 H3 fun b H4 => if b = true then te σ3 H4 fun y H5 => ∃ xs, H5 d = some (.lst xs) ∧ xs.length < sizeLine ∧ ∃ m', m' < m ∧ W (i + 1) m' σ3 (upd H5 d (.lst (xs ++ [y])))
        else ∃ m', m' < m ∧ W (i + 1) m' σ3 H4) := by
  refine ⟨XW n Pv d, ⟨n, by simp, Nat.zero_le _, [], h0, upd_same⟩, ?_⟩
  rintro i m σ H ⟨rfl, hi, xs, p, hd⟩
  by_cases hlt : i < n
  · exact .inr (go i xs σ H hlt p hd)
  · have : i = n := by omega
    subst this
    exact .inl (stop xs σ H p hd)
end L2
namespace K1
open PySem L2 Sq
/-- lists at these addresses -/
def Lsts (H : Hp) : List Addr → List (List Nat) → Prop
  | [], [] => True
  | a :: as, M :: Ms => H a = some (.lst (nv M)) ∧ Lsts H as Ms
  | _, _ => False
theorem Lsts.same {H H' : Hp} (e : Same H H') : ∀ {as : List Addr} {Ms : List (List Nat)}, Lsts H as Ms → Lsts H' as Ms
  | [], [], _ => trivial
  | _ :: _, _ :: _, ⟨h1, h2⟩ => ⟨e _ _ h1, Lsts.same e h2⟩
  | [], _ :: _, h => h.elim
  | _ :: _, [], h => h.elim
theorem Lsts.len {H : Hp} : ∀ {as : List Addr} {Ms : List (List Nat)}, Lsts H as Ms → as.length = Ms.length
  | [], [], _ => rfl
  | _ :: as, _ :: Ms, ⟨_, h2⟩ => by simp [Lsts.len h2]
  | [], _ :: _, h => h.elim
  | _ :: _, [], h => h.elim
theorem Lsts.get {H : Hp} : ∀ {as : List Addr} {Ms : List (List Nat)}, Lsts H as Ms → ∀ {i : Nat} {a : Addr}, as[i]? = some a → ∃ M, Ms[i]? = some M ∧ H a = some (.lst (nv M))
  | [], [], _, i, a, h => by simp at h
  | b :: as, M :: Ms, ⟨h1, h2⟩, 0, a, h => by simp at h; subst h; exact ⟨M, rfl, h1⟩
  | b :: as, M :: Ms, ⟨h1, h2⟩, i + 1, a, h => by
    obtain ⟨M', e1, e2⟩ := Lsts.get h2 (i := i) (a := a) (by simpa using h)
    exact ⟨M', by simpa using e1, e2⟩
  | [], _ :: _, h, _, _, _ => h.elim
  | _ :: _, [], h, _, _, _ => h.elim
theorem Lsts.snoc {H : Hp} : ∀ {as : List Addr} {Ms : List (List Nat)} {a : Addr} {M : List Nat}, Lsts H as Ms → H a = some (.lst (nv M)) → Lsts H (as ++ [a]) (Ms ++ [M])
  | [], [], _, _, _, h => ⟨h, trivial⟩
  | _ :: _, _ :: _, _, _, ⟨h1, h2⟩, h => ⟨h1, Lsts.snoc h2 h⟩
  | [], _ :: _, _, _, h, _ => h.elim
  | _ :: _, [], _, _, h, _ => h.elim
theorem Lsts.updN {H : Hp} {d : Addr} {o o' : HO} (hd : H d = some o') : ∀ {as : List Addr} {Ms : List (List Nat)}, Lsts H as Ms → (∀ a ∈ as, a ≠ d) → Lsts (upd H d o) as Ms
  | [], [], _, _ => trivial
  | a :: _, _ :: _, ⟨h1, h2⟩, hn => ⟨by rw [upd_ne (hn a (by simp))]; exact h1, Lsts.updN hd h2 fun b hb => hn b (by simp [hb])⟩
  | [], _ :: _, h, _ => h.elim
  | _ :: _, [], h, _ => h.elim
/-- the refs of a list of lists -/
def rv (as : List Addr) : List V := as.map V.ref
theorem rv_snoc (as : List Addr) (a : Addr) : rv as ++ [.ref a] = rv (as ++ [a]) := by simp [rv]
theorem rv_len (as : List Addr) : (rv as).length = as.length := by simp [rv]
theorem rv_get {as : List Addr} {i : Nat} {a : Addr} (h : as[i]? = some a) : (rv as)[i]? = some (.ref a) := by simp [rv, h]
theorem nv_int (M : List Nat) : nv M = (M.map fun (x : Nat) => (x : Int)).map V.int := by simp [nv]
def spCycles (K : PySem.W.Frag) : Sp := fun vs H Q _ => ∃ (p : Addr) (n : Nat) (r : List Nat), vs = [.ref p] ∧ RowAt K H p r ∧ Row n r ∧ n ≤ 36 ∧
  ∀ (H' : Hp) (l : Addr) (as : List Addr), Same H H' → H l = none → H' l = some (.lst (rv as)) → (∀ a ∈ as, H a = none) → Lsts H' as (rounds n r) → Q (.ref l) H'
theorem range_get {n i : Nat} (hi : i < n) : (List.range n)[i]? = some i := List.getElem?_range hi
section
variable {P : Program} {w : World} {K : PySem.W.Frag} {mg : Str → Option Value} {base : Heap}
abbrev nCs : List Str := ["row", "found"]
theorem scCs : FnScope nCs ["row"] (defScope sCycles) := ⟨rfl, rfl, rfl, by decide +kernel, rfl, by decide +kernel, by decide +kernel⟩
theorem ndCs1 : (["first", "row"] : List Str).Nodup := by decide +kernel
theorem ndCs2 : (["cycle"] : List Str).Nodup := by decide +kernel
theorem ok_cycles {f fc : Addr} {fd fdc : FuncData} (T : Bi mg) (Tm : mg "min" = none) (F : Fn K mg "cycles" sCycles ["row"] f fd) (FC : Fn K mg "cycle_from" sCycleFrom ["row", "first"] fc fdc) (GC : FnOk P w K mg base CX0 1 fc fdc ["row", "first"] (spCycF K)) :
    FnOk P w K mg base CX0 2 f fd ["row"] (spCycles K) := by
  refine F.F.ok scCs (fun vs H Q E h => ?_) (fun cdv A outer s H vs Q E hr h => ?_)
  · obtain ⟨p, n, r, rfl, _⟩ := h; rfl
  · obtain ⟨p, n, r, rfl, hp, rr, hn, k⟩ := h
    refine ⟨_, pss_cons (ps_comp (j := 1) (N := nCs) (names := (defScope sCycles).names) (N' := ["first", "row"]) (k := 1) (pull := [0]) (te := tCall (spCycF K) [] E0 (tCons (tVar 1) (tCons (tVar 0) tNil))) rfl scCs.nd rfl rfl
          ⟨by rfl, by decide +kernel, by decide +kernel, by rfl, by decide +kernel, by decide +kernel⟩ rfl rfl (pi_range1 rfl T.range (pa_cons (pe_callB call_len_seq rfl T.len PySem.boot_len (pa_cons (pv 0) pa_nil)) pa_nil)) (fun _ _ _ _ _ _ => pg_name (i := 0) ndCs1 rfl (Or.inl rfl))
          (fun _ _ _ _ _ _ => pe_call GC hr rfl FC.m FC.F.kp FC.b .nil pass0 (pa_cons (pv 1) (pa_cons (pv 0) pa_nil))))
      (pss_one (ps_ret (pe_compIf (N := nCs) (names := (defScope sCycles).names) (N' := ["cycle"]) (k := 1) (pull := []) (tt := tTest (tOp rEq (tOp (rIxL K) (tVar 0) (tC (.int 0))) (tCB (fun xs H Q => ∃ (p : Addr) (ns : List Int), xs = [.ref p] ∧ SqL K H p (ns.map V.int) ∧ ns ≠ [] ∧ ∀ m, m ∈ ns → (∀ y ∈ ns, m ≤ y) → Q (.int m) H) (tCons (tVar 0) tNil)))) (te := tVar 0) rfl
          ⟨by rfl, by decide +kernel, by decide +kernel, by rfl, by decide +kernel, by decide +kernel⟩ rfl rfl (pi_list (pv 1)) (fun _ _ _ _ _ _ => pg_name (i := 0) ndCs2 rfl (Or.inl rfl))
          (fun _ _ _ _ _ _ => pt_cmpR op_eq (pe_ix ix_list (pv 0) pe_int (fun _ _ => rfl)) (pe_callB (call_minL rfl) rfl Tm boot_min (pa_cons (pv 0) pa_nil)) (nomark _))
          (fun _ _ _ _ _ _ => pv 0)))), ?_⟩
    refine ⟨_, rfl, p, _, rfl, hp, (n : Int), by rw [nv_len, rr.len], by omega, by omega, fun d hd => ?_⟩
    rw [Int.toNat_natCast]
    show ∃ W : Nat → Nat → St → Hp → Prop, (∃ m, W 0 m [none, some (.ref p)] (upd H d (.lst []))) ∧ _
    refine comp_ex (J := Itr 0 n) (Q := fun d H' => gName 1 (.ref d) [some (.ref p), none] H' _) n (fun i xs σ H3 => ∃ o as, σ = [o, some (.ref p)] ∧ Same H H3 ∧ xs = rv as ∧ (∀ a ∈ as, H a = none ∧ a ≠ d) ∧ Lsts H3 as ((List.range i).map (cyc n r))) ⟨_, [], rfl, same_upd (Same.refl _) hd, rfl, by simp, trivial⟩ ?_ ?_
    · rintro i xs σ H3 hi ⟨o, as, rfl, s3, rfl, fr, hL⟩ hd3
      refine ⟨hi, fun x H4 ⟨e1, e2⟩ => ?_⟩
      subst e1 e2
      rw [show (0 : Int) + (i : Int) = (i : Int) from by omega]
      refine ⟨_, rfl, _, rfl, p, n, r, i, rfl, hp.same s3, rr, hi, hn, fun H5 l M s5 f5 hl hM => ?_⟩
      have eM := hM.eq rr hi
      subst eM
      have hlen := hL.len
      rw [List.length_map, List.length_range] at hlen
      refine xpost hi (s5 _ _ hd3) (by rw [rv_len]; omega) ⟨_, as ++ [l], rfl, same_upd (s3.trans s5) hd, rv_snoc _ _, fun a ha => ?_, ?_⟩
      · rcases List.mem_append.mp ha with ha | ha
        · exact fr a ha
        · rw [List.mem_singleton.mp ha]
          exact ⟨s3.free f5, fun e => by rw [e, hd3] at f5; cases f5⟩
      · have nd : ∀ {a : Addr} {o : HO}, H5 a = some o → a ≠ d → (upd H5 d (.lst (rv as ++ [.ref l]))) a = some o := fun h hne => by rw [upd_ne hne]; exact h
        rw [List.range_succ, List.map_append]
        have hld : l ≠ d := fun e => by rw [e, hd3] at f5; cases f5
        refine Lsts.snoc ?_ (nd hl hld)
        have h5 := hL.same s5
        exact h5.updN (s5 _ _ hd3) fun a ha => (fr a ha).2
    · rintro xs σ H3 ⟨o, as, rfl, s3, rfl, fr, hL⟩ hd3
      refine ⟨Nat.le_refl _, ?_⟩
      have hlen := hL.len
      rw [List.length_map, List.length_range] at hlen
      refine ⟨_, rfl, d, rfl, ⟨_, SqL.of hd3⟩, fun e he => ?_⟩
      refine compIf_ex (σ0 := [none]) (Q := fun d H' => Q (.ref d) H') n (fun i xs σ H4 => ∃ o bs, σ = [o] ∧ Same H3 H4 ∧ xs = rv bs ∧ (∀ a ∈ bs, a ∈ as) ∧ Lsts H4 bs (((List.range i).filter (lead n r)).map (cyc n r))) ⟨_, [], rfl, same_upd (Same.refl _) he, rfl, by simp, trivial⟩ ?_ ?_
      · rintro i xs σ H4 hi ⟨o, bs, rfl, s4, rfl, sub, hB⟩ he4
        have ha : as[i]? = some (as[i]'(by omega)) := List.getElem?_eq_getElem _
        generalize as[i]'(by omega) = a at ha
        obtain ⟨M, hM, hA⟩ := hL.get ha
        rw [List.getElem?_map, range_get hi] at hM
        have eM : cyc n r i = M := Option.some.inj hM
        subst eM
        have hd4 := SqL.of (K := K) (s4 _ _ hd3)
        refine ⟨⟨_, _, hd4, rv_get ha⟩, fun y H5 ⟨e1, hy⟩ => ?_⟩
        subst e1
        have hy := hy _ hd4
        rw [rv_get ha] at hy
        cases hy
        have hA4 := s4 _ _ hA
        refine ⟨_, rfl, a, _, 0, _, rfl, rfl, SqL.of hA4, atI_nat (j := 0) (nv_get (cyc_head rr hi)), _, rfl, a, (cyc n r i).map fun (x : Nat) => (x : Int), rfl, by rw [← nv_int]; exact SqL.of hA4, ?_, fun m hm hle => ?_⟩
        · intro z
          have := cyc_head rr hi
          rw [List.map_eq_nil_iff.mp z] at this
          simp at this
        obtain ⟨x, hx, rfl⟩ := List.mem_map.mp hm
        refine ⟨rfl, _, rfl, ?_⟩
        have hblen := hB.len
        have hbl : bs.length ≤ 36 := by
          rw [hblen, List.length_map]
          have := List.length_filter_le (lead n r) (List.range i)
          rw [List.length_range] at this
          omega
        have hfs : (List.range (i + 1)).filter (lead n r) = (List.range i).filter (lead n r) ++ [i].filter (lead n r) := by rw [List.range_succ, List.filter_append]
        by_cases e : i = x
        · subst e
          rw [decide_eq_true rfl]
          refine iteT ?_
          have hld : lead n r i = true := lead_iff.mpr fun y hy => by
            have := hle _ (List.mem_map.mpr ⟨y, hy, rfl⟩); omega
          refine ⟨_, rfl, xpost hi he4 (by rw [rv_len]; omega) ⟨_, bs ++ [a], rfl, same_upd s4 he, rv_snoc _ _, fun b hb => ?_, ?_⟩⟩
          · rcases List.mem_append.mp hb with hb | hb
            · exact sub b hb
            · rw [List.mem_singleton.mp hb]; exact List.mem_of_getElem? ha
          · rw [hfs, List.filter_cons_of_pos hld, List.filter_nil, List.map_append]
            refine Lsts.snoc (hB.updN he4 ?_) ?_
            · intro b hb z
              obtain ⟨j, hj⟩ := List.getElem?_of_mem (sub b hb)
              obtain ⟨M, _, hM⟩ := hL.get hj
              rw [z, he] at hM; cases hM
            · rw [upd_ne (fun z => by rw [z, he] at hA; cases hA)]; exact hA4
        · rw [decide_eq_false (by intro z; have := V.int.inj z; omega)]
          refine iteF ?_
          have hnl : ¬ lead n r i = true := fun z => by
            have h1 := lead_iff.mp z x hx
            have h2 := hle _ (List.mem_map.mpr ⟨i, List.mem_of_getElem? (cyc_head rr hi), rfl⟩)
            omega
          refine xskip hi he4 ⟨_, bs, rfl, s4, rfl, sub, ?_⟩
          rw [hfs, List.filter_cons_of_neg hnl, List.filter_nil, List.append_nil]
          exact hB
      · rintro xs σ H4 ⟨o, bs, rfl, s4, rfl, sub, hB⟩ he4
        refine ⟨⟨_, SqL.of (s4 _ _ hd3), by rw [rv_len, hlen]; exact Nat.le_refl _⟩, ?_⟩
        exact k H4 e bs (s3.trans s4) (s3.free he) he4 (fun a ha => (fr a (sub a ha)).1) hB
end
end K1
namespace K1
open PySem L2 Sq
def spBackRow : Sp := fun vs H Q _ => ∃ (p : Addr) (n : Nat) (r : List Nat), vs = [.ref p] ∧ H p = some (.tup (nv r)) ∧ Row n r ∧ n ≤ 36 ∧ ∀ (H' : Hp) (l : Addr), Same H H' → H' l = some (.tup (nv (back r))) → Q (.ref l) H'
section
variable {P : Program} {w : World} {K : PySem.W.Frag} {mg : Str → Option Value} {base : Heap}
theorem scBackRow : FnScope ["row", "back", "square", "target"] ["row"] (defScope sBackRow) := ⟨rfl, rfl, rfl, by decide +kernel, rfl, by decide +kernel, by decide +kernel⟩
theorem ok_backRow {f : Addr} {fd : FuncData} (T : Bi mg) (F : Fn K mg "back_row" sBackRow ["row"] f fd) : FnOk P w K mg base CX0 1 f fd ["row"] spBackRow := by
  refine F.F.ok scBackRow (fun vs H Q E h => ?_) (fun cdv A outer s H vs Q E hr h => ?_)
  · obtain ⟨p, n, r, rfl, _⟩ := h; rfl
  · obtain ⟨p, n, r, rfl, hp, rr, hn, k⟩ := h
    refine ⟨_, pss_cons (ps_set (i := 1) scBackRow.nd rfl (Or.inl rfl) (pe_callTy call_list_of rfl T.list boot_list (pa_cons (pv 0) pa_nil)))
      (pss_cons (ps_for PassesOwn.never rfl (pi_enumT rfl T.enum (pa_cons (pv 0) pa_nil)) (pg_tupE rfl (pgs_cons (pg_name (i := 2) scBackRow.nd rfl (Or.inl rfl)) (pgs_cons (pg_name (i := 3) scBackRow.nd rfl (Or.inl rfl)) pgs_nil)))
        (pss_one (ps_lput (pv 1) (pv 3) (pv 2) rfl)))
      (pss_one (ps_ret (pe_callTy call_tuple_of rfl T.tuple boot_tuple (pa_cons (pv 1) pa_nil))))), ?_⟩
    refine ⟨_, rfl, p, _, rfl, .inr (SqT.of hp), fun lb hlb => ?_⟩
    have s1 : Same H (upd H lb (.lst (nv r))) := same_upd (Same.refl H) hlb
    refine ⟨_, rfl, p, rfl, ⟨_, SqT.of (s1 _ _ hp)⟩, for_en (xs := nv r) (fun i σ H2 => ∃ o2 o3 bl, σ = [some (.ref p), some (.ref lb), o2, o3] ∧ Same H H2 ∧ H2 lb = some (.lst (nv bl)) ∧ bl.length = n ∧ ∀ k, k < i → bl[nx r k]? = some k)
      ⟨_, _, r, rfl, s1, upd_same, rr.len, fun k hk => absurd hk (Nat.not_lt_zero _)⟩ (fun i σ H2 _ ⟨_, _, _, _, s2, _⟩ => SqT.of (s2 _ _ hp)) ?_ ?_⟩
    · rintro i x σ H2 T' hx hT ⟨o2, o3, bl, rfl, s2, h2, hbl, hall⟩
      obtain ⟨y, hy, rfl⟩ := nv_get' hx
      have hi : i < n := by rw [← rr.len]; exact (List.getElem?_eq_some_iff.mp hy).1
      have ey : y = nx r i := by have := rr.get hi; rw [hy] at this; exact Option.some.inj this
      have hyn : y < n := by rw [ey]; exact rr.nlt hi
      have h2' : (upd H2 T' (tupE T' [.int (i : Int), .int (y : Int)])) lb = some (.lst (nv bl)) := by rw [upd_ne (ne_of_none h2 hT)]; exact h2
      refine ⟨T', _, rfl, upd_same, rfl, _, _, rfl, _, _, rfl, rfl, ?_⟩
      refine ⟨_, rfl, _, rfl, _, rfl, lb, _, _, y, rfl, rfl, h2', ?_, ?_⟩
      · unfold ixN
        rw [if_pos (by omega), if_pos (by rw [nv_len, hbl]; omega)]
        simp
      refine ⟨_, _, bl.set y i, rfl, same_upd (same_upd s2 (s2.free hT)) hlb, by rw [upd_same, nv_set], by rw [List.length_set]; exact hbl, fun k hk => ?_⟩
      rcases Nat.lt_or_ge k i with c | c
      · have hne : y ≠ nx r k := fun z => by
          rw [ey] at z
          have := rr.inj hi (by omega) z
          omega
        rw [List.getElem?_set_ne hne]
        exact hall k c
      · have : k = i := by omega
        subst this
        rw [← ey, List.getElem?_set_self (by rw [hbl]; exact hyn)]
    · rintro σ H2 ⟨o2, o3, bl, rfl, s2, h2, hbl, hall⟩
      rw [nv_len, rr.len] at hall
      have e := back_fill rr hbl hall
      subst e
      refine ⟨_, rfl, lb, _, rfl, .inl ⟨SqL.of h2, fun l hl => k _ l (same_upd s2 (s2.free hl)) upd_same⟩⟩
end
end K1
namespace Sq
open PySem
end Sq
namespace K1
open PySem L2 Sq
/-- [g(x) for x in row], row a tuple of numbers in the slot j -/
theorem compTupN {K : PySem.W.Frag} {Hc : Hp} {p : Addr} {r : List Nat} {j : Nat} {te : TE} {pull : List Nat} {Q : VK} {σ : St} {rest : St} (g : Nat → Nat) (hj : σ[j]? = some (some (.ref p))) (hp : SqT K Hc p (nv r)) (hb : bst 1 pull σ = none :: rest)
    (hte : ∀ (x : Nat) (H : Hp) (R : VK), x ∈ r → Same Hc H → R (.int (g x : Int)) H → te (some (.int (x : Int)) :: rest) H R) (hn : r.length ≤ 1000)
    (k : ∀ (H' : Hp) (d : Addr), Same Hc H' → Hc d = none → H' d = some (.lst (nv (r.map g))) → Q (.ref d) H') :
    tComp (iTup K (tVar j)) 1 pull (gName 0) te σ Hc Q := by
  refine ⟨_, hj, p, rfl, ⟨_, hp⟩, fun d hd => ?_⟩
  rw [hb]
  refine comp_by (Q := fun d H' => Q (.ref d) H') r.length (nv (r.map g)) (by rw [nv_len]; simp) (fun i σ H3 => (∃ o, σ = o :: rest) ∧ Same Hc H3) ⟨⟨_, rfl⟩, same_upd (Same.refl _) hd⟩ ?_ ?_
  · rintro i σ H3 hi ⟨⟨o, rfl⟩, s3⟩ hd3
    have hp3 := Same.tseq s3 hp
    have hg := nv_get (List.getElem?_eq_getElem hi)
    refine ⟨⟨_, _, hp3, hg⟩, fun y H4 ⟨e, hy⟩ => ?_⟩
    subst e
    have hy := hy _ hp3
    rw [hg] at hy
    cases hy
    refine hte _ _ _ (List.getElem_mem hi) s3 ?_
    exact cpost hi hn hd3 (nv_get (by simp [hi])) ⟨⟨_, rfl⟩, same_upd s3 hd⟩
  · rintro σ H3 ⟨⟨o, rfl⟩, s3⟩ hd3
    exact ⟨⟨_, Same.tseq s3 hp, by rw [nv_len]; exact Nat.le_refl _⟩, k H3 d s3 hd hd3⟩
end K1
namespace K1
open PySem L2 Sq
/-- left, down, right, up -/
def later (r u : List Nat) : List Nat := (List.range r.length).map fun k => nx u (nx r (nx (back u) (nx (back r) k)))
theorem later_len (r u : List Nat) : (later r u).length = r.length := by simp [later]
theorem later_nx {n : Nat} {r u : List Nat} (rr : Row n r) {k : Nat} (hk : k < n) : nx (later r u) k = nx u (nx r (nx (back u) (nx (back r) k))) := by
  have : k < r.length := by rw [rr.len]; exact hk
  simp [nx, later, List.getD, this]
theorem later_row {n : Nat} {r u : List Nat} (rr : Row n r) (ru : Row n u) : Row n (later r u) := by
  refine row_of (by rw [later_len, rr.len]) (fun i hi => ?_) (fun i j hi hj e => ?_)
  · rw [later_nx rr hi]; exact ru.nlt (rr.nlt (ru.back.nlt (rr.back.nlt hi)))
  · rw [later_nx rr hi, later_nx rr hj] at e
    have a := rr.back.nlt hi
    have b := rr.back.nlt hj
    exact rr.back.inj hi hj (ru.back.inj a b (rr.inj (ru.back.nlt a) (ru.back.nlt b) (ru.inj (rr.nlt (ru.back.nlt a)) (rr.nlt (ru.back.nlt b)) e)))
theorem later_map {n : Nat} {r u : List Nat} (rr : Row n r) : (back r).map (fun x => nx u (nx r (nx (back u) x))) = later r u := by
  refine List.ext_getElem? fun i => ?_
  by_cases hi : i < n
  · have h1 := rr.back.get hi
    have h2 : (later r u)[i]? = some (nx (later r u) i) := by
      have : i < (later r u).length := by rw [later_len, rr.len]; exact hi
      rw [List.getElem?_eq_getElem this]; unfold nx; rw [List.getD_eq_getElem?_getD, List.getElem?_eq_getElem this]; rfl
    rw [h2, List.getElem?_map, h1, later_nx rr hi]; rfl
  · have e1 := rr.len
    have e2 := rr.back.len
    rw [List.getElem?_eq_none (by rw [List.length_map]; omega), List.getElem?_eq_none (by rw [later_len]; omega)]
def spTurn : Sp := fun vs H Q _ => ∃ (a : Addr) (n : Nat) (r u : List Nat), vs = [.ref a] ∧ ShAt H a r u ∧ Row n r ∧ Row n u ∧ n ≤ 36 ∧ ∀ (H' : Hp) (l : Addr), Same H H' → H l = none → H' l = some (.lst (nv (later r u))) → Q (.ref l) H'
section
variable {P : Program} {w : World} {K : PySem.W.Frag} {mg : Str → Option Value} {base : Heap}
abbrev nTr : List Str := ["sheet", "left", "down"]
theorem scTr : FnScope nTr ["sheet"] (defScope sTurnRow) := ⟨rfl, rfl, rfl, by decide +kernel, rfl, by decide +kernel, by decide +kernel⟩
theorem ndTr : (["square", "sheet", "down"] : List Str).Nodup := by decide +kernel
theorem ok_turn {f fb : Addr} {fd fdb : FuncData} (F : Fn K mg "turn_row" sTurnRow ["sheet"] f fd) (FB : Fn K mg "back_row" sBackRow ["row"] fb fdb) (GB : FnOk P w K mg base CX0 1 fb fdb ["row"] spBackRow) :
    FnOk P w K mg base CX0 5 f fd ["sheet"] spTurn := by
  refine F.F.ok scTr (fun vs H Q E h => ?_) (fun cdv A outer s H vs Q E hr h => ?_)
  · obtain ⟨a, n, r, u, rfl, _⟩ := h; rfl
  · obtain ⟨a, n, r, u, rfl, ⟨p, q, h1, h2, h3⟩, rr, ru, hn, k⟩ := h
    have hr1 : Room 1 _ := hr.mono (by decide)
    refine ⟨_, pss_cons (ps_set (i := 1) scTr.nd rfl (Or.inl rfl) (pe_call GB hr1 rfl FB.m FB.F.kp FB.b .nil pass0 (pa_cons (pe_ix ix_tup (pv 0) pe_int (fun _ _ => rfl)) pa_nil)))
      (pss_cons (ps_set (i := 2) scTr.nd rfl (Or.inr rfl) (pe_call GB hr1 rfl FB.m FB.F.kp FB.b .nil pass0 (pa_cons (pe_ix ix_tup (pv 0) pe_int (fun _ _ => rfl)) pa_nil)))
      (pss_one (ps_ret (pe_comp (N := nTr) (names := (defScope sTurnRow).names) (N' := ["square", "sheet", "down"]) (k := 1) (pull := [0, 2]) (te := tOp (rIxT K) (tOp (rIxT K) (tVar 1) (tC (.int 1))) (tOp (rIxT K) (tOp (rIxT K) (tVar 1) (tC (.int 0))) (tOp (rIxT K) (tVar 2) (tVar 0)))) rfl
        ⟨by rfl, by decide +kernel, by decide +kernel, by rfl, by decide +kernel, by decide +kernel⟩ rfl rfl (pi_tup (pv 1)) (fun _ _ _ _ _ _ => pg_name (i := 0) ndTr rfl (Or.inl rfl))
        (fun _ _ _ _ _ _ => pe_ix ix_tup (pe_ix ix_tup (pv 1) pe_int (fun _ _ => rfl)) (pe_ix ix_tup (pe_ix ix_tup (pv 1) pe_int (fun _ _ => rfl)) (pe_ix ix_tup (pv 2) (pv 0) (fun _ _ => rfl)) (fun _ _ => rfl)) (fun _ _ => rfl)))))), ?_⟩
    refine ⟨_, rfl, a, _, 0, _, rfl, rfl, SqT.of h1, atI_nat (j := 0) rfl, p, n, r, rfl, h2, rr, hn, fun H1 l1 s1 hl1 => ?_⟩
    refine ⟨_, rfl, a, _, 1, _, rfl, rfl, SqT.of (s1 _ _ h1), atI_nat (j := 1) rfl, q, n, u, rfl, s1 _ _ h3, ru, hn, fun H2 l2 s2 hl2 => ?_⟩
    have s12 := s1.trans s2
    refine compTupN (r := back r) (rest := [some (.ref a), some (.ref l2)]) (fun x => nx u (nx r (nx (back u) x))) rfl (SqT.of (s2 _ _ hl1)) rfl (fun x H3 R hx s3 hR => ?_) (by rw [rr.back.len]; omega) fun H3 d s3 hd hd3 => ?_
    · have hx := rr.back.lt x hx
      have s13 := s12.trans s3
      refine ⟨_, rfl, a, _, 1, _, rfl, rfl, SqT.of (s13 _ _ h1), atI_nat (j := 1) rfl, ?_⟩
      refine ⟨_, rfl, a, _, 0, _, rfl, rfl, SqT.of (s13 _ _ h1), atI_nat (j := 0) rfl, ?_⟩
      refine ⟨_, rfl, _, rfl, l2, _, _, _, rfl, rfl, SqT.of (s3 _ _ hl2), atI_nat (nv_get (ru.back.get hx)), ?_⟩
      refine ⟨p, _, _, _, rfl, rfl, SqT.of (s13 _ _ h2), atI_nat (nv_get (rr.get (ru.back.nlt hx))), ?_⟩
      exact ⟨q, _, _, _, rfl, rfl, SqT.of (s13 _ _ h3), atI_nat (nv_get (ru.get (rr.nlt (ru.back.nlt hx)))), hR⟩
    · rw [later_map rr] at hd3
      exact k H3 d (s12.trans s3) (by
        cases e : H d with
        | none => rfl
        | some o => have := s12 _ _ e; rw [this] at hd; cases hd) hd3
end
end K1
namespace K1
open PySem L2 Sq
def spCorners : Sp := fun vs H Q _ => ∃ (a : Addr) (n : Nat) (r u : List Nat), vs = [.ref a] ∧ ShAt H a r u ∧ Row n r ∧ Row n u ∧ n ≤ 36 ∧
  ∀ (H' : Hp) (l : Addr) (as : List Addr), Same H H' → H l = none → H' l = some (.lst (rv as)) → (∀ a ∈ as, H a = none) → Lsts H' as (rounds n (later r u)) → Q (.ref l) H'
section
variable {P : Program} {w : World} {K : PySem.W.Frag} {mg : Str → Option Value} {base : Heap}
theorem scCo : FnScope ["sheet"] ["sheet"] (defScope sCorners) := ⟨rfl, rfl, rfl, by decide +kernel, rfl, by decide +kernel, by decide +kernel⟩
theorem ok_corners {f fc ft : Addr} {fd fdc fdt : FuncData} (F : Fn K mg "corners" sCorners ["sheet"] f fd) (FT : Fn K mg "turn_row" sTurnRow ["sheet"] ft fdt) (GT : FnOk P w K mg base CX0 5 ft fdt ["sheet"] spTurn)
    (FC : Fn K mg "cycles" sCycles ["row"] fc fdc) (GC : FnOk P w K mg base CX0 2 fc fdc ["row"] (spCycles K)) : FnOk P w K mg base CX0 6 f fd ["sheet"] spCorners := by
  refine F.F.ok scCo (fun vs H Q E h => ?_) (fun cdv A outer s H vs Q E hr h => ?_)
  · obtain ⟨a, n, r, u, rfl, _⟩ := h; rfl
  · obtain ⟨a, n, r, u, rfl, hsh, rr, ru, hn, k⟩ := h
    have hr2 : Room 2 _ := hr.mono (by decide)
    refine ⟨_, pss_one (ps_ret (pe_call GC hr2 rfl FC.m FC.F.kp FC.b .nil pass0 (pa_cons (pe_call GT hr rfl FT.m FT.F.kp FT.b .nil pass0 (pa_cons (pv 0) pa_nil)) pa_nil))), ?_⟩
    refine ⟨_, rfl, a, n, r, u, rfl, hsh, rr, ru, hn, fun H1 l1 s1 _ hl1 => ?_⟩
    exact ⟨l1, n, _, rfl, .inl (SqL.of hl1), later_row rr ru, hn, fun H2 l as s2 f2 hl fr hL => k H2 l as (s1.trans s2) (s1.free f2) hl (fun a ha => s1.free (fr a ha)) hL⟩
end
end K1
namespace Sq
def roughs (n : Nat) (w : List Nat) : List Nat := ((rounds n w).filter fun M => decide (1 < M.length)).flatten
def notPlain (n : Nat) (w : List Nat) : List Nat := (List.range n).filter fun x => !decide (nx w x = x)
theorem flat_sub {α : Type} (p : List α → Bool) : ∀ l : List (List α), ((l.filter p).flatten).Sublist l.flatten
  | [] => List.Sublist.refl _
  | a :: l => by
    by_cases h : p a = true
    · rw [List.filter_cons_of_pos h, List.flatten_cons, List.flatten_cons]
      exact List.Sublist.append_left (flat_sub p l) a
    · rw [List.filter_cons_of_neg h, List.flatten_cons]
      exact (flat_sub p l).trans (List.sublist_append_right _ _)
section
variable {n : Nat} {w : List Nat}
theorem it_fix {x : Nat} (h : nx w x = x) : ∀ i, it w x i = x
  | 0 => rfl
  | i + 1 => by show nx w (it w x i) = x; rw [it_fix h i, h]
theorem rough_mem (rw' : Row n w) {l x : Nat} (hl : l < n) (hx : x ∈ cyc n w l) : 1 < (cyc n w l).length ↔ nx w x ≠ x := by
  have hxn := cyc_lt rw' hl hx
  constructor
  · intro h e
    have hlx : l = x := by
      obtain ⟨i, _, rfl⟩ := mem_it rw' (cyc_symm rw' hl hx)
      exact it_fix e i
    subst hlx
    exact (cyc_is rw' hl).new 1 (Nat.le_refl _) h e
  · intro h
    have hp := (cyc_is rw' hl).pos
    rcases Nat.lt_or_ge 1 (cyc n w l).length with c | c
    · exact c
    · have h1 : (cyc n w l).length = 1 := by omega
      have hb := (cyc_is rw' hl).back
      rw [h1] at hb
      obtain ⟨i, hi, rfl⟩ := mem_it rw' hx
      rw [cyc_len] at h1
      have : i = 0 := by omega
      subst this
      exact absurd hb h
theorem roughs_perm (rw' : Row n w) : (roughs n w).Perm (notPlain n w) := by
  have hp := rounds_perm rw'
  have nd : (rounds n w).flatten.Nodup := hp.nodup_iff.mpr List.nodup_range
  refine (List.perm_ext_iff_of_nodup (List.Nodup.sublist (flat_sub _ _) nd) (List.Nodup.sublist List.filter_sublist List.nodup_range)).mpr fun x => ?_
  constructor
  · intro h
    obtain ⟨M, hM, hx⟩ := List.mem_flatten.mp h
    obtain ⟨h1, h2⟩ := List.mem_filter.mp hM
    obtain ⟨l, hl, rfl⟩ := List.mem_map.mp h1
    have hl := List.mem_range.mp (List.mem_filter.mp hl).1
    have := (rough_mem rw' hl hx).mp (of_decide_eq_true h2)
    exact List.mem_filter.mpr ⟨List.mem_range.mpr (cyc_lt rw' hl hx), by show (!decide (nx w x = x)) = true; rw [decide_eq_false this]; rfl⟩
  · intro h
    obtain ⟨h1, h2⟩ := List.mem_filter.mp h
    have h2 : nx w x ≠ x := fun e => by
      have h2 : (!decide (nx w x = x)) = true := h2
      rw [decide_eq_true e] at h2; cases h2
    obtain ⟨l, hl, hld, hx⟩ := has_lead rw' (List.mem_range.mp h1)
    exact List.mem_flatten.mpr ⟨_, List.mem_filter.mpr ⟨List.mem_map.mpr ⟨l, List.mem_filter.mpr ⟨List.mem_range.mpr hl, hld⟩, rfl⟩, decide_eq_true ((rough_mem rw' hl hx).mpr h2)⟩, hx⟩
theorem roughs_nd (rw' : Row n w) : (roughs n w).Nodup := (roughs_perm rw').nodup_iff.mpr (List.Nodup.sublist List.filter_sublist List.nodup_range)
theorem roughs_len (rw' : Row n w) : (roughs n w).length ≤ n := by
  rw [(roughs_perm rw').length_eq]
  have := List.length_filter_le (fun x => !decide (nx w x = x)) (List.range n)
  rwa [List.length_range] at this
end
end Sq
namespace K1
open PySem L2 Sq
def ik (x : Nat) : Key := Sum.inl (x : Int)
def LeastV (n : Nat) (w : List Nat) (s : Nat) (v : V) : Prop := ∃ M ∈ rounds n w, s ∈ M ∧ v = .int ((M.getD 0 0 : Nat) : Int)
theorem valV_mem {kvs : List (Key × V)} {k : Key} {v : V} (h : valV kvs k = some v) : ∃ kv ∈ kvs, kv.1 = k ∧ kv.2 = v := by
  unfold valV at h
  cases e : kvs.find? (fun kv => decide (kv.1 = k)) with
  | none => rw [e] at h; cases h
  | some kv =>
    rw [e] at h
    exact ⟨kv, List.mem_of_find?_eq_some e, (by have := List.find?_some e; simpa using this), Option.some.inj h⟩
def spRough : Sp := fun vs H Q _ => ∃ (a : Addr) (n : Nat) (r u : List Nat), vs = [.ref a] ∧ ShAt H a r u ∧ Row n r ∧ Row n u ∧ n ≤ 36 ∧
  ∀ (H' : Hp) (d : Addr) (kvs : List (Key × V)), Same H H' → H d = none → H' d = some (.dK kvs) → kvs.map (·.1) = (roughs n (later r u)).map ik → (∀ kv ∈ kvs, ∀ s : Nat, kv.1 = ik s → LeastV n (later r u) s kv.2) → Q (.ref d) H'
theorem val_none {kvs : List (Key × V)} {F : List Nat} (h : kvs.map (·.1) = F.map ik) {y : Nat} (hy : y ∉ F) : valV kvs (ik y) = none := by
  cases e : valV kvs (ik y) with
  | none => rfl
  | some v =>
    have := valV_in e
    rw [h] at this
    obtain ⟨x, hx, ex⟩ := List.mem_map.mp this
    have : x = y := by have := Sum.inl.inj ex; omega
    exact absurd (this ▸ hx) hy
section
variable {P : Program} {w : World} {K : PySem.W.Frag} {mg : Str → Option Value} {base : Heap}
abbrev nRs : List Str := ["sheet", "least", "corner", "square"]
theorem scRs : FnScope nRs ["sheet"] (defScope sRoughSquares) := ⟨rfl, rfl, rfl, by decide +kernel, rfl, by decide +kernel, by decide +kernel⟩
set_option maxHeartbeats 2000000 in
theorem ok_rough {f fc : Addr} {fd fdc : FuncData} (T : Bi mg) (F : Fn K mg "rough_squares" sRoughSquares ["sheet"] f fd) (FC : Fn K mg "corners" sCorners ["sheet"] fc fdc) (GC : FnOk P w K mg base CX0 6 fc fdc ["sheet"] spCorners) :
    FnOk P w K mg base CX0 7 f fd ["sheet"] spRough := by
  refine F.F.ok scRs (fun vs H Q E h => ?_) (fun cdv A outer s H vs Q E hr h => ?_)
  · obtain ⟨a, n, r, u, rfl, _⟩ := h; rfl
  · obtain ⟨a, n, r, u, rfl, hsh, rr, ru, hn, k⟩ := h
    have hu := hu_of hr
    refine ⟨_, pss_cons (ps_set (i := 1) scRs.nd rfl (Or.inl rfl) pe_dnewK)
      (pss_cons (ps_for PassesOwn.never rfl (pi_list (pe_call GC hr rfl FC.m FC.F.kp FC.b .nil pass0 (pa_cons (pv 0) pa_nil))) (pg_name (i := 2) scRs.nd rfl (Or.inl rfl))
        (pss_one (ps_if (pt_cmpR op_gt (pe_callB call_len_seq rfl T.len PySem.boot_len (pa_cons (pv 2) pa_nil)) pe_int (nomark _))
          (pss_one (ps_for PassesOwn.never rfl (pi_list (pv 2)) (pg_name (i := 3) scRs.nd rfl (Or.inl rfl))
            (pss_one (ps_dput hu (pv 1) (pv 3) (pe_ix ix_list (pv 2) pe_int (fun _ _ => rfl)) rfl)))) pss_nil)))
      (pss_one (ps_ret (pv 1)))), ?_⟩
    intro d hd
    have s0 : Same H (upd H d (.dK [])) := same_upd (Same.refl H) hd
    have rl := later_row rr ru
    refine ⟨_, rfl, a, n, r, u, rfl, hsh.same s0, rr, ru, hn, fun H1 l as s1 fl hl fr hL => ?_⟩
    have e1 : H1 d = some (.dK []) := s1 _ _ upd_same
    have hlen := hL.len
    have hnd := roughs_nd rl
    have hrl := roughs_len rl
    have ndl : l ≠ d := fun e => by rw [e, upd_same] at fl; cases fl
    refine ⟨l, rfl, ⟨_, SqL.of hl⟩, for_list (K := K) (a := l) (xs := rv as) (fun i σ H2 => ∃ o2 o3 kvs, σ = [some (.ref a), some (.ref d), o2, o3] ∧ (∀ b o, b ≠ d → H1 b = some o → H2 b = some o) ∧ H2 d = some (.dK kvs) ∧ kvs.map (·.1) = ((((rounds n (later r u)).take i).filter fun M => decide (1 < M.length)).flatten).map ik ∧ (∀ kv ∈ kvs, ∀ s : Nat, kv.1 = ik s → LeastV n (later r u) s kv.2)) ⟨_, _, [], rfl, fun _ _ _ h => h, e1, rfl, fun kv h => nomatch h⟩ (fun i σ H2 _ ⟨_, _, _, _, s2, _⟩ => SqL.of (s2 _ _ ndl hl)) ?_ ?_⟩
    · rintro i x σ H2 hx ⟨o2, o3, kvs, rfl, s2, h2d, hk, hlv⟩
      have hi : i < as.length := by
        have := (List.getElem?_eq_some_iff.mp hx).1
        rwa [rv_len] at this
      have ha : as[i]? = some as[i] := List.getElem?_eq_getElem hi
      generalize as[i] = b at ha
      rw [rv_get ha] at hx
      cases hx
      obtain ⟨M, hM, hB⟩ := hL.get ha
      have nbd : b ≠ d := fun e => by
        have := fr b (List.mem_of_getElem? ha)
        rw [e, upd_same] at this; cases this
      have hB2 := s2 _ _ nbd hB
      have hfl : (((rounds n (later r u)).take (i + 1)).filter fun M => decide (1 < M.length)).flatten = ((((rounds n (later r u)).take i).filter fun M => decide (1 < M.length)).flatten) ++ (if 1 < M.length then M else []) := by
        rw [List.take_add_one, hM, List.filter_append, List.flatten_append]
        congr 1
        by_cases c : 1 < M.length
        · simp [c]
        · simp [c]
      have hsplit : roughs n (later r u) = ((((rounds n (later r u)).take (i + 1)).filter fun M => decide (1 < M.length)).flatten) ++ ((((rounds n (later r u)).drop (i + 1)).filter fun M => decide (1 < M.length)).flatten) := by
        unfold roughs
        rw [← List.flatten_append, ← List.filter_append, List.take_append_drop]
      refine ⟨_, rfl, b, _, rfl, .inl (SqL.of hB2), _, _, rfl, rfl, _, rfl, ?_⟩
      rw [nv_len]
      refine ite2 (fun hgt => ?_) (fun hle => ?_)
      · have hgt : (1 : Int) < (M.length : Int) := of_decide_eq_true hgt
        have hgt' : 1 < M.length := by omega
        rw [if_pos hgt'] at hfl
        generalize hFe : (((rounds n (later r u)).take i).filter fun M => decide (1 < M.length)).flatten = Fl at hk hfl
        rw [hfl] at hsplit
        have hnd2 : (Fl ++ M).Nodup := by rw [hsplit] at hnd; exact (List.nodup_append.mp hnd).1
        have hlen2 : Fl.length + M.length ≤ 36 := by
          have := congrArg List.length hsplit
          rw [List.length_append, List.length_append] at this
          omega
        have h0 : M[0]? = some (M[0]'(by omega)) := List.getElem?_eq_getElem (by omega)
        refine ⟨_, rfl, b, rfl, ⟨_, SqL.of hB2⟩, for_list (K := K) (a := b) (xs := nv M) (fun j σ H3 => ∃ o3 kvs, σ = [some (.ref a), some (.ref d), some (.ref b), o3] ∧ (∀ b o, b ≠ d → H1 b = some o → H3 b = some o) ∧ H3 d = some (.dK kvs) ∧ kvs.map (·.1) = (Fl ++ M.take j).map ik ∧ (∀ kv ∈ kvs, ∀ s : Nat, kv.1 = ik s → LeastV n (later r u) s kv.2)) ⟨_, kvs, rfl, s2, h2d, by rw [List.take_zero, List.append_nil]; exact hk, hlv⟩ (fun j σ H3 _ ⟨_, _, _, s3, _⟩ => SqL.of (s3 _ _ nbd hB)) ?_ ?_⟩
        · rintro j v σ H3 hv ⟨o3, kvs3, rfl, s3, h3d, hk3, hlv3⟩
          obtain ⟨y, hy, rfl⟩ := nv_get' hv
          have hj : j < M.length := (List.getElem?_eq_some_iff.mp hy).1
          have hB3 := s3 _ _ nbd hB
          have hmt : M.take (j + 1) = M.take j ++ [y] := by rw [List.take_add_one, hy]; rfl
          have hny : y ∉ Fl ++ M.take j := by
            have e : Fl ++ M = (Fl ++ M.take j) ++ (y :: M.drop (j + 1)) := by
              rw [List.append_assoc]
              congr 1
              have e1 : y = M[j] := by rw [List.getElem?_eq_getElem hj] at hy; exact (Option.some.inj hy).symm
              rw [e1, ← List.drop_eq_getElem_cons hj, List.take_append_drop]
            rw [e] at hnd2
            exact fun z => (List.nodup_append.mp hnd2).2.2 y z y (by simp) rfl
          have hvn := val_none hk3 hny
          have hkl : kvs3.length = (Fl ++ M.take j).length := by simpa using congrArg List.length hk3
          have hkl2 : (Fl ++ M.take j).length ≤ 36 := by rw [List.length_append, List.length_take]; omega
          refine ⟨_, rfl, b, _, 0, _, rfl, rfl, SqL.of hB3, atI_nat (j := 0) (nv_get h0), _, rfl, _, rfl, d, _, rfl, DPut.k (k := ik y) h3d (by rw [hkl]; exact small1000 (by omega)), ?_⟩
          rw [putK_new _ hvn]
          refine ⟨_, _, rfl, fun c o hc ho => by rw [upd_ne hc]; exact s3 c o hc ho, upd_same, ?_, fun kv hkv s' es => ?_⟩
          · rw [List.map_append, hk3, hmt]
            simp
          · have hkv : kv ∈ kvs3 ∨ kv = (ik y, .int ((M[0]'(by omega) : Nat) : Int)) := by simpa using hkv
            rcases hkv with hkv | rfl
            · exact hlv3 kv hkv s' es
            · have es : y = s' := by have := Sum.inl.inj es; omega
              subst es
              refine ⟨M, List.mem_of_getElem? hM, List.mem_of_getElem? hy, ?_⟩
              rw [List.getD_eq_getElem?_getD, h0]; rfl
        · rintro σ H3 ⟨o3, kvs3, rfl, s3, h3d, hk3, hlv3⟩
          rw [nv_len, List.take_length] at hk3
          exact ⟨_, _, _, rfl, s3, h3d, by rw [hfl]; exact hk3, hlv3⟩
      · have hle : ¬ (1 : Int) < (M.length : Int) := fun z => hle (decide_eq_true z)
        rw [if_neg (by omega), List.append_nil] at hfl
        exact ⟨_, _, kvs, rfl, s2, h2d, by rw [hfl]; exact hk, hlv⟩
    · rintro σ H2 ⟨o2, o3, kvs, rfl, s2, h2d, hk, hlv⟩
      rw [rv_len, hlen, List.take_length] at hk
      exact ⟨_, rfl, k H2 d kvs (fun b o ho => s2 _ _ (fun e => by rw [e, hd] at ho; cases ho) (s1 _ _ (s0 _ _ ho))) hd h2d hk hlv⟩
end
end K1
namespace K1
open PySem L2 Sq
def S3 (H : Hp) (l : Addr) (sq : Nat) (x y : Int) : Prop := H l = some (.tup [.int (sq : Int), .int x, .int y])
def atC (kvs : List (Key × V)) (sq : Nat) (x y : Int) : Bool := decide (x = 0) && (decide (y = 0) && (valV kvs (ik sq)).isSome)
def spIc5 : Sp := fun vs H Q _ => ∃ (l d : Addr) (kvs : List (Key × V)) (sq : Nat) (x y : Int), vs = [.ref l, .ref d] ∧ S3 H l sq x y ∧ H d = some (.dK kvs) ∧ Q (.bl (atC kvs sq x y)) H
theorem dec_i (x : Int) : decide (V.int x = V.int 0) = decide (x = 0) := by
  rw [decide_eq_decide]; exact ⟨fun z => V.int.inj z, fun z => by rw [z]⟩
section
variable {P : Program} {w : World} {K : PySem.W.Frag} {mg : Str → Option Value} {base : Heap}
abbrev n_ic5 : List Str := ["spot", "rough"]
theorem sc_ic5 : FnScope n_ic5 ["spot", "rough"] (defScope sIsAtCorner) := ⟨rfl, rfl, rfl, by decide +kernel, rfl, by decide +kernel, by decide +kernel⟩
theorem ok_ic5 {f : Addr} {fd : FuncData} (F : Fn K mg "is_at_corner" sIsAtCorner ["spot", "rough"] f fd) : FnOk P w K mg base CX0 1 f fd ["spot", "rough"] spIc5 := by
  refine F.F.ok sc_ic5 (fun vs H Q E h => ?_) (fun cdv A outer s H vs Q E hr h => ?_)
  · obtain ⟨l, d, kvs, sq, x, y, rfl, _⟩ := h; rfl
  · obtain ⟨l, d, kvs, sq, x, y, rfl, h1, h2, k⟩ := h
    have hu := hu_of hr
    refine ⟨_, (pss_one (ps_ret (pe_and (pe_cmpR op_eq (pe_ix ix_tup (pv 0) pe_int (fun _ _ => rfl)) pe_int (nomark _)) (pe_and (pe_cmpR op_eq (pe_ix ix_tup (pv 0) pe_int (fun _ _ => rfl)) pe_int (nomark _)) (pe_one (pe_cmp (pc_din hu (pe_ix ix_tup (pv 0) pe_int (fun _ _ => rfl)) (pv 1)))))))), ?_⟩
    refine ⟨_, rfl, l, _, 1, _, rfl, rfl, SqT.of h1, atI_nat (j := 1) rfl, rfl, _, rfl, ?_⟩
    unfold atC at k
    rw [dec_i]
    cases hx : decide (x = 0) with
    | false => rw [hx] at k; exact iteF k
    | true =>
      rw [hx, Bool.true_and] at k
      refine iteT ?_
      refine ⟨_, rfl, l, _, 2, _, rfl, rfl, SqT.of h1, atI_nat (j := 2) rfl, rfl, _, rfl, ?_⟩
      rw [dec_i]
      cases hy : decide (y = 0) with
      | false => rw [hy] at k; exact iteF k
      | true =>
        rw [hy, Bool.true_and] at k
        refine iteT ?_
        exact ⟨_, rfl, l, _, 0, _, rfl, rfl, SqT.of h1, atI_nat (j := 0) rfl, _, rfl, d, _, rfl, DGet.k (k := ik sq) h2, k⟩
end
end K1
namespace K1
open PySem L2 Sq
def spSo5 : Sp := fun vs H Q _ => ∃ (l bk b0 b1 : Addr) (n sq : Nat) (x y p q U : Int) (r u : List Nat), vs = [.ref l, .int p, .int q, .ref bk, .int U] ∧ S3 H l sq x y ∧ H bk = some (.tup [.ref b0, .ref b1]) ∧ H b0 = some (.tup (nv (back r))) ∧ H b1 = some (.tup (nv (back u))) ∧ Row n r ∧ Row n u ∧ sq < n ∧
  ∀ (H' : Hp) (t : Addr), Same H H' → S3 H' t (app4 r u (lo p x 0 ++ lo q y 1) sq) (ou p U x) (ou q U y) → Q (.ref t) H'
section
variable {P : Program} {w : World} {K : PySem.W.Frag} {mg : Str → Option Value} {base : Heap}
abbrev n_so5 : List Str := ["spot", "p", "q", "back", "unit", "square", "x", "y"]
theorem sc_so5 : FnScope n_so5 ["spot", "p", "q", "back", "unit"] (defScope sSetOut) := ⟨rfl, rfl, rfl, by decide +kernel, rfl, by decide +kernel, by decide +kernel⟩
theorem ok_so5 {f : Addr} {fd : FuncData} (F : Fn K mg "set_out" sSetOut ["spot", "p", "q", "back", "unit"] f fd) : FnOk P w K mg base CX0 1 f fd ["spot", "p", "q", "back", "unit"] spSo5 := by
  refine F.F.ok sc_so5 (fun vs H Q E h => ?_) (fun cdv A outer s H vs Q E hr h => ?_)
  · obtain ⟨l, bk, b0, b1, n, sq, x, y, p, q, U, r, u, rfl, _⟩ := h; rfl
  · obtain ⟨l, bk, b0, b1, n, sq, x, y, p, q, U, r, u, rfl, h1, hb, h2, h3, rr, ru, hs, k⟩ := h
    refine ⟨_, (pss_cons (ps_set (i := 5) sc_so5.nd rfl (Or.inl rfl) (pe_ix ix_tup (pv 0) pe_int (fun _ _ => rfl)))
      (pss_cons (ps_set (i := 6) sc_so5.nd rfl (Or.inl rfl) (pe_ix ix_tup (pv 0) pe_int (fun _ _ => rfl)))
      (pss_cons (ps_set (i := 7) sc_so5.nd rfl (Or.inl rfl) (pe_ix ix_tup (pv 0) pe_int (fun _ _ => rfl)))
      (pss_cons (ps_if (PW.pt (pw_and (pt_cmpR op_lt (pv 1) pe_int (nomark _)) (pw_and1 (pt_cmpR op_eq (pv 6) pe_int (nomark _))))) (pss_cons (ps_set (i := 5) sc_so5.nd rfl (Or.inl rfl) (pe_ix ix_tup (pe_ix ix_tup (pv 3) pe_int (fun _ _ => rfl)) (pv 5) (fun _ _ => rfl)))
      (pss_one (ps_set (i := 6) sc_so5.nd rfl (Or.inl rfl) (pv 4)))) pss_nil)
      (pss_cons (ps_if (PW.pt (pw_and (pt_cmpR op_lt (pv 2) pe_int (nomark _)) (pw_and1 (pt_cmpR op_eq (pv 7) pe_int (nomark _))))) (pss_cons (ps_set (i := 5) sc_so5.nd rfl (Or.inl rfl) (pe_ix ix_tup (pe_ix ix_tup (pv 3) pe_int (fun _ _ => rfl)) (pv 5) (fun _ _ => rfl)))
      (pss_one (ps_set (i := 7) sc_so5.nd rfl (Or.inl rfl) (pv 4)))) pss_nil)
      (pss_one (ps_ret (pe_tup (pa_cons (pv 5) (pa_cons (pv 6) (pa_cons (pv 7) pa_nil))))))))))), ?_⟩
    refine ⟨_, rfl, l, _, 0, _, rfl, rfl, SqT.of h1, atI_nat (j := 0) rfl, _, rfl, l, _, 1, _, rfl, rfl, SqT.of h1, atI_nat (j := 1) rfl, _, rfl, l, _, 2, _, rfl, rfl, SqT.of h1, atI_nat (j := 2) rfl, ?_⟩
    rw [app4_add, app4_lo, app4_lo1] at k
    have hs' : (if p < 0 ∧ x = 0 then nx (back r) sq else sq) < n := by
      split
      · exact rr.back.nlt hs
      · exact hs
    unfold ou at k
    have fin : ∀ (sq' : Nat) (x' : Int), sq' < n → (∀ (H' : Hp) (t : Addr), Same H H' → S3 H' t (if q < 0 ∧ y = 0 then nx (back u) sq' else sq') x' (if q < 0 ∧ y = 0 then U else y) → Q (.ref t) H') →
        tSeq (tIfS (tAnd (tTest (tOp (rI0 fun i j => V.bl (decide (i < j))) (tVar 2) (tC (.int 0)))) (tTest (tOp rEq (tVar 7) (tC (.int 0))))) (tSeq (tAsg (tOp (rIxT K) (tOp (rIxT K) (tVar 3) (tC (.int 1))) (tVar 5)) (gName 5)) (tAsg (tVar 4) (gName 7))) tNext) (tRet (tTup (tCons (tVar 5) (tCons (tVar 6) (tCons (tVar 7) tNil))))) { nx := fun _ H' => Q .non H', rt := Q } [some (.ref l), some (.int p), some (.int q), some (.ref bk), some (.int U), some (.int (sq' : Int)), some (.int x'), some (.int y)] H := fun sq' x' hs2 k2 => by
      refine ⟨_, rfl, _, _, rfl, rfl, _, rfl, ?_⟩
      have done : ∀ (s3 : Nat) (y' : Int), (∀ (H' : Hp) (t : Addr), Same H H' → S3 H' t s3 x' y' → Q (.ref t) H') → tRet (tTup (tCons (tVar 5) (tCons (tVar 6) (tCons (tVar 7) tNil)))) { nx := fun _ H' => Q .non H', rt := Q } [some (.ref l), some (.int p), some (.int q), some (.ref bk), some (.int U), some (.int (s3 : Int)), some (.int x'), some (.int y')] H := fun s3 y' k3 => ⟨_, rfl, _, rfl, _, rfl, by show 3 ≤ sizeLine; decide, fun t ht => k3 _ t (same_upd (Same.refl H) ht) upd_same⟩
      by_cases hq : q < 0
      · rw [decide_eq_true hq]
        refine iteT ?_
        refine ⟨_, rfl, rfl, _, rfl, ?_⟩
        rw [dec_i]
        by_cases hy : y = 0
        · rw [decide_eq_true hy]
          refine iteT ?_
          rw [if_pos ⟨hq, hy⟩, if_pos ⟨hq, hy⟩] at k2
          refine ⟨_, rfl, bk, _, 1, _, rfl, rfl, SqT.of hb, atI_nat (j := 1) rfl, _, rfl, b1, _, _, _, rfl, rfl, SqT.of h3, atI_nat (nv_get (ru.back.get hs2)), _, rfl, ?_⟩
          exact done _ _ k2
        · rw [decide_eq_false hy]
          refine iteF ?_
          rw [if_neg (fun z => hy z.2), if_neg (fun z => hy z.2)] at k2
          exact done _ _ k2
      · rw [decide_eq_false hq]
        refine iteF ?_
        refine iteF ?_
        rw [if_neg (fun z => hq z.1), if_neg (fun z => hq z.1)] at k2
        exact done _ _ k2
    refine ⟨_, rfl, _, _, rfl, rfl, _, rfl, ?_⟩
    by_cases hp : p < 0
    · rw [decide_eq_true hp]
      refine iteT ?_
      refine ⟨_, rfl, rfl, _, rfl, ?_⟩
      rw [dec_i]
      by_cases hx : x = 0
      · rw [decide_eq_true hx]
        refine iteT ?_
        have hpx : p < 0 ∧ x = 0 := ⟨hp, hx⟩
        rw [if_pos hpx] at hs'
        rw [if_pos hpx, if_pos hpx] at k
        refine ⟨_, rfl, bk, _, 0, _, rfl, rfl, SqT.of hb, atI_nat (j := 0) rfl, _, rfl, b0, _, _, _, rfl, rfl, SqT.of h2, atI_nat (nv_get (rr.back.get hs)), _, rfl, ?_⟩
        exact fin _ _ hs' k
      · rw [decide_eq_false hx]
        refine iteF ?_
        have hpx : ¬ (p < 0 ∧ x = 0) := fun z => hx z.2
        rw [if_neg hpx, if_neg hpx] at k
        exact fin _ _ hs k
    · rw [decide_eq_false hp]
      refine iteF ?_
      refine iteF ?_
      have hpx : ¬ (p < 0 ∧ x = 0) := fun z => hp z.1
      rw [if_neg hpx, if_neg hpx] at k
      exact fin _ _ hs k
end
end K1
namespace K1
open PySem L2 Sq
def spAr5 : Sp := fun vs H Q _ => ∃ (l a : Addr) (n sq : Nat) (x y U : Int) (r u : List Nat), vs = [.ref l, .ref a, .int U] ∧ S3 H l sq x y ∧ ShAt H a r u ∧ Row n r ∧ Row n u ∧ sq < n ∧
  ∀ (H' : Hp) (t : Addr), Same H H' → S3 H' t (app4 r u (li U x 2 ++ li U y 3) sq) (z0 U x) (z0 U y) → Q (.ref t) H'
theorem dec_ij (x y : Int) : decide (V.int x = V.int y) = decide (x = y) := by
  rw [decide_eq_decide]; exact ⟨fun z => V.int.inj z, fun z => by rw [z]⟩
section
variable {P : Program} {w : World} {K : PySem.W.Frag} {mg : Str → Option Value} {base : Heap}
abbrev n_ar5 : List Str := ["spot", "sheet", "unit", "square", "x", "y"]
theorem sc_ar5 : FnScope n_ar5 ["spot", "sheet", "unit"] (defScope sArrived) := ⟨rfl, rfl, rfl, by decide +kernel, rfl, by decide +kernel, by decide +kernel⟩
theorem ok_ar5 {f : Addr} {fd : FuncData} (F : Fn K mg "arrived" sArrived ["spot", "sheet", "unit"] f fd) : FnOk P w K mg base CX0 1 f fd ["spot", "sheet", "unit"] spAr5 := by
  refine F.F.ok sc_ar5 (fun vs H Q E h => ?_) (fun cdv A outer s H vs Q E hr h => ?_)
  · obtain ⟨l, a, n, sq, x, y, U, r, u, rfl, _⟩ := h; rfl
  · obtain ⟨l, a, n, sq, x, y, U, r, u, rfl, h1, ⟨a0, a1, hb, h2, h3⟩, rr, ru, hs, k⟩ := h
    refine ⟨_, (pss_cons (ps_set (i := 3) sc_ar5.nd rfl (Or.inl rfl) (pe_ix ix_tup (pv 0) pe_int (fun _ _ => rfl)))
      (pss_cons (ps_set (i := 4) sc_ar5.nd rfl (Or.inl rfl) (pe_ix ix_tup (pv 0) pe_int (fun _ _ => rfl)))
      (pss_cons (ps_set (i := 5) sc_ar5.nd rfl (Or.inl rfl) (pe_ix ix_tup (pv 0) pe_int (fun _ _ => rfl)))
      (pss_cons (ps_if (pt_cmpR op_eq (pv 4) (pv 2) (nomark _)) (pss_cons (ps_set (i := 3) sc_ar5.nd rfl (Or.inl rfl) (pe_ix ix_tup (pe_ix ix_tup (pv 1) pe_int (fun _ _ => rfl)) (pv 3) (fun _ _ => rfl)))
      (pss_one (ps_set (i := 4) sc_ar5.nd rfl (Or.inl rfl) pe_int))) pss_nil)
      (pss_cons (ps_if (pt_cmpR op_eq (pv 5) (pv 2) (nomark _)) (pss_cons (ps_set (i := 3) sc_ar5.nd rfl (Or.inl rfl) (pe_ix ix_tup (pe_ix ix_tup (pv 1) pe_int (fun _ _ => rfl)) (pv 3) (fun _ _ => rfl)))
      (pss_one (ps_set (i := 5) sc_ar5.nd rfl (Or.inl rfl) pe_int))) pss_nil)
      (pss_one (ps_ret (pe_tup (pa_cons (pv 3) (pa_cons (pv 4) (pa_cons (pv 5) pa_nil))))))))))), ?_⟩
    refine ⟨_, rfl, l, _, 0, _, rfl, rfl, SqT.of h1, atI_nat (j := 0) rfl, _, rfl, l, _, 1, _, rfl, rfl, SqT.of h1, atI_nat (j := 1) rfl, _, rfl, l, _, 2, _, rfl, rfl, SqT.of h1, atI_nat (j := 2) rfl, ?_⟩
    rw [app4_add, app4_li, app4_li1] at k
    unfold z0 at k
    have fin : ∀ (sq' : Nat) (x' : Int), sq' < n → (∀ (H' : Hp) (t : Addr), Same H H' → S3 H' t (if y = U then nx u sq' else sq') x' (if y = U then 0 else y) → Q (.ref t) H') →
        tSeq (tIfS (tTest (tOp rEq (tVar 5) (tVar 2))) (tSeq (tAsg (tOp (rIxT K) (tOp (rIxT K) (tVar 1) (tC (.int 1))) (tVar 3)) (gName 3)) (tAsg (tC (.int 0)) (gName 5))) tNext) (tRet (tTup (tCons (tVar 3) (tCons (tVar 4) (tCons (tVar 5) tNil))))) { nx := fun _ H' => Q .non H', rt := Q } [some (.ref l), some (.ref a), some (.int U), some (.int (sq' : Int)), some (.int x'), some (.int y)] H := fun sq' x' hs2 k2 => by
      have done : ∀ (s3 : Nat) (y' : Int), (∀ (H' : Hp) (t : Addr), Same H H' → S3 H' t s3 x' y' → Q (.ref t) H') → tRet (tTup (tCons (tVar 3) (tCons (tVar 4) (tCons (tVar 5) tNil)))) { nx := fun _ H' => Q .non H', rt := Q } [some (.ref l), some (.ref a), some (.int U), some (.int (s3 : Int)), some (.int x'), some (.int y')] H := fun s3 y' k3 => ⟨_, rfl, _, rfl, _, rfl, by show 3 ≤ sizeLine; decide, fun t ht => k3 _ t (same_upd (Same.refl H) ht) upd_same⟩
      refine ⟨_, rfl, _, rfl, rfl, _, rfl, ?_⟩
      rw [dec_ij]
      by_cases hy : y = U
      · rw [decide_eq_true hy]
        refine iteT ?_
        rw [if_pos hy, if_pos hy] at k2
        refine ⟨_, rfl, a, _, 1, _, rfl, rfl, SqT.of hb, atI_nat (j := 1) rfl, _, rfl, a1, _, _, _, rfl, rfl, SqT.of h3, atI_nat (nv_get (ru.get hs2)), ?_⟩
        exact done _ _ k2
      · rw [decide_eq_false hy]
        refine iteF ?_
        rw [if_neg hy, if_neg hy] at k2
        exact done _ _ k2
    refine ⟨_, rfl, _, rfl, rfl, _, rfl, ?_⟩
    rw [dec_ij]
    by_cases hx : x = U
    · rw [decide_eq_true hx]
      refine iteT ?_
      rw [if_pos hx, if_pos hx] at k
      refine ⟨_, rfl, a, _, 0, _, rfl, rfl, SqT.of hb, atI_nat (j := 0) rfl, _, rfl, a0, _, _, _, rfl, rfl, SqT.of h2, atI_nat (nv_get (rr.get hs)), ?_⟩
      exact fin _ _ (rr.nlt hs) k
    · rw [decide_eq_false hx]
      refine iteF ?_
      rw [if_neg hx, if_neg hx] at k
      exact fin _ _ hs k
end
end K1
namespace K1
open PySem L2 Sq
def spIu5 (C : Addr) : Sp := fun vs H Q _ => ∃ (p : Addr) (t b U : Int), vs = [.ref p, .int U] ∧ PtAt C H p t b ∧ 0 < b ∧ Bt 60 b ∧ Bt 60 t ∧ Bt 1000 (U / b) ∧ Q (.int (t * (U / b))) H
section
variable {P : Program} {w : World} {K : PySem.W.Frag} {mg : Str → Option Value} {base : Heap}
abbrev n_iu5 : List Str := ["part", "unit"]
theorem sc_iu5 : FnScope n_iu5 ["part", "unit"] (defScope sInUnits) := ⟨rfl, rfl, rfl, by decide +kernel, rfl, by decide +kernel, by decide +kernel⟩
theorem ok_iu5 {f : Addr} {fd : FuncData} {C : Addr} (T : PTx K mg C) (F : Fn K mg "in_units" sInUnits ["part", "unit"] f fd) : FnOk P w K mg base CX0 1 f fd ["part", "unit"] (spIu5 C) := by
  refine F.F.ok sc_iu5 (fun vs H Q E h => ?_) (fun cdv A outer s H vs Q E hr h => ?_)
  · obtain ⟨p, t, b, U, rfl, _⟩ := h; rfl
  · obtain ⟨p, t, b, U, rfl, ⟨dx, h1⟩, b0, hb, ht, hU, k⟩ := h
    refine ⟨_, (pss_one (ps_ret (pe_op op_mulB (pe_fld (pv 0) rfl) (pe_op op_fdivB (pv 1) (pe_fld (pv 0) rfl))))), ?_⟩
    refine ⟨_, rfl, p, C, dx, _, _, rfl, h1, T.cl, T.nT, flds_top _ _, _, rfl, _, rfl, p, C, dx, _, _, rfl, h1, T.cl, T.nB, flds_bot _ _, _, _, rfl, rfl, ⟨by omega, hb.mono (by decide)⟩, ?_⟩
    dsimp only
    rw [Int.fdiv_eq_ediv_of_nonneg _ (by omega)]
    exact ⟨_, _, rfl, rfl, ⟨ht.mono (by decide), hU.mono (by decide)⟩, k⟩
end
end K1
namespace K1
open PySem L2 Sq
def spTs5 : Sp := fun vs H Q _ => ∃ (a s U : Int), vs = [.int a, .int s, .int U] ∧ s.natAbs ≤ 60 ∧ Q (.int (sid U a s)) H
section
variable {P : Program} {w : World} {K : PySem.W.Frag} {mg : Str → Option Value} {base : Heap}
abbrev n_ts5 : List Str := ["at", "speed", "unit"]
theorem sc_ts5 : FnScope n_ts5 ["at", "speed", "unit"] (defScope sTicksToSide) := ⟨rfl, rfl, rfl, by decide +kernel, rfl, by decide +kernel, by decide +kernel⟩
theorem ok_ts5 {f : Addr} {fd : FuncData} (F : Fn K mg "ticks_to_side" sTicksToSide ["at", "speed", "unit"] f fd) : FnOk P w K mg base CX0 1 f fd ["at", "speed", "unit"] spTs5 := by
  refine F.F.ok sc_ts5 (fun vs H Q E h => ?_) (fun cdv A outer s H vs Q E hr h => ?_)
  · obtain ⟨a, s', U, rfl, _⟩ := h; rfl
  · obtain ⟨a, s', U, rfl, hs, k⟩ := h
    refine ⟨_, (pss_cons (ps_if (pt_cmpR op_gt (pv 1) pe_int (nomark _)) (pss_one (ps_ret (pe_op op_fdiv (pe_op op_sub (pv 2) (pv 0)) (pv 1)))) pss_nil)
      (pss_cons (ps_if (pt_cmpR op_lt (pv 1) pe_int (nomark _)) (pss_one (ps_ret (pe_op op_fdiv (pv 0) (pe_un un_neg (pv 1))))) pss_nil)
      (pss_one (ps_ret (pv 2))))), ?_⟩
    unfold sid at k
    refine ⟨_, rfl, _, _, rfl, rfl, _, rfl, ?_⟩
    by_cases h1 : 0 < s'
    · rw [if_pos h1] at k
      rw [decide_eq_true h1]
      refine iteT ?_
      exact ⟨_, rfl, _, rfl, _, _, rfl, rfl, _, rfl, _, _, rfl, rfl, ⟨h1, by omega⟩, k⟩
    · rw [if_neg h1] at k
      rw [decide_eq_false h1]
      refine iteF ?_
      refine ⟨_, rfl, _, _, rfl, rfl, _, rfl, ?_⟩
      by_cases h2 : s' < 0
      · rw [if_pos h2] at k
        rw [decide_eq_true h2]
        refine iteT ?_
        exact ⟨_, rfl, _, rfl, _, rfl, _, _, rfl, rfl, ⟨by omega, by omega⟩, k⟩
      · rw [if_neg h2] at k
        rw [decide_eq_false h2]
        refine iteF ?_
        exact ⟨_, rfl, k⟩
end
end K1
namespace K1
open PySem L2 Sq
def spInit (C CN : Addr) : Sp := fun vs H Q E => ∃ (p dx : Addr) (t b : Int), vs = [.ref p, .int t, .int b] ∧ H p = some (.ins C dx []) ∧ Bt 4000 b ∧ (b = 0 → E (.ref CN) none H) ∧
  (b ≠ 0 → ∀ H' : Hp, (∀ x, x ≠ p → H' x = H x) → PtAt C H' p (lowT t b) (lowB t b) → Q .non H')
theorem mkPart1 {C CN x dx : Addr} {H : Hp} {t b : Int} {R : VK} {E : XK} (hb : b ≠ 0) (hB : Bt 4000 b) (nx : H x = none) (ndx : H dx = none) (k : ∀ H' : Hp, Same H H' → PtAt C H' x (lowT t b) (lowB t b) → R .non H') :
    spInit C CN [.ref x, .int t, .int b] (upd (upd H dx (.own x)) x (.ins C dx [])) R E := by
  refine ⟨x, dx, t, b, rfl, upd_same, hB, fun e => absurd e hb, fun _ H' s P => k H' (fun c o e => ?_) P⟩
  rw [s c (ne_of_none e nx), upd_ne (ne_of_none e nx), upd_ne (ne_of_none e ndx)]
  exact e
section
variable {P : Program} {w : World} {K : PySem.W.Frag} {mg : Str → Option Value} {base : Heap}
abbrev nPi : List Str := ["self", "top", "bottom", "divisor"]
theorem scPi : FnScope nPi ["self", "top", "bottom"] (defScope sPInit) := ⟨rfl, rfl, rfl, by decide +kernel, rfl, by decide +kernel, by decide +kernel⟩
theorem ok_init {f fg C CN : Addr} {fd fdg : FuncData} {dV : Value} (T : PTx K mg C) (hC : ExCls K CN) (hN : mg "NoNumber" = some (.ref CN)) (F : FunD K "__init__" "Part.__init__" sPInit dV f fd)
    (FG : Fn K mg "common_divisor" sCommonDivisor ["one", "other"] fg fdg) (GG : FnOk P w K mg base CX0 1 fg fdg ["one", "other"] spCd) : FnOk P w K mg base (CX1 P w) 2 f fd ["self", "top", "bottom"] (spInit C CN) := by
  refine F.ok1 scPi (fun vs H Q E h => ?_) (fun cdv A outer s H vs Q E hr h => ?_)
  · obtain ⟨p, dx, t, b, rfl, _⟩ := h; rfl
  · obtain ⟨p, dx, t, b, rfl, hp, hB, k1, k2⟩ := h
    refine ⟨_, pss_cons (ps_if (pt_cmpR op_eq (pv 2) pe_int (nomark _)) (pss_one (ps_raise rfl hC rfl hN throw1 (pa_cons pe_str pa_nil))) pss_nil)
      (pss_cons (ps_set (i := 3) scPi.nd rfl (Or.inl rfl) (pe_call GG hr rfl FG.m FG.F.kp FG.b .nil pass0 (pa_cons (pv 1) (pa_cons (pv 2) pa_nil))))
      (pss_cons (ps_if (pt_cmpR op_lt (pv 2) pe_int (nomark _)) (pss_one (ps_set (i := 3) scPi.nd rfl (Or.inl rfl) (pe_un un_neg (pv 3)))) pss_nil)
      (pss_cons (ps_fld (pv 0) (pe_op op_fdivB (pv 1) (pv 3)) rfl)
      (pss_one (ps_fld (pv 0) (pe_op op_fdivB (pv 2) (pv 3)) rfl))))), ?_⟩
    refine ⟨_, rfl, rfl, _, rfl, ?_⟩
    refine ite2 (fun h => ?_) (fun h => ?_)
    · have : b = 0 := by simpa using h
      exact ⟨by show 1 ≤ sizeLine; decide, k1 this⟩
    · have hb : b ≠ 0 := by simpa using h
      refine ⟨_, rfl, _, rfl, t, b, rfl, ?_⟩
      have hd : Bt 4000 (dv t b) := hB.le (by
        have e := lowB_mul t b
        have := lowB_pos (t := t) hb
        have : (dv t b).natAbs ≤ (lowB t b * dv t b).natAbs := by rw [Int.mul_comm]; exact abs_le_mul (by omega)
        rwa [e] at this)
      have rest : ∀ d : Int, d = dv t b → sFld K (tVar 0) (tOp (rI (fun _ j => j ≠ 0 ∧ Bt 4000 j) fun i j => .int (i.fdiv j)) (tVar 1) (tVar 3)) "top"
          { nx := fun σ H' => sFld K (tVar 0) (tOp (rI (fun _ j => j ≠ 0 ∧ Bt 4000 j) fun i j => .int (i.fdiv j)) (tVar 2) (tVar 3)) "bottom" { nx := fun _ H' => Q .non H', rt := Q } σ H', rt := Q } [some (.ref p), some (.int t), some (.int b), some (.int d)] H := by
        rintro d rfl
        refine ⟨_, rfl, _, rfl, _, _, rfl, rfl, ⟨dv_ne hb, hd⟩, _, rfl, p, C, dx, [], rfl, hp, T.cl, T.nT, (by show 0 < 1000; decide), ?_⟩
        refine ⟨_, rfl, _, rfl, _, _, rfl, rfl, ⟨dv_ne hb, hd⟩, _, rfl, p, C, dx, _, rfl, upd_same, T.cl, T.nB, (by show 1 < 1000; decide), ?_⟩
        exact k2 hb _ (fun x hx => by rw [upd_ne hx, upd_ne hx]) ⟨dx, upd_same⟩
      refine ⟨_, rfl, _, _, rfl, rfl, _, rfl, ?_⟩
      refine ite2 (fun h2 => ?_) (fun h2 => ?_)
      · have h2 : b < 0 := by simpa using h2
        refine ⟨_, rfl, _, rfl, ?_⟩
        exact rest _ (by unfold dv; rw [if_pos h2])
      · have h2 : ¬ b < 0 := by simpa using h2
        exact rest _ (by unfold dv; rw [if_neg h2])
end
end K1
namespace K1
open PySem L2 Sq
theorem unU_x {bx by_ p q : Int} (x0 : 0 < bx) : unU bx by_ p q / bx = by_ * mx1 p * mx1 q := by
  have e : unU bx by_ p q = bx * (by_ * mx1 p * mx1 q) := by unfold unU; simp only [Int.mul_assoc]
  rw [e, Int.mul_ediv_cancel_left _ (by omega)]
theorem unU_y {bx by_ p q : Int} (y0 : 0 < by_) : unU bx by_ p q / by_ = bx * mx1 p * mx1 q := by
  have e : unU bx by_ p q = by_ * (bx * mx1 p * mx1 q) := by unfold unU; simp only [← Int.mul_assoc]; rw [Int.mul_comm by_ bx]
  rw [e, Int.mul_ediv_cancel_left _ (by omega)]
theorem mx1_bt {p : Int} (h : p.natAbs ≤ 60) : Bt 6 (mx1 p) := by
  have := mx1_le h; have := mx1_pos p
  show (mx1 p).natAbs < 2 ^ 6
  have : (2 : Nat) ^ 6 = 64 := by decide
  omega
theorem unU_bt {bx by_ p q : Int} (hx : Bt 60 bx) (hy : Bt 60 by_) (hp : p.natAbs ≤ 60) (hq : q.natAbs ≤ 60) : Bt 200 (unU bx by_ p q) := Bt.mono (((hx.mul hy).mul (mx1_bt hp)).mul (mx1_bt hq)) (by decide)
def uX (tx bx by_ p q : Int) : Int := tx * (unU bx by_ p q / bx)
def uY (ty bx by_ p q : Int) : Int := ty * (unU bx by_ p q / by_)
theorem u_in {tx bx ty by_ p q M : Int} (x0 : 0 ≤ tx) (x1 : tx < bx) (y0 : 0 ≤ ty) (y1 : ty < by_) (hM : 0 ≤ M) : WIn p q (unU bx by_ p q) M ⟨uX tx bx by_ p q, uY ty bx by_ p q, 0, []⟩ := by
  have hp := mx1_pos p
  have hq := mx1_pos q
  have pb : 0 < bx := by omega
  have py : 0 < by_ := by omega
  have gx : 0 < by_ * mx1 p * mx1 q := Int.mul_pos (Int.mul_pos py (by omega)) (by omega)
  have gy : 0 < bx * mx1 p * mx1 q := Int.mul_pos (Int.mul_pos pb (by omega)) (by omega)
  have ex : unU bx by_ p q = bx * (by_ * mx1 p * mx1 q) := by unfold unU; simp only [Int.mul_assoc]
  have ey : unU bx by_ p q = by_ * (bx * mx1 p * mx1 q) := by unfold unU; simp only [← Int.mul_assoc]; rw [Int.mul_comm by_ bx]
  refine ⟨?_, ?_, ?_, ?_, Int.le_refl _, hM, fun h => ?_, fun h => ?_⟩
  · show 0 ≤ uX tx bx by_ p q
    unfold uX; rw [unU_x pb]; exact Int.mul_nonneg x0 (by omega)
  · show uX tx bx by_ p q < _
    unfold uX; rw [unU_x pb, ex]; exact Int.mul_lt_mul_of_pos_right x1 gx
  · show 0 ≤ uY ty bx by_ p q
    unfold uY; rw [unU_y py]; exact Int.mul_nonneg y0 (by omega)
  · show uY ty bx by_ p q < _
    unfold uY; rw [unU_y py, ey]; exact Int.mul_lt_mul_of_pos_right y1 gy
  · show p ∣ uX tx bx by_ p q
    unfold uX; rw [unU_x pb]
    exact Int.dvd_mul_of_dvd_right (Int.dvd_mul_of_dvd_left (Int.dvd_mul_of_dvd_right (mx1_dvd h)))
  · show q ∣ uY ty bx by_ p q
    unfold uY; rw [unU_y py]
    exact Int.dvd_mul_of_dvd_right (Int.dvd_mul_of_dvd_right (mx1_dvd h))
def crn (F : List Nat) (s : Nat) (x y : Int) : Bool := decide (x = 0) && (decide (y = 0) && decide (s ∈ F))
theorem atC_eq {kvs : List (Key × V)} {F : List Nat} (h : kvs.map (·.1) = F.map ik) (s : Nat) (x y : Int) : atC kvs s x y = crn F s x y := by
  unfold atC crn
  have e : (valV kvs (ik s)).isSome = decide (s ∈ F) := by
    by_cases hs : s ∈ F
    · rw [decide_eq_true hs, ← valV_any, List.any_eq_true]
      have : ik s ∈ kvs.map (·.1) := by rw [h]; exact List.mem_map.mpr ⟨s, hs, rfl⟩
      obtain ⟨kv, hkv, e⟩ := List.mem_map.mp this
      exact ⟨kv, hkv, decide_eq_true e⟩
    · rw [decide_eq_false hs, val_none h hs]; rfl
  rw [e]
/-- how a walk ends -/
abbrev W5 (tx bx ty by_ p q S : Int) : Nat → WS := ws p q (unU bx by_ p q) (S * unU bx by_ p q) (uX tx bx by_ p q) (uY ty bx by_ p q)
def Free5 (r u F : List Nat) (sq : Nat) (M : Int) (W : Nat → WS) (i : Nat) : Prop := ∀ j, j < i → crn F (app4 r u (W j).w sq) (W j).x (W j).y = false ∧ (W j).t < M
def End5 (C : Addr) (n sq : Nat) (r u : List Nat) (tx bx ty by_ p q S : Int) (H : Hp) (Q : VK) : Prop :=
  (∀ (H' : Hp) (t l' : Addr) (i : Nat), Same H H' → Free5 r u (roughs n (later r u)) sq (S * unU bx by_ p q) (W5 tx bx ty by_ p q S) i → (W5 tx bx ty by_ p q S i).t = S * unU bx by_ p q → crn (roughs n (later r u)) (app4 r u (W5 tx bx ty by_ p q S i).w sq) (W5 tx bx ty by_ p q S i).x (W5 tx bx ty by_ p q S i).y = false →
    H' t = some (.tup [.str (Str.ofString "there"), .ref l']) → P3 C H' l' (app4 r u (W5 tx bx ty by_ p q S i).w sq) (lowT (W5 tx bx ty by_ p q S i).x (unU bx by_ p q)) (lowB (W5 tx bx ty by_ p q S i).x (unU bx by_ p q)) (lowT (W5 tx bx ty by_ p q S i).y (unU bx by_ p q)) (lowB (W5 tx bx ty by_ p q S i).y (unU bx by_ p q)) → Q (.ref t) H') ∧
  (∀ (H' : Hp) (t pt : Addr) (i : Nat) (v : V), Same H H' → Free5 r u (roughs n (later r u)) sq (S * unU bx by_ p q) (W5 tx bx ty by_ p q S) i → crn (roughs n (later r u)) (app4 r u (W5 tx bx ty by_ p q S i).w sq) (W5 tx bx ty by_ p q S i).x (W5 tx bx ty by_ p q S i).y = true →
    H' t = some (.tup [.str (Str.ofString "corner"), v, .ref pt]) → LeastV n (later r u) (app4 r u (W5 tx bx ty by_ p q S i).w sq) v → PtAt C H' pt (lowT (W5 tx bx ty by_ p q S i).t (unU bx by_ p q)) (lowB (W5 tx bx ty by_ p q S i).t (unU bx by_ p q)) → Q (.ref t) H')
def spWd5 (C : Addr) : Sp := fun vs H Q _ => ∃ (a l : Addr) (n sq : Nat) (r u : List Nat) (tx bx ty by_ p q S : Int), vs = [.ref a, .ref l, .int p, .int q, .int S] ∧ ShAt H a r u ∧ Row n r ∧ Row n u ∧ n ≤ 36 ∧ P3 C H l sq tx bx ty by_ ∧ sq < n ∧ 0 ≤ tx ∧ tx < bx ∧ 0 ≤ ty ∧ ty < by_ ∧ Bt 60 bx ∧ Bt 60 by_ ∧ p.natAbs ≤ 60 ∧ q.natAbs ≤ 60 ∧ ¬ (p = 0 ∧ q = 0) ∧ 0 ≤ S ∧ S ≤ 1000000 ∧ End5 C n sq r u tx bx ty by_ p q S H Q
def muM (M : Int) (j : Nat) (σ : St) : Nat := match σ[j]? with
  | some (some (.int k)) => (M - k).toNat
  | _ => 0
section
variable {P : Program} {w : World} {K : PySem.W.Frag} {mg : Str → Option Value} {base : Heap}
abbrev n_wd5 : List Str := ["sheet", "place", "p", "q", "steps", "unit", "rough", "back", "spot", "ticks", "room"]
theorem sc_wd5 : FnScope n_wd5 ["sheet", "place", "p", "q", "steps"] (defScope sWalked) := ⟨rfl, rfl, rfl, by decide +kernel, rfl, by decide +kernel, by decide +kernel⟩
set_option maxHeartbeats 1000000 in
theorem ok_wd5 {f fu fr fb fn fc fs ft fa : Addr} {fd du dr db dn dc ds dt da : FuncData} {C CN fi : Addr} {di : FuncData} (TB : Bi mg) (T : PTx K mg C) (T_min : mg "min" = none) (M : Mk K C fi) (bI : Binds K di ["self", "top", "bottom"] []) (GI : FnOk P w K mg base (CX1 P w) 2 fi di ["self", "top", "bottom"] (spInit C CN)) (F : Fn K mg "walked" sWalked ["sheet", "place", "p", "q", "steps"] f fd) (FU : Fn K mg "unit_of" sUnitOf ["place", "p", "q"] fu du) (GU : FnOk P w K mg base CX0 1 fu du ["place", "p", "q"] (spUo5 C))
    (FR : Fn K mg "rough_squares" sRoughSquares ["sheet"] fr dr) (GR : FnOk P w K mg base CX0 7 fr dr ["sheet"] spRough)
    (FB : Fn K mg "back_row" sBackRow ["row"] fb db) (GB : FnOk P w K mg base CX0 1 fb db ["row"] spBackRow)
    (FN : Fn K mg "in_units" sInUnits ["part", "unit"] fn dn) (GN : FnOk P w K mg base CX0 1 fn dn ["part", "unit"] (spIu5 C))
    (FC : Fn K mg "is_at_corner" sIsAtCorner ["spot", "rough"] fc dc) (GC : FnOk P w K mg base CX0 1 fc dc ["spot", "rough"] spIc5)
    (FS : Fn K mg "set_out" sSetOut ["spot", "p", "q", "back", "unit"] fs ds) (GS : FnOk P w K mg base CX0 1 fs ds ["spot", "p", "q", "back", "unit"] spSo5)
    (FT : Fn K mg "ticks_to_side" sTicksToSide ["at", "speed", "unit"] ft dt) (GT : FnOk P w K mg base CX0 1 ft dt ["at", "speed", "unit"] spTs5)
    (FA : Fn K mg "arrived" sArrived ["spot", "sheet", "unit"] fa da) (GA : FnOk P w K mg base CX0 1 fa da ["spot", "sheet", "unit"] spAr5) : FnOk P w K mg base CX0 8 f fd ["sheet", "place", "p", "q", "steps"] (spWd5 C) := by
  refine F.F.ok sc_wd5 (fun vs H Q E h => ?_) (fun cdv A outer s H vs Q E hr h => ?_)
  · obtain ⟨a, l, n, sq, r, u, tx, bx, ty, by_, p, q, S, rfl, _⟩ := h; rfl
  · obtain ⟨a, l, n, sq, r, u, tx, bx, ty, by_, p, q, S, rfl, hsh, rr, ru, hn, hl, hs, x0, x1, y0, y1, hbx, hby, hp, hq, hne, S0, S1, k1, k2⟩ := h
    have hr3 : Room 3 _ := hr.mono (by decide)
    have hu := hu_of hr
    have hr1 : Room 1 _ := hr.mono (by decide)
    have hr7 : Room 7 _ := hr.mono (by decide)
    refine ⟨_, (pss_cons (ps_set (i := 5) sc_wd5.nd rfl (Or.inl rfl) (pe_call GU hr1 rfl FU.m FU.F.kp FU.b .nil pass0 (pa_cons (pv 1) (pa_cons (pv 2) (pa_cons (pv 3) pa_nil)))))
      (pss_cons (ps_set (i := 6) sc_wd5.nd rfl (Or.inl rfl) (pe_call GR hr7 rfl FR.m FR.F.kp FR.b .nil pass0 (pa_cons (pv 0) pa_nil)))
      (pss_cons (ps_set (i := 7) sc_wd5.nd rfl (Or.inl rfl) (pe_tup (pa_cons (pe_call GB hr1 rfl FB.m FB.F.kp FB.b .nil pass0 (pa_cons (pe_ix ix_tup (pv 0) pe_int (fun _ _ => rfl)) pa_nil)) (pa_cons (pe_call GB hr1 rfl FB.m FB.F.kp FB.b .nil pass0 (pa_cons (pe_ix ix_tup (pv 0) pe_int (fun _ _ => rfl)) pa_nil)) pa_nil))))
      (pss_cons (ps_set (i := 8) sc_wd5.nd rfl (Or.inl rfl) (pe_tup (pa_cons (pe_ix ix_tup (pv 1) pe_int (fun _ _ => rfl)) (pa_cons (pe_call GN hr1 rfl FN.m FN.F.kp FN.b .nil pass0 (pa_cons (pe_ix ix_tup (pv 1) pe_int (fun _ _ => rfl)) (pa_cons (pv 5) pa_nil))) (pa_cons (pe_call GN hr1 rfl FN.m FN.F.kp FN.b .nil pass0 (pa_cons (pe_ix ix_tup (pv 1) pe_int (fun _ _ => rfl)) (pa_cons (pv 5) pa_nil))) pa_nil)))))
      (pss_cons (ps_set (i := 9) sc_wd5.nd rfl (Or.inl rfl) pe_int)
      (pss_cons (ps_while PassesOwn.never (PW.pt (pw_and (pt_cmpR op_lt (pv 9) (pe_op op_mul (pv 4) (pv 5)) (nomark _)) (pw_and1 (pt_not (pt_val (pe_call GC hr1 rfl FC.m FC.F.kp FC.b .nil pass0 (pa_cons (pv 8) (pa_cons (pv 6) pa_nil)))))))) (pss_cons (ps_set (i := 8) sc_wd5.nd rfl (Or.inl rfl) (pe_call GS hr1 rfl FS.m FS.F.kp FS.b .nil pass0 (pa_cons (pv 8) (pa_cons (pv 2) (pa_cons (pv 3) (pa_cons (pv 7) (pa_cons (pv 5) pa_nil)))))))
      (pss_cons (ps_set (i := 10) sc_wd5.nd rfl (Or.inl rfl) (pe_callB (call_min3 rfl) rfl T_min boot_min (pa_cons (pe_call GT hr1 rfl FT.m FT.F.kp FT.b .nil pass0 (pa_cons (pe_ix ix_tup (pv 8) pe_int (fun _ _ => rfl)) (pa_cons (pv 2) (pa_cons (pv 5) pa_nil)))) (pa_cons (pe_call GT hr1 rfl FT.m FT.F.kp FT.b .nil pass0 (pa_cons (pe_ix ix_tup (pv 8) pe_int (fun _ _ => rfl)) (pa_cons (pv 3) (pa_cons (pv 5) pa_nil)))) (pa_cons (pe_op op_sub (pe_op op_mul (pv 4) (pv 5)) (pv 9)) pa_nil)))))
      (pss_cons (ps_set (i := 8) sc_wd5.nd rfl (Or.inl rfl) (pe_call GA hr1 rfl FA.m FA.F.kp FA.b .nil pass0 (pa_cons (pe_tup (pa_cons (pe_ix ix_tup (pv 8) pe_int (fun _ _ => rfl)) (pa_cons (pe_op op_add (pe_ix ix_tup (pv 8) pe_int (fun _ _ => rfl)) (pe_op op_mul (pv 2) (pv 10))) (pa_cons (pe_op op_add (pe_ix ix_tup (pv 8) pe_int (fun _ _ => rfl)) (pe_op op_mul (pv 3) (pv 10))) pa_nil)))) (pa_cons (pv 0) (pa_cons (pv 5) pa_nil)))))
      (pss_one (ps_aug (i := 9) sc_wd5.nd rfl (Or.inl rfl) (pv 10) ip_add))))))
      (pss_cons (ps_if (pt_val (pe_call GC hr1 rfl FC.m FC.F.kp FC.b .nil pass0 (pa_cons (pv 8) (pa_cons (pv 6) pa_nil)))) (pss_one (ps_ret (pe_tup (pa_cons pe_str (pa_cons (pe_dget hu (pv 6) (pe_ix ix_tup (pv 8) pe_int (fun _ _ => rfl)) (fun _ _ => rfl)) (pa_cons (pe_make M GI hr3 rfl T.mgC bI .nil passE0 (pa_cons (pv 9) (pa_cons (pv 5) pa_nil))) pa_nil)))))) pss_nil)
      (pss_one (ps_ret (pe_tup (pa_cons pe_str (pa_cons (pe_tup (pa_cons (pe_ix ix_tup (pv 8) pe_int (fun _ _ => rfl)) (pa_cons (pe_make M GI hr3 rfl T.mgC bI .nil passE0 (pa_cons (pe_ix ix_tup (pv 8) pe_int (fun _ _ => rfl)) (pa_cons (pv 5) pa_nil))) (pa_cons (pe_make M GI hr3 rfl T.mgC bI .nil passE0 (pa_cons (pe_ix ix_tup (pv 8) pe_int (fun _ _ => rfl)) (pa_cons (pv 5) pa_nil))) pa_nil)))) pa_nil)))))))))))), ?_⟩
    have three : 3 ≤ sizeLine := by decide
    have pbx : 0 < bx := by omega
    have pby : 0 < by_ := by omega
    have o := unU_ok (p := p) (q := q) pbx pby hne
    have hUb := unU_bt hbx hby hp hq
    have btx : Bt 60 tx := by have : bx.natAbs < 2 ^ 60 := hbx; show tx.natAbs < 2 ^ 60; omega
    have bty : Bt 60 ty := by have : by_.natAbs < 2 ^ 60 := hby; show ty.natAbs < 2 ^ 60; omega
    have hM : 0 ≤ S * unU bx by_ p q := Int.mul_nonneg S0 (by have := o.u; omega)
    have in0 := u_in (p := p) (q := q) x0 x1 y0 y1 hM
    have wsin := ws_in o in0
    have dv : ∀ b : Int, 0 < b → Bt 1000 (unU bx by_ p q / b) := fun b hb => by
      have e1 := Int.ediv_nonneg (show 0 ≤ unU bx by_ p q by have := o.u; omega) (show 0 ≤ b by omega)
      have e2 := Int.ediv_le_self b (show 0 ≤ unU bx by_ p q by have := o.u; omega)
      have : (unU bx by_ p q).natAbs < 2 ^ 200 := hUb
      exact Bt.mono (n := 200) (by show (unU bx by_ p q / b).natAbs < 2 ^ 200; omega) (by decide)
    refine ⟨_, rfl, _, rfl, _, rfl, l, sq, tx, bx, ty, by_, p, q, rfl, hl, hbx, hby, hp, hq, ?_⟩
    obtain ⟨px, py, hl1, hl2, hl3⟩ := id hl
    generalize hUe : unU bx by_ p q = U at *
    refine ⟨_, rfl, a, n, r, u, rfl, hsh, rr, ru, hn, fun H1 d kvs s1 hd0 hd hk hlv => ?_⟩
    obtain ⟨a0, a1, ha, ha0, ha1⟩ := id (hsh.same s1)
    refine ⟨_, rfl, a, _, 0, _, rfl, rfl, SqT.of ha, atI_nat (j := 0) rfl, a0, n, r, rfl, ha0, rr, hn, fun H2 b0 s2 hb0 => ?_⟩
    refine ⟨_, rfl, a, _, 1, _, rfl, rfl, SqT.of (s2 _ _ ha), atI_nat (j := 1) rfl, a1, n, u, rfl, s2 _ _ ha1, ru, hn, fun H3 b1 s3 hb1 => ?_⟩
    refine ⟨by show 2 ≤ sizeLine; omega, fun bk hbk => ?_⟩
    have s4 := same_upd (o := .tup [.ref b0, .ref b1]) (Same.refl H3) hbk
    have g4 : (upd H3 bk (.tup [.ref b0, .ref b1])) bk = some (.tup [.ref b0, .ref b1]) := upd_same
    generalize upd H3 bk (.tup [.ref b0, .ref b1]) = H4 at s4 g4
    have sA : Same H H4 := s1.trans (s2.trans (s3.trans s4))
    have hd4 := s4 _ _ (s3 _ _ (s2 _ _ hd))
    refine ⟨_, rfl, l, _, 0, _, rfl, rfl, SqT.of (sA _ _ hl1), atI_nat (j := 0) rfl, ?_⟩
    refine ⟨_, rfl, l, _, 1, _, rfl, rfl, SqT.of (sA _ _ hl1), atI_nat (j := 1) rfl, _, rfl, px, tx, bx, U, rfl, hl2.same sA, pbx, hbx, btx, dv bx pbx, ?_⟩
    refine ⟨_, rfl, l, _, 2, _, rfl, rfl, SqT.of (sA _ _ hl1), atI_nat (j := 2) rfl, _, rfl, py, ty, by_, U, rfl, hl3.same sA, pby, hby, bty, dv by_ pby, ?_⟩
    refine ⟨three, fun sp hsp => ?_⟩
    have s5 := same_upd (o := .tup [.int (sq : Int), .int (tx * (U / bx)), .int (ty * (U / by_))]) (Same.refl H4) hsp
    have g5 : S3 (upd H4 sp (.tup [.int (sq : Int), .int (tx * (U / bx)), .int (ty * (U / by_))])) sp sq (tx * (U / bx)) (ty * (U / by_)) := upd_same
    generalize upd H4 sp (.tup [.int (sq : Int), .int (tx * (U / bx)), .int (ty * (U / by_))]) = H5 at s5 g5
    have W0 : W5 tx bx ty by_ p q S = ws p q U (S * U) (tx * (U / bx)) (ty * (U / by_)) := by
      subst hUe; rfl
    have wsin : ∀ i, (∀ j, j < i → (W5 tx bx ty by_ p q S j).t < S * U) → WIn p q U (S * U) (W5 tx bx ty by_ p q S i) := by
      subst hUe; exact wsin
    have Wn : ∀ i, W5 tx bx ty by_ p q S (i + 1) = stp p q U (S * U) (W5 tx bx ty by_ p q S i) := fun i => by subst hUe; rfl
    have g5 : S3 H5 sp (app4 r u (W5 tx bx ty by_ p q S 0).w sq) (W5 tx bx ty by_ p q S 0).x (W5 tx bx ty by_ p q S 0).y := by rw [W0]; exact g5
    have t0 : (W5 tx bx ty by_ p q S 0).t = 0 := by rw [W0]; rfl
    clear W0 in0
    generalize W5 tx bx ty by_ p q S = W at *
    generalize hFe : roughs n (later r u) = F at *
    generalize hMe : S * U = MM at *
    refine while_by (fun σ H6 => ∃ (i : Nat) (sp : Addr) (o10 : Option V), σ = [some (.ref a), some (.ref l), some (.int p), some (.int q), some (.int S), some (.int U), some (.ref d), some (.ref bk), some (.ref sp), some (.int (W i).t), o10] ∧ Same H4 H6 ∧ S3 H6 sp (app4 r u (W i).w sq) (W i).x (W i).y ∧ Free5 r u F sq MM W i) (fun σ _ => muM MM 9 σ) ?_ ?_ ?_
    · exact ⟨0, sp, _, by rw [t0]; rfl, s5, g5, fun j hj => absurd hj (Nat.not_lt_zero _)⟩
    · rintro σ H6 ⟨i, sp, o10, rfl, s6, g6, fr⟩
      have wi := wsin i fun j hj => (fr j hj).2
      have hsq := app4_lt rr ru (W i).w hs
      have fin : ∀ H7, Same H6 H7 → (MM ≤ (W i).t ∨ crn F (app4 r u (W i).w sq) (W i).x (W i).y = true) → tSeq (tIfS (tB (tCall spIc5 [] E0 (tCons (tVar 8) (tCons (tVar 6) tNil)))) (tRet (tTup (tCons (tC (.str (Str.ofString "corner"))) (tCons (tDGet (tVar 6) (tOp (rIxT K) (tVar 8) (tC (.int 0)))) (tCons (tMake C (spInit C CN) [] E0 (tCons (tVar 9) (tCons (tVar 5) tNil))) tNil))))) tNext)
          (tRet (tTup (tCons (tC (.str (Str.ofString "there"))) (tCons (tTup (tCons (tOp (rIxT K) (tVar 8) (tC (.int 0))) (tCons (tMake C (spInit C CN) [] E0 (tCons (tOp (rIxT K) (tVar 8) (tC (.int 1))) (tCons (tVar 5) tNil))) (tCons (tMake C (spInit C CN) [] E0 (tCons (tOp (rIxT K) (tVar 8) (tC (.int 2))) (tCons (tVar 5) tNil))) tNil)))) tNil)))) { nx := fun _ H' => Q .non H', rt := Q } [some (.ref a), some (.ref l), some (.int p), some (.int q), some (.int S), some (.int U), some (.ref d), some (.ref bk), some (.ref sp), some (.int (W i).t), o10] H7 := by
        intro H7 s7 hend
        have g7 := s7 _ _ g6
        have hd7 := s7 _ _ (s6 _ _ hd4)
        have sH := sA.trans (s6.trans s7)
        refine ⟨_, rfl, _, rfl, sp, d, kvs, _, _, _, rfl, g7, hd7, _, rfl, ?_⟩
        rw [atC_eq hk]
        cases hc : crn F (app4 r u (W i).w sq) (W i).x (W i).y with
        | true =>
          refine iteT ?_
          obtain ⟨v, hv⟩ : ∃ v, valV kvs (ik (app4 r u (W i).w sq)) = some v := by
            have := (atC_eq hk (app4 r u (W i).w sq) (W i).x (W i).y).trans hc
            unfold atC at this
            rw [Bool.and_eq_true, Bool.and_eq_true] at this
            exact Option.isSome_iff_exists.mp this.2.2
          have lv : LeastV n (later r u) (app4 r u (W i).w sq) v := by
            obtain ⟨kv, h1, h2, h3⟩ := valV_mem hv
            rw [← h3]; exact hlv kv h1 _ h2
          have dg : DGet H7 d (.int ((app4 r u (W i).w sq : Nat) : Int)) (some v) := by rw [← hv]; exact DGet.k (k := ik (app4 r u (W i).w sq)) hd7
          refine ⟨_, rfl, _, rfl, sp, _, 0, _, rfl, rfl, SqT.of g7, atI_nat (j := 0) rfl, d, v, rfl, dg, _, rfl, _, rfl, ?_⟩
          intro x dx nx ndx ne
          refine mkPart1 (by have := o.u; omega) (hUb.mono (by decide)) nx ndx fun H8 s8 p8 => ⟨rfl, ?_⟩
          refine ⟨three, fun t ht => ?_⟩
          have s9 := same_upd (o := .tup [.str (Str.ofString "corner"), v, .ref x]) (Same.refl H8) ht
          exact k2 _ t x i v (sH.trans (s8.trans s9)) fr hc upd_same lv (p8.same s9)
        | false =>
          refine iteF ?_
          have ht : (W i).t = MM := by
            rcases hend with h | h
            · have := wi.t1; omega
            · rw [hc] at h; cases h
          refine ⟨_, rfl, sp, _, 0, _, rfl, rfl, SqT.of g7, atI_nat (j := 0) rfl, ?_⟩
          refine ⟨_, rfl, sp, _, 1, _, rfl, rfl, SqT.of g7, atI_nat (j := 1) rfl, _, rfl, ?_⟩
          intro x dx nx ndx ne
          refine mkPart1 (by have := o.u; omega) (hUb.mono (by decide)) nx ndx fun H8 s8 p8 => ⟨rfl, ?_⟩
          refine ⟨_, rfl, sp, _, 2, _, rfl, rfl, SqT.of (s8 _ _ g7), atI_nat (j := 2) rfl, _, rfl, ?_⟩
          intro x' dx' nx' ndx' ne'
          refine mkPart1 (by have := o.u; omega) (hUb.mono (by decide)) nx' ndx' fun H9 s9 p9 => ⟨rfl, ?_⟩
          refine ⟨three, fun l' hl' => ?_⟩
          have s10 := same_upd (o := .tup [.int ((app4 r u (W i).w sq : Nat) : Int), .ref x, .ref x']) (Same.refl H9) hl'
          have g10 : (upd H9 l' (.tup [.int ((app4 r u (W i).w sq : Nat) : Int), .ref x, .ref x'])) l' = some (.tup [.int ((app4 r u (W i).w sq : Nat) : Int), .ref x, .ref x']) := upd_same
          have q1 := p8.same (s9.trans s10)
          have q2 := p9.same s10
          generalize upd H9 l' (.tup [.int ((app4 r u (W i).w sq : Nat) : Int), .ref x, .ref x']) = H10 at s10 g10 q1 q2
          refine ⟨by show 2 ≤ sizeLine; omega, fun t ht' => ?_⟩
          have s11 := same_upd (o := .tup [.str (Str.ofString "there"), .ref l']) (Same.refl H10) ht'
          exact k1 _ t l' i (sH.trans (s8.trans (s9.trans (s10.trans s11)))) fr ht hc upd_same ⟨x, x', s11 _ _ g10, q1.same s11, q2.same s11⟩
      refine ⟨_, rfl, _, rfl, _, rfl, _, _, rfl, rfl, .inl ⟨by omega, by omega⟩, _, _, rfl, rfl, _, rfl, ?_⟩
      rw [hMe]
      by_cases ht : (W i).t < MM
      · rw [decide_eq_true ht]
        refine iteT ?_
        refine ⟨_, rfl, _, rfl, sp, d, kvs, _, _, _, rfl, g6, s6 _ _ hd4, _, rfl, ?_⟩
        rw [atC_eq hk]
        cases hc : crn F (app4 r u (W i).w sq) (W i).x (W i).y with
        | true =>
          refine iteF ?_
          exact fin H6 (Same.refl _) (.inr hc)
        | false =>
          refine iteT ?_
          refine ⟨_, rfl, _, rfl, _, rfl, _, rfl, _, rfl, sp, bk, b0, b1, n, _, _, _, p, q, U, r, u, rfl, g6, s6 _ _ g4, s6 _ _ (s4 _ _ (s3 _ _ hb0)), s6 _ _ (s4 _ _ hb1), rr, ru, hsq, fun H7 sp7 s7 g7 => ?_⟩
          have hsq7 := app4_lt rr ru (lo p (W i).x 0 ++ lo q (W i).y 1) hsq
          refine ⟨_, rfl, sp7, _, 1, _, rfl, rfl, SqT.of g7, atI_nat (j := 1) rfl, _, rfl, _, rfl, _, p, U, rfl, hp, ?_⟩
          refine ⟨_, rfl, sp7, _, 2, _, rfl, rfl, SqT.of g7, atI_nat (j := 2) rfl, _, rfl, _, rfl, _, q, U, rfl, hq, ?_⟩
          refine ⟨_, rfl, _, rfl, _, _, rfl, rfl, .inl ⟨by omega, by omega⟩, _, rfl, _, _, rfl, rfl, _, _, _, rfl, ?_⟩
          rw [hMe]
          have er : min (min (sid U (ou p U (W i).x) p) (sid U (ou q U (W i).y) q)) (MM - (W i).t) = room p q U MM (W i) := rfl
          rw [er]
          have rp := room_pos o wi ht
          have wn := Wn i
          unfold stp at wn
          generalize room p q U MM (W i) = rm at *
          refine ⟨_, rfl, sp7, _, 0, _, rfl, rfl, SqT.of g7, atI_nat (j := 0) rfl, ?_⟩
          refine ⟨_, rfl, sp7, _, 1, _, rfl, rfl, SqT.of g7, atI_nat (j := 1) rfl, _, rfl, _, rfl, _, _, rfl, rfl, .inl ⟨by omega, by omega⟩, _, _, rfl, rfl, ?_⟩
          refine ⟨_, rfl, sp7, _, 2, _, rfl, rfl, SqT.of g7, atI_nat (j := 2) rfl, _, rfl, _, rfl, _, _, rfl, rfl, .inl ⟨by omega, by omega⟩, _, _, rfl, rfl, ?_⟩
          refine ⟨three, fun l9 hl9 => ?_⟩
          have s9 := same_upd (o := .tup [.int ((app4 r u (lo p (W i).x 0 ++ lo q (W i).y 1) (app4 r u (W i).w sq) : Nat) : Int), .int (ou p U (W i).x + p * rm), .int (ou q U (W i).y + q * rm)]) (Same.refl H7) hl9
          have g9 : S3 (upd H7 l9 (.tup [.int ((app4 r u (lo p (W i).x 0 ++ lo q (W i).y 1) (app4 r u (W i).w sq) : Nat) : Int), .int (ou p U (W i).x + p * rm), .int (ou q U (W i).y + q * rm)])) l9 (app4 r u (lo p (W i).x 0 ++ lo q (W i).y 1) (app4 r u (W i).w sq)) (ou p U (W i).x + p * rm) (ou q U (W i).y + q * rm) := upd_same
          have hsh9 := hsh.same (sA.trans (s6.trans (s7.trans s9)))
          refine ⟨_, rfl, _, rfl, l9, a, n, _, _, _, U, r, u, rfl, g9, hsh9, rr, ru, hsq7, fun H10 sp10 s10 g10 => ?_⟩
          refine ⟨_, rfl, _, rfl, _, _, rfl, rfl, ⟨i + 1, sp10, _, by rw [wn]; rfl, s6.trans (s7.trans (s9.trans s10)), ?_, fun j hj => ?_⟩, ?_⟩
          · rw [wn]
            show S3 _ _ (app4 r u ((W i).w ++ (lo p (W i).x 0 ++ (lo q (W i).y 1 ++ (li U (ou p U (W i).x + p * rm) 2 ++ li U (ou q U (W i).y + q * rm) 3)))) sq) _ _
            rw [app4_add, ← List.append_assoc, app4_add]
            exact g10
          · by_cases e : j = i
            · subst e; exact ⟨hc, ht⟩
            · exact fr j (by omega)
          · show (MM - ((W i).t + rm)).toNat < (MM - (W i).t).toNat
            omega
      · rw [decide_eq_false ht]
        refine iteF ?_
        refine iteF ?_
        exact fin H6 (Same.refl _) (.inl (by omega))
    · rintro σ H Q Q' h ⟨v, e1, v2, e2, v3, e3, i, j, e4, e5, c, i', j', e6, e7, b, e8, q⟩
      refine ⟨v, e1, v2, e2, v3, e3, i, j, e4, e5, c, i', j', e6, e7, b, e8, ?_⟩
      cases b with
      | true =>
        obtain ⟨w1, f1, w2, f2, l', d', kvs', sq', x', y', f3, f4, f5, b', f6, q'⟩ := (q : tNot (tB (tCall spIc5 [] E0 (tCons (tVar 8) (tCons (tVar 6) tNil)))) _ _ _)
        exact ⟨w1, f1, w2, f2, l', d', kvs', sq', x', y', f3, f4, f5, b', f6, h _ _ q'⟩
      | false => exact h _ _ q
end
end K1
namespace K1
open PySem L2 Sq
abbrev sKPo : Stmt := inClass sPart 6
def spWhl (C : Addr) : Sp := fun vs H Q _ => ∃ (p : Addr) (t b : Int), vs = [.ref p] ∧ PtAt C H p t b ∧ 0 < b ∧ Bt 1000 b ∧ Q (.int (t / b)) H
section
variable {P : Program} {w : World} {K : PySem.W.Frag} {mg : Str → Option Value} {base : Heap}
theorem scPo : FnScope ["self"] ["self"] (defScope sKPo) := ⟨rfl, rfl, rfl, by decide +kernel, rfl, by decide +kernel, by decide +kernel⟩
theorem ok_whl {f C : Addr} {fd : FuncData} (T : PTx K mg C) (F : MFn K C "whole" "Part.whole" sKPo ["self"] f fd) : FnOk P w K mg base CX0 1 f fd ["self"] (spWhl C) := by
  refine F.F.ok scPo (fun vs H Q E h => ?_) (fun cdv A outer s H vs Q E hr h => ?_)
  · obtain ⟨p, t, b, rfl, _⟩ := h; rfl
  · obtain ⟨p, t, b, rfl, ⟨dp, hp⟩, h1, h2, k⟩ := h
    refine ⟨_, pss_one (ps_ret (pe_op op_fdivB (pe_fld (pv 0) rfl) (pe_fld (pv 0) rfl))), ?_⟩
    refine ⟨_, rfl, p, C, dp, _, _, rfl, hp, T.cl, T.nT, flds_top _ _, _, rfl, p, C, dp, _, _, rfl, hp, T.cl, T.nB, flds_bot _ _, _, _, rfl, rfl, ⟨by omega, h2.mono (by decide)⟩, ?_⟩
    rw [← Int.fdiv_eq_ediv_of_nonneg t (by omega)] at k
    exact k
end
end K1
namespace K1
open PySem L2 Sq
def spIn8 (C : Addr) : Sp := fun vs H Q _ => ∃ (p : Addr) (t b : Int), vs = [.ref p] ∧ PtAt C H p t b ∧ 0 < b ∧ Bt 1000 b ∧ Q (.bl (decide (t / b = 0))) H
section
variable {P : Program} {w : World} {K : PySem.W.Frag} {mg : Str → Option Value} {base : Heap}
abbrev n_in8 : List Str := ["part"]
theorem sc_in8 : FnScope n_in8 ["part"] (defScope sIsInside) := ⟨rfl, rfl, rfl, by decide +kernel, rfl, by decide +kernel, by decide +kernel⟩
theorem ok_in8 {f : Addr} {fd : FuncData} {C fo : Addr} {do_ : FuncData} (T : PTx K mg C) (FO : MFn K C "whole" "Part.whole" sKPo ["self"] fo do_) (GO : FnOk P w K mg base CX0 1 fo do_ ["self"] (spWhl C)) (F : Fn K mg "is_inside" sIsInside ["part"] f fd) : FnOk P w K mg base CX0 2 f fd ["part"] (spIn8 C) := by
  refine F.F.ok sc_in8 (fun vs H Q E h => ?_) (fun cdv A outer s H vs Q E hr h => ?_)
  · obtain ⟨p, t, b, rfl, _⟩ := h; rfl
  · obtain ⟨p, t, b, rfl, ⟨dx, hp⟩, hb, hB, k⟩ := h
    have hr1 : Room 1 _ := hr.mono (by decide)
    refine ⟨_, (pss_one (ps_ret (pe_cmpR op_eq (pe_meth0 (pv 0) T.cl FO.m GO hr1 FO.b .nil pass0) pe_int (nomark _)))), ?_⟩
    refine ⟨_, rfl, p, dx, _, rfl, hp, flds_no _ _ (by decide +kernel) (by decide +kernel), p, t, b, rfl, ⟨dx, hp⟩, hb, hB, rfl, ?_⟩
    have e : decide (V.int (t / b) = V.int 0) = decide (t / b = 0) := by
      rw [decide_eq_decide]
      exact ⟨fun z => V.int.inj z, fun z => by rw [z]⟩
    show Q (.bl (decide (V.int (t / b) = V.int 0))) H
    rw [e]
    exact k
end
end K1
namespace K1
open PySem L2 Sq
section
variable {P : Program} {w : World} {K : PySem.W.Frag} {mg : Str → Option Value} {base : Heap}
theorem scIsSq : FnScope ["thing", "squares"] ["thing", "squares"] (defScope sIsSq) := ⟨rfl, rfl, rfl, by decide +kernel, rfl, by decide +kernel, by decide +kernel⟩
theorem scIsWh : FnScope ["thing"] ["thing"] (defScope sIsWhole) := ⟨rfl, rfl, rfl, by decide +kernel, rfl, by decide +kernel, by decide +kernel⟩
theorem ok_isWh {f : Addr} {fd : FuncData} (T : Bi mg) (F : Fn K mg "is_whole" sIsWhole ["thing"] f fd) : FnOk P w K mg base CX0 1 f fd ["thing"] spWhole := by
  refine F.F.ok scIsWh (fun vs H Q E h => ?_) (fun cdv A outer s H vs Q E hr h => ?_)
  · obtain ⟨i, rfl, _⟩ := h; rfl
  · obtain ⟨i, rfl, k⟩ := h
    refine ⟨_, pss_one (ps_ret (pe_and (pe_callB call_isinst (by rfl) T.isin boot_isin (pa_cons (pv 0) (pa_cons (pe_bltn (v := .ty "int") (by rfl) T.int boot_int rfl) pa_nil)))
      (pe_one (pe_not (pe_callB call_isinst (by rfl) T.isin boot_isin (pa_cons (pv 0) (pa_cons (pe_bltn (v := .ty "bool") (by rfl) T.bool boot_bool rfl) pa_nil))))))), ?_⟩
    refine ⟨_, rfl, _, _, _, _, rfl, .int i, kit_int_int K, _, rfl, ?_⟩
    refine iteT ?_
    exact ⟨_, rfl, _, _, _, _, rfl, .int i, kit_int_bool K, _, rfl, k⟩
theorem ok_isSq {f fw : Addr} {fd fdw : FuncData} (T : Bi mg) (F : Fn K mg "is_square" sIsSq ["thing", "squares"] f fd) (FW : Fn K mg "is_whole" sIsWhole ["thing"] fw fdw) : FnOk P w K mg base CX0 2 f fd ["thing", "squares"] spIsSq := by
  have GW : FnOk P w K mg base CX0 1 fw fdw ["thing"] spWhole := ok_isWh T FW
  refine F.F.ok scIsSq (fun vs H Q E h => ?_) (fun cdv A outer s H vs Q E hr h => ?_)
  · obtain ⟨i, n, rfl, _⟩ := h; rfl
  · obtain ⟨i, n, rfl, k⟩ := h
    refine ⟨_, pss_one (ps_ret (pe_and (pe_call GW hr rfl FW.m FW.F.kp FW.b .nil pass0 (pa_cons (pv 0) pa_nil)) (pe_one (pe_chain op_le op_lt pe_int (pv 0) (pv 1))))), ?_⟩
    refine ⟨_, rfl, i, rfl, _, rfl, ?_⟩
    refine iteT ?_
    refine ⟨_, rfl, _, _, rfl, rfl, _, rfl, ?_⟩
    refine ite2 (fun h => ?_) (fun h => ?_)
    · have h : 0 ≤ i := of_decide_eq_true h
      refine ⟨_, rfl, _, _, rfl, rfl, ?_⟩
      have e : decide (0 ≤ i ∧ i < n) = decide (i < n) := by simp [h]
      rw [e] at k; exact k
    · have h : ¬ 0 ≤ i := fun z => h (decide_eq_true z)
      have e : decide (0 ≤ i ∧ i < n) = false := by simp [h]
      rw [e] at k; exact k
end
end K1
namespace K1
open PySem L2 Sq
section
variable {P : Program} {w : World} {K : PySem.W.Frag} {mg : Str → Option Value} {base : Heap}
theorem scSize : FnScope ["sheet"] ["sheet"] (defScope sSize) := ⟨rfl, rfl, rfl, by decide +kernel, rfl, by decide +kernel, by decide +kernel⟩
theorem ok_size {f : Addr} {fd : FuncData} (T : Bi mg) (F : Fn K mg "size" sSize ["sheet"] f fd) : FnOk P w K mg base CX0 1 f fd ["sheet"] spSize := by
  refine F.F.ok scSize (fun vs H Q E h => ?_) (fun cdv A outer s H vs Q E hr h => ?_)
  · obtain ⟨a, r, u, rfl, _⟩ := h; rfl
  · obtain ⟨a, r, u, rfl, ⟨p, q, h1, h2, h3⟩, k⟩ := h
    refine ⟨_, pss_one (ps_ret (pe_callB call_len_seq (by rfl) T.len PySem.boot_len (pa_cons (pe_ix ix_tup (pv 0) pe_int (fun _ _ => rfl)) pa_nil))), ?_⟩
    refine ⟨_, rfl, a, _, 0, _, rfl, rfl, SqT.of h1, atI_nat (j := 0) rfl, p, _, rfl, .inr (SqT.of h2), ?_⟩
    rw [nv_len]; exact k
end
end K1
namespace K1
open PySem L2 Sq
def spNp8 (C CP : Addr) : Sp := fun vs H Q E => ∃ (a l : Addr) (sq : Int) (px py : Addr) (tx bx ty by_ : Int) (r u : List Nat), vs = [.ref a, .ref l] ∧ ShAt H a r u ∧ H l = some (.tup [.int sq, .ref px, .ref py]) ∧ PtAt C H px tx bx ∧ PtAt C H py ty by_ ∧ 0 < bx ∧ 0 < by_ ∧ Bt 1000 bx ∧ Bt 1000 by_ ∧
  ((0 ≤ sq ∧ sq < (r.length : Int) ∧ tx / bx = 0 ∧ ty / by_ = 0) → Q .non H) ∧ (¬ (0 ≤ sq ∧ sq < (r.length : Int) ∧ tx / bx = 0 ∧ ty / by_ = 0) → E (.ref CP) none H)
section
variable {P : Program} {w : World} {K : PySem.W.Frag} {mg : Str → Option Value} {base : Heap}
abbrev n_np8 : List Str := ["sheet", "place"]
theorem sc_np8 : FnScope n_np8 ["sheet", "place"] (defScope sNeedPlace) := ⟨rfl, rfl, rfl, by decide +kernel, rfl, by decide +kernel, by decide +kernel⟩
theorem ok_np8 {f fq fz fi : Addr} {fd dq dz di : FuncData} {C CP : Addr} (hC : ExCls K CP) (hCm : mg "NoPlace" = some (.ref CP)) (F : Fn K mg "need_place" sNeedPlace ["sheet", "place"] f fd) (FQ : Fn K mg "is_square" sIsSq ["thing", "squares"] fq dq) (GQ : FnOk P w K mg base CX0 2 fq dq ["thing", "squares"] spIsSq)
    (FZ : Fn K mg "size" sSize ["sheet"] fz dz) (GZ : FnOk P w K mg base CX0 1 fz dz ["sheet"] spSize)
    (FI : Fn K mg "is_inside" sIsInside ["part"] fi di) (GI : FnOk P w K mg base CX0 2 fi di ["part"] (spIn8 C)) : FnOk P w K mg base (CX1 P w) 3 f fd ["sheet", "place"] (spNp8 C CP) := by
  refine F.F.ok1 sc_np8 (fun vs H Q E h => ?_) (fun cdv A outer s H vs Q E hr h => ?_)
  · obtain ⟨a, l, sq, px, py, tx, bx, ty, by_, r, u, rfl, _⟩ := h; rfl
  · obtain ⟨a, l, sq, px, py, tx, bx, ty, by_, r, u, rfl, ha, hl, hx, hy, x0, y0, xB, yB, k1, k2⟩ := h
    have hr1 : Room 1 _ := hr.mono (by decide)
    have hr2 : Room 2 _ := hr.mono (by decide)
    refine ⟨_, (pss_one (ps_if (pt_not (PW.pt (pw_and (pt_val (pe_call GQ hr2 rfl FQ.m FQ.F.kp FQ.b .nil pass0 (pa_cons (pe_ix ix_tup (pv 1) pe_int (fun _ _ => rfl)) (pa_cons (pe_call GZ hr1 rfl FZ.m FZ.F.kp FZ.b .nil pass0 (pa_cons (pv 0) pa_nil)) pa_nil)))) (pw_and (pt_val (pe_call GI hr2 rfl FI.m FI.F.kp FI.b .nil pass0 (pa_cons (pe_ix ix_tup (pv 1) pe_int (fun _ _ => rfl)) pa_nil))) (pw_and1 (pt_val (pe_call GI hr2 rfl FI.m FI.F.kp FI.b .nil pass0 (pa_cons (pe_ix ix_tup (pv 1) pe_int (fun _ _ => rfl)) pa_nil)))))))) (pss_one (ps_raise rfl hC rfl hCm throw1 (pa_cons pe_str pa_nil))) pss_nil)), ?_⟩
    refine ⟨_, rfl, l, _, 0, _, rfl, rfl, SqT.of hl, atI_nat (j := 0) rfl, _, rfl, a, r, u, rfl, ha, sq, (r.length : Int), rfl, _, rfl, ?_⟩
    refine ite2 (fun g => ?_) (fun g => ?_)
    · have g : 0 ≤ sq ∧ sq < (r.length : Int) := of_decide_eq_true g
      refine ⟨_, rfl, l, _, 1, _, rfl, rfl, SqT.of hl, atI_nat (j := 1) rfl, px, tx, bx, rfl, hx, x0, xB, _, rfl, ?_⟩
      refine ite2 (fun g2 => ?_) (fun g2 => ?_)
      · have g2 : tx / bx = 0 := of_decide_eq_true g2
        refine ⟨_, rfl, l, _, 2, _, rfl, rfl, SqT.of hl, atI_nat (j := 2) rfl, py, ty, by_, rfl, hy, y0, yB, _, rfl, ?_⟩
        by_cases g3 : ty / by_ = 0
        · rw [decide_eq_true g3]
          exact iteF (k1 ⟨g.1, g.2, g2, g3⟩)
        · rw [decide_eq_false g3]
          refine iteT ?_
          exact ⟨by show 1 ≤ sizeLine; decide, k2 fun z => g3 z.2.2.2⟩
      · refine iteT ?_
        exact ⟨by show 1 ≤ sizeLine; decide, k2 fun z => g2 (decide_eq_true z.2.2.1)⟩
    · refine iteT ?_
      exact ⟨by show 1 ≤ sizeLine; decide, k2 fun z => g (decide_eq_true ⟨z.1, z.2.1⟩)⟩
end
end K1
namespace K1
open PySem L2 Sq
def Way (p q : Int) : Prop := p.natAbs ≤ 60 ∧ q.natAbs ≤ 60 ∧ ¬ (p = 0 ∧ q = 0)
def spNW6 (CN : Addr) : Sp := fun vs H Q E => ∃ p q : Int, vs = [.int p, .int q] ∧ (Way p q → Q .non H) ∧ (¬ Way p q → ∀ H' : Hp, Same H H' → E (.ref CN) none H')
section
variable {P : Program} {w : World} {K : PySem.W.Frag} {mg : Str → Option Value} {base : Heap}
abbrev n_nw6 : List Str := ["p", "q"]
theorem sc_nw6 : FnScope n_nw6 ["p", "q"] (defScope sNeedWay) := ⟨rfl, rfl, rfl, by decide +kernel, rfl, by decide +kernel, by decide +kernel⟩
theorem ok_nw6 {f : Addr} {fd : FuncData} {CN : Addr} {tk : Tok} (T_abs : mg "abs" = none) (hC : ExCls K CN) (hCm : mg "NoWay" = some (.ref CN)) (C_FARTHEST : mg "FARTHEST" = some (.int 60 tk)) (F : Fn K mg "need_way" sNeedWay ["p", "q"] f fd) : FnOk P w K mg base (CX1 P w) 1 f fd ["p", "q"] (spNW6 CN) := by
  refine F.F.ok1 sc_nw6 (fun vs H Q E h => ?_) (fun cdv A outer s H vs Q E hr h => ?_)
  · obtain ⟨p, q, rfl, _⟩ := h; rfl
  · obtain ⟨p, q, rfl, k1, k2⟩ := h
    refine ⟨_, (pss_one (ps_if (PW.pt (pw_or (pt_cmpR op_gt (pe_callB call_abs rfl T_abs boot_abs (pa_cons (pv 0) pa_nil)) (pe_glob (v := .int 60) (by rfl) C_FARTHEST ⟨_, rfl⟩) (nomark _)) (pw_or (pt_cmpR op_gt (pe_callB call_abs rfl T_abs boot_abs (pa_cons (pv 1) pa_nil)) (pe_glob (v := .int 60) (by rfl) C_FARTHEST ⟨_, rfl⟩) (nomark _)) (pw_or1 (PW.pt (pw_and (pt_cmpR op_eq (pv 0) pe_int (nomark _)) (pw_and1 (pt_cmpR op_eq (pv 1) pe_int (nomark _))))))))) (pss_one (ps_raise rfl hC rfl hCm throw1 (pa_cons (pe_fstr (.cons pe_str (.cons (pe_fmtI (pe_glob (v := .int 60) (by rfl) C_FARTHEST ⟨_, rfl⟩)) (.cons pe_str (.cons (pe_fmtI (pe_glob (v := .int 60) (by rfl) C_FARTHEST ⟨_, rfl⟩)) (.cons pe_str .nil)))))) pa_nil))) pss_nil)), ?_⟩
    have ab : ∀ i : Int, (if i < 0 then -i else i) = (i.natAbs : Int) := fun i => by split <;> omega
    refine ⟨_, rfl, _, rfl, _, _, rfl, rfl, _, rfl, ?_⟩
    rw [ab]
    by_cases hp : p.natAbs ≤ 60
    · rw [decide_eq_false (by omega)]
      refine iteF ?_
      refine ⟨_, rfl, _, rfl, _, _, rfl, rfl, _, rfl, ?_⟩
      rw [ab]
      by_cases hq : q.natAbs ≤ 60
      · rw [decide_eq_false (by omega)]
        refine iteF ?_
        refine ⟨_, rfl, rfl, _, rfl, ?_⟩
        by_cases e : p = 0
        · subst e
          refine iteT ?_
          refine ⟨_, rfl, rfl, _, rfl, ?_⟩
          by_cases e2 : q = 0
          · subst e2
            refine iteT ?_
            refine ⟨_, rfl, by decide, ?_⟩
            refine ⟨60, rfl, by decide, _, rfl, by decide, ?_⟩
            refine ⟨_, rfl, by decide, ?_⟩
            refine ⟨60, rfl, by decide, _, rfl, by decide, ?_⟩
            refine ⟨_, rfl, by decide, ?_⟩
            exact ⟨by show 1 ≤ sizeLine; decide, k2 (fun ⟨_, _, z⟩ => z ⟨rfl, rfl⟩) _ (Same.refl _)⟩
          · rw [decide_eq_false (fun z => e2 (V.int.inj z))]
            refine iteF ?_
            exact k1 ⟨hp, hq, fun z => e2 z.2⟩
        · rw [decide_eq_false (fun z => e (V.int.inj z))]
          refine iteF ?_
          refine iteF ?_
          exact k1 ⟨hp, hq, fun z => e z.1⟩
      · rw [decide_eq_true (by omega)]
        refine iteT ?_
        refine ⟨_, rfl, by decide, ?_⟩
        refine ⟨60, rfl, by decide, _, rfl, by decide, ?_⟩
        refine ⟨_, rfl, by decide, ?_⟩
        refine ⟨60, rfl, by decide, _, rfl, by decide, ?_⟩
        refine ⟨_, rfl, by decide, ?_⟩
        exact ⟨by show 1 ≤ sizeLine; decide, k2 (fun ⟨_, z, _⟩ => hq z) _ (Same.refl _)⟩
    · rw [decide_eq_true (by omega)]
      refine iteT ?_
      refine ⟨_, rfl, by decide, ?_⟩
      refine ⟨60, rfl, by decide, _, rfl, by decide, ?_⟩
      refine ⟨_, rfl, by decide, ?_⟩
      refine ⟨60, rfl, by decide, _, rfl, by decide, ?_⟩
      refine ⟨_, rfl, by decide, ?_⟩
      exact ⟨by show 1 ≤ sizeLine; decide, k2 (fun ⟨z, _, _⟩ => hp z) _ (Same.refl _)⟩
end
end K1
namespace L2
open PySem PySem.Spec PyProof.Rows
section
variable {P : Program} {w : World} {K : PySem.W.Frag} {mg : Str → Option Value} {base : Heap}
end
/-- a def of the text whose last parameter has the default v -/
structure FnD (K : PySem.W.Frag) (mg : Str → Option Value) (x : Str) (st : Stmt) (ps : List Str) (v : V) (f : Addr) (fd : FuncData) (u : Value) : Prop where
  F : ∃ dV, FunD K x x st dV f fd
  kp : PySem.W.keepIn K (.ref f) = true
  b : Binds K fd ps []
  d : Binds K fd ps [u]
  r : Vals [v] [u]
  m : mg x = some (.ref f)
def RawD (K : PySem.W.Frag) (x : Str) (st : Stmt) (ps : List Str) (v : V) : Prop := ∃ f fd u, (∃ dV, FunD K x x st dV f fd) ∧ PySem.W.keepIn K (.ref f) = true ∧ Binds K fd ps [] ∧ Binds K fd ps [u] ∧ RelV v u ∧ PySem.W.nsIn K mainGlobals x = some (some (.ref f))
theorem RawD.fn {K : PySem.W.Frag} {h : Heap} {mg : Str → Option Value} {x : Str} {st : Stmt} {ps : List Str} {v : V} (X : K.In h) (G : h.Ns mainGlobals mg) (R : RawD K x st ps v) : ∃ f fd u, FnD K mg x st ps v f fd u := by
  obtain ⟨f, fd, u, F, kp, b, d, r, m⟩ := R
  exact ⟨f, fd, u, F, kp, b, d, .cons r .nil, PySem.W.mg_of X G m⟩
theorem rawd_mk5 {K : PySem.W.Frag} {x p1 p2 p3 p4 p5 : Str} {st : Stmt} {v : V} {f Td : Addr} {oc tc u : Value} {od an td : Option Addr} {osl tsl : Array (Option Value)} {kV doc pm cdv ct : Value} {tn : Nat} (a : PySem.W.nsIn K mainGlobals x = some (some (.ref f)))
    (l : K.lookup f = some ⟨oc, od, .func (PySem.W.fnOf x x (defArgs st) (defBody st) (defScope st) (.ref Td) kV doc pm an cdv ct), osl⟩) (c : PySem.W.codeIn K cdv x = true) (k : PySem.W.keepIn K (.ref f) = true)
    (t : K.lookup Td = some ⟨tc, td, .seq #[u] tn, tsl⟩) (r : RelV v u)
    (b2 : ∀ (s : Shared), K.In s.heap → ∀ y1 y2 y3 y4 y5 : Value, BindsTo s (PySem.W.fnOf x x (defArgs st) (defBody st) (defScope st) (.ref Td) kV doc pm an cdv ct) ⟨[y1, y2, y3, y4, y5], []⟩ [(p1, y1), (p2, y2), (p3, y3), (p4, y4), (p5, y5)])
    (b1 : ∀ (s : Shared), K.In s.heap → ∀ y1 y2 y3 y4 : Value, BindsTo s (PySem.W.fnOf x x (defArgs st) (defBody st) (defScope st) (.ref Td) kV doc pm an cdv ct) ⟨[y1, y2, y3, y4], []⟩ [(p1, y1), (p2, y2), (p3, y3), (p4, y4), (p5, u)]) : RawD K x st [p1, p2, p3, p4, p5] v := by
  refine ⟨f, _, u, ⟨_, funD_mk l c k⟩, k, fun s us hK hl => ?_, fun s us hK hl => ?_, r, a⟩
  · have hl' : us.length = 5 := by simpa using hl
    match us, hl' with
    | [y1, y2, y3, y4, y5], _ => exact b2 s hK y1 y2 y3 y4 y5
  · have hl' : us.length = 4 := by simpa using hl
    match us, hl' with
    | [y1, y2, y3, y4], _ => exact b1 s hK y1 y2 y3 y4
end L2
namespace K1
open PySem L2 Sq
def Good5 (n : Nat) (sqi tx bx ty by_ : Int) : Prop := 0 ≤ sqi ∧ sqi < (n : Int) ∧ tx / bx = 0 ∧ ty / by_ = 0
theorem div0 {t b : Int} (hb : 0 < b) (h : t / b = 0) : 0 ≤ t ∧ t < b := by
  have e := Int.mul_ediv_add_emod t b
  rw [h, Int.mul_zero, Int.zero_add] at e
  have h1 := Int.emod_nonneg t (show b ≠ 0 by omega)
  have h2 := Int.emod_lt_of_pos t hb
  omega
def spWk5 (C CP CY : Addr) : Sp := fun vs H Q E => ∃ (a l px py : Addr) (n : Nat) (sqi : Int) (r u : List Nat) (tx bx ty by_ p q S : Int), vs = [.ref a, .ref l, .int p, .int q, .int S] ∧ ShAt H a r u ∧ Row n r ∧ Row n u ∧ n ≤ 36 ∧ H l = some (.tup [.int sqi, .ref px, .ref py]) ∧ PtAt C H px tx bx ∧ PtAt C H py ty by_ ∧ 0 < bx ∧ 0 < by_ ∧ Bt 60 bx ∧ Bt 60 by_ ∧ 0 ≤ S ∧ S ≤ 1000000 ∧
  (¬ Good5 n sqi tx bx ty by_ → E (.ref CP) none H) ∧ (Good5 n sqi tx bx ty by_ → ¬ Way p q → ∀ H' : Hp, Same H H' → E (.ref CY) none H') ∧
  (Good5 n sqi tx bx ty by_ → Way p q → ∀ sq : Nat, sqi = (sq : Int) → End5 C n sq r u tx bx ty by_ p q S H Q)
section
variable {P : Program} {w : World} {K : PySem.W.Frag} {mg : Str → Option Value} {base : Heap}
abbrev n_wk5 : List Str := ["sheet", "place", "p", "q", "steps"]
theorem sc_wk5 : FnScope n_wk5 ["sheet", "place", "p", "q", "steps"] (defScope sWalk) := ⟨rfl, rfl, rfl, by decide +kernel, rfl, by decide +kernel, by decide +kernel⟩
theorem ok_wk5 {f fn fw fv : Addr} {fd dn dw dv : FuncData} {C CP CY : Addr} {uv : Value} (F : FnD K mg "walk" sWalk ["sheet", "place", "p", "q", "steps"] (.int 1) f fd uv) (FN : Fn K mg "need_place" sNeedPlace ["sheet", "place"] fn dn) (GN : FnOk P w K mg base (CX1 P w) 3 fn dn ["sheet", "place"] (spNp8 C CP))
    (FW : Fn K mg "need_way" sNeedWay ["p", "q"] fw dw) (GW : FnOk P w K mg base (CX1 P w) 1 fw dw ["p", "q"] (spNW6 CY))
    (FV : Fn K mg "walked" sWalked ["sheet", "place", "p", "q", "steps"] fv dv) (GV : FnOk P w K mg base CX0 8 fv dv ["sheet", "place", "p", "q", "steps"] (spWd5 C)) : FnOk P w K mg base (CX1 P w) 9 f fd ["sheet", "place", "p", "q", "steps"] (spWk5 C CP CY) := by
  obtain ⟨dV, FD0⟩ := F.F
  refine FD0.ok1 sc_wk5 (fun vs H Q E h => ?_) (fun cdv A outer s H vs Q E hr h => ?_)
  · obtain ⟨a, l, px, py, n, sqi, r, u, tx, bx, ty, by_, p, q, S, rfl, _⟩ := h; rfl
  · obtain ⟨a, l, px, py, n, sqi, r, u, tx, bx, ty, by_, p, q, S, rfl, ha, rr, ru, hn, hl, hx, hy, x0, y0, bX, bY, S0, S1, k1, k2, k3⟩ := h
    have hr1 : Room 1 _ := hr.mono (by decide)
    have hr3 : Room 3 _ := hr.mono (by decide)
    have hr8 : Room 8 _ := hr.mono (by decide)
    refine ⟨_, (pss_cons (ps_expr (pe_call GN hr3 rfl FN.m FN.F.kp FN.b .nil (pass1 fun _ _ _ z => z) (pa_cons (pv 0) (pa_cons (pv 1) pa_nil))))
      (pss_cons (ps_expr (pe_call GW hr1 rfl FW.m FW.F.kp FW.b .nil (pass1 fun _ _ _ z => z) (pa_cons (pv 2) (pa_cons (pv 3) pa_nil))))
      (pss_one (ps_ret (pe_call GV hr8 rfl FV.m FV.F.kp FV.b .nil pass0 (pa_cons (pv 0) (pa_cons (pv 1) (pa_cons (pv 2) (pa_cons (pv 3) (pa_cons (pv 4) pa_nil)))))))))), ?_⟩
    refine ⟨_, rfl, _, rfl, a, l, sqi, px, py, tx, bx, ty, by_, r, u, rfl, ha, hl, hx, hy, x0, y0, bX.mono (by decide), bY.mono (by decide), fun g => ?_, fun g => ?_⟩
    · rw [rr.len] at g
      refine ⟨_, rfl, _, rfl, p, q, rfl, fun hw => ?_, fun hw => k2 g hw⟩
      obtain ⟨sq, hsq⟩ := Int.eq_ofNat_of_zero_le g.1
      have e := k3 g hw sq hsq
      obtain ⟨gx0, gx1⟩ := div0 x0 g.2.2.1
      obtain ⟨gy0, gy1⟩ := div0 y0 g.2.2.2
      have hsn := g.2.1
      subst hsq
      exact ⟨_, rfl, _, rfl, _, rfl, _, rfl, _, rfl, a, l, n, sq, r, u, tx, bx, ty, by_, p, q, S, rfl, ha, rr, ru, hn, ⟨px, py, hl, hx, hy⟩, by omega, gx0, gx1, gy0, gy1, bX, bY, hw.1, hw.2.1, hw.2.2, S0, S1, e⟩
    · rw [rr.len] at g
      exact k1 g
end
end K1
namespace Sq
end Sq
namespace K1
open PySem L2 Sq
theorem low_in {t b : Int} (hb : 0 < b) (h0 : 0 ≤ t) (h1 : t < b) : 0 ≤ lowT t b ∧ lowT t b < lowB t b ∧ 0 < lowB t b ∧ (0 < t → 0 < lowT t b) := by
  have pb := lowB_pos (t := t) (b := b) (by omega)
  have e : lowT t b / lowB t b = 0 := by rw [fr_whole hb]; exact Int.ediv_eq_zero_of_lt h0 h1
  obtain ⟨a1, a2⟩ := div0 pb e
  refine ⟨a1, a2, pb, fun ht => ?_⟩
  have c := low_cross (i := t) (B := b)
  rcases Int.lt_or_le 0 (lowT t b) with g | g
  · exact g
  · have z : lowT t b = 0 := by omega
    rw [z, Int.zero_mul] at c
    have := Int.mul_pos ht pb
    omega
theorem unU_mx {bx by_ p q : Int} : unU bx by_ p q = bx * (by_ * mx1 p * mx1 q) := by unfold unU; simp only [Int.mul_assoc]
theorem unU_my {bx by_ p q : Int} : unU bx by_ p q = by_ * (bx * mx1 p * mx1 q) := by unfold unU; simp only [← Int.mul_assoc]; rw [Int.mul_comm by_ bx]
end K1
namespace Sq
end Sq
namespace Sq
structure Spt where
  s : Nat
  x : Int
  y : Int
/-- how far a step goes when m is left -/
def rm (p q U m : Int) (a : Spt) : Int := min (min (sid U (ou p U a.x) p) (sid U (ou q U a.y) q)) m
def wd (p q U m : Int) (a : Spt) : List Nat := lo p a.x 0 ++ (lo q a.y 1 ++ (li U (ou p U a.x + p * rm p q U m a) 2 ++ li U (ou q U a.y + q * rm p q U m a) 3))
def one (r u : List Nat) (p q U m : Int) (a : Spt) : Spt := ⟨app4 r u (wd p q U m a) a.s, z0 U (ou p U a.x + p * rm p q U m a), z0 U (ou q U a.y + q * rm p q U m a)⟩
def cr (F : List Nat) (a : Spt) : Bool := decide (a.x = 0) && (decide (a.y = 0) && decide (a.s ∈ F))
inductive Run (r u F : List Nat) (p q U : Int) : Spt → Int → Spt → Prop
  | nil (a : Spt) : cr F a = false → Run r u F p q U a 0 a
  | cons (a : Spt) (T : Int) (b : Spt) : 0 < T → cr F a = false → Run r u F p q U (one r u p q U T a) (T - rm p q U T a) b → Run r u F p q U a T b
/-- a rough corner is met behind T, when M is left -/
inductive Hit (r u F : List Nat) (p q U : Int) : Spt → Int → Int → Spt → Prop
  | here (a : Spt) (M : Int) : 0 ≤ M → cr F a = true → Hit r u F p q U a M 0 a
  | cons (a : Spt) (M T : Int) (b : Spt) : 0 < M → cr F a = false → Hit r u F p q U (one r u p q U M a) (M - rm p q U M a) T b → Hit r u F p q U a M (T + rm p q U M a) b
structure SIn (n : Nat) (p q U : Int) (a : Spt) : Prop where
  s : a.s < n
  x0 : 0 ≤ a.x
  x1 : a.x < U
  y0 : 0 ≤ a.y
  y1 : a.y < U
  px : p ≠ 0 → p ∣ a.x
  qy : q ≠ 0 → q ∣ a.y
section
variable {n : Nat} {r u F : List Nat} {p q U : Int}
theorem rm_pos {m : Int} {a : Spt} (o : WOk p q U) (h : SIn n p q U a) (hm : 0 < m) : 1 ≤ rm p q U m a := by
  have a1 := sid_pos o.u h.x0 h.x1 o.p h.px
  have b1 := sid_pos o.u h.y0 h.y1 o.q h.qy
  unfold rm; omega
theorem rm_le {m : Int} {a : Spt} : rm p q U m a ≤ m := by unfold rm; omega
theorem one_in {m : Int} {a : Spt} (hr : Row n r) (hu : Row n u) (o : WOk p q U) (h : SIn n p q U a) (hm : 0 < m) : SIn n p q U (one r u p q U m a) := by
  have m1 := rm_pos o h hm
  have ha : rm p q U m a ≤ sid U (ou p U a.x) p := by unfold rm; omega
  have hb : rm p q U m a ≤ sid U (ou q U a.y) q := by unfold rm; omega
  obtain ⟨a1, a2, _⟩ := sid_in o.u h.x0 h.x1 m1 ha
  obtain ⟨b1, b2, _⟩ := sid_in o.u h.y0 h.y1 m1 hb
  have za := z0_in o.u a1 a2
  have zb := z0_in o.u b1 b2
  refine ⟨app4_lt hr hu _ h.s, za.1, za.2, zb.1, zb.2, fun hp => ?_, fun hq => ?_⟩
  · exact z0_dvd (Int.dvd_add (ou_dvd (o.p hp) (h.px hp)) (Int.dvd_mul_right p _))
  · exact z0_dvd (Int.dvd_add (ou_dvd (o.q hq) (h.qy hq)) (Int.dvd_mul_right q _))
theorem one_at {m R : Int} {a : Spt} (h : rm p q U m a = R) : one r u p q U m a = ⟨app4 r u (lo p a.x 0 ++ (lo q a.y 1 ++ (li U (ou p U a.x + p * R) 2 ++ li U (ou q U a.y + q * R) 3))) a.s, z0 U (ou p U a.x + p * R), z0 U (ou q U a.y + q * R)⟩ := by subst h; rfl
theorem run_free {a b : Spt} {T : Int} (h : Run r u F p q U a T b) : cr F a = false := by cases h <;> assumption
theorem run_zero {a b : Spt} {T : Int} (hT : T = 0) (h : Run r u F p q U a T b) : b = a := by
  cases h with
  | nil => rfl
  | cons _ _ _ h0 => omega
theorem run_uniq {a b c : Spt} {T : Int} (h : Run r u F p q U a T b) : Run r u F p q U a T c → b = c := by
  induction h with
  | nil a h => intro g; exact (run_zero rfl g).symm
  | cons a T b h0 _ _ ih =>
    intro g
    cases g with
    | nil => omega
    | cons _ _ _ _ _ g => exact ih g
theorem hit_run {a b c : Spt} {M T : Int} (h : Hit r u F p q U a M T b) : Run r u F p q U a M c → False := by
  induction h with
  | here a M _ h => intro g; rw [run_free g] at h; cases h
  | cons a M T b h0 _ _ ih =>
    intro g
    cases g with
    | nil => omega
    | cons _ _ _ _ _ g => exact ih g
theorem hit_uniq {a b b' : Spt} {M T T' : Int} (h : Hit r u F p q U a M T b) : Hit r u F p q U a M T' b' → T = T' ∧ b = b' := by
  induction h generalizing T' with
  | here a M _ h =>
    intro g
    cases g with
    | here => exact ⟨rfl, rfl⟩
    | cons _ _ _ _ _ g => rw [g] at h; cases h
  | cons a M T b h0 hf _ ih =>
    intro g
    cases g with
    | here _ _ _ g => rw [g] at hf; cases hf
    | cons _ _ T2 _ _ _ g =>
      obtain ⟨e1, e2⟩ := ih g
      exact ⟨by rw [e1], e2⟩
/-- a step within the step -/
theorem sid_more {x m : Int} {p : Int} (hU : 0 < U) (h0 : 0 ≤ x) (h1 : x < U) (dU : p ≠ 0 → p ∣ U) (dx : p ≠ 0 → p ∣ x) (hm : 1 ≤ m) (hs : m < sid U (ou p U x) p) :
    (p ≠ 0 → ou p U x + p * m ≠ 0 ∧ ou p U x + p * m ≠ U) ∧ z0 U (ou p U x + p * m) = ou p U x + p * m ∧ (ou p U (ou p U x + p * m) = ou p U x + p * m) ∧ (p ≠ 0 → sid U (ou p U x + p * m) p = sid U (ou p U x) p - m) ∧ (∀ c, lo p (ou p U x + p * m) c = []) ∧ (∀ c, li U (ou p U x + p * m) c = []) := by
  have ho := ou_ge (p := p) hU h0 h1
  have hin := sid_in hU h0 h1 hm (Int.le_of_lt hs)
  have main : (p ≠ 0 → ou p U x + p * m ≠ 0 ∧ ou p U x + p * m ≠ U ∧ sid U (ou p U x + p * m) p = sid U (ou p U x) p - m) := fun hp => by
    rcases Int.lt_or_gt_of_ne hp with hn | hpos
    · obtain ⟨k, hk⟩ := ou_dvd (U := U) (dU hp) (dx hp)
      have e : ou p U x = (-p) * (-k) := by rw [hk, Int.neg_mul_neg]
      have e2 : ou p U x + p * m = (-p) * (-k - m) := by rw [e, Int.mul_sub, Int.neg_mul p m]; omega
      unfold sid at hs ⊢
      rw [if_neg (by omega), if_pos hn] at hs
      rw [if_neg (by omega), if_pos hn, if_neg (by omega), if_pos hn]
      rw [e, Int.mul_ediv_cancel_left _ (by omega)] at hs
      have h3 := hin.2.2 (by omega)
      refine ⟨fun z => ?_, by omega, ?_⟩
      · rw [e2] at z
        rcases Int.mul_eq_zero.mp z with g | g <;> omega
      · rw [e2, Int.mul_ediv_cancel_left _ (by omega), e, Int.mul_ediv_cancel_left _ (by omega)]
    · have e0 : ou p U x = x := by unfold ou; rw [if_neg (by omega)]
      obtain ⟨k, hk⟩ := Int.dvd_sub (dU hp) (dx hp)
      unfold sid at hs ⊢
      rw [if_pos hpos] at hs
      rw [if_pos hpos, if_pos hpos]
      rw [e0] at hs hin ⊢
      rw [hk, Int.mul_ediv_cancel_left _ hp] at hs
      have e2 : U - (x + p * m) = p * (k - m) := by rw [Int.mul_sub, ← hk]; omega
      have pm : 0 < p * m := Int.mul_pos hpos (by omega)
      refine ⟨by omega, fun z => ?_, ?_⟩
      · have : p * (k - m) = 0 := by omega
        rcases Int.mul_eq_zero.mp this with g | g <;> omega
      · rw [e2, Int.mul_ediv_cancel_left _ hp, hk, Int.mul_ediv_cancel_left _ hp]
  have nU : ou p U x + p * m ≠ U := by
    by_cases hp : p = 0
    · subst hp; have := hin.2.2 (by omega); omega
    · exact (main hp).2.1
  have n0 : ¬ (p < 0 ∧ ou p U x + p * m = 0) := fun z => (main (by omega)).1 z.2
  refine ⟨fun hp => ⟨(main hp).1, (main hp).2.1⟩, by unfold z0; rw [if_neg nU], by show (if p < 0 ∧ ou p U x + p * m = 0 then U else ou p U x + p * m) = _; rw [if_neg n0], fun hp => (main hp).2.2, fun c => by unfold lo; rw [if_neg n0], fun c => by unfold li; rw [if_neg nU]⟩
theorem split {m m' : Int} {a : Spt} (o : WOk p q U) (h : SIn n p q U a) (hm : 0 < m) (hle : m ≤ m') : (rm p q U m a = rm p q U m' a ∧ one r u p q U m a = one r u p q U m' a) ∨
    (rm p q U m a = m ∧ m < m' ∧ cr F (one r u p q U m a) = false ∧ one r u p q U (m' - m) (one r u p q U m a) = one r u p q U m' a ∧ rm p q U (m' - m) (one r u p q U m a) = rm p q U m' a - m) := by
  by_cases e : rm p q U m a = rm p q U m' a
  · refine .inl ⟨e, ?_⟩
    unfold one wd
    rw [e]
  · have e1 : rm p q U m a = m := by unfold rm at *; omega
    have lx : m < sid U (ou p U a.x) p := by unfold rm at *; omega
    have ly : m < sid U (ou q U a.y) q := by unfold rm at *; omega
    obtain ⟨x1, x2, x3, x4, x5, x6⟩ := sid_more o.u h.x0 h.x1 o.p h.px (by omega) lx
    obtain ⟨y1, y2, y3, y4, y5, y6⟩ := sid_more o.u h.y0 h.y1 o.q h.qy (by omega) ly
    have hm' : m < m' := by unfold rm at *; omega
    have eo : one r u p q U m a = ⟨app4 r u (lo p a.x 0 ++ lo q a.y 1) a.s, ou p U a.x + p * m, ou q U a.y + q * m⟩ := by
      unfold one wd
      rw [e1, x2, y2, x6, y6, List.append_nil, List.append_nil]
    have er : rm p q U (m' - m) (one r u p q U m a) = rm p q U m' a - m := by
      rw [eo]
      show min (min (sid U (ou p U (ou p U a.x + p * m)) p) (sid U (ou q U (ou q U a.y + q * m)) q)) (m' - m) = _
      rw [x3, y3]
      have sp0 : p = 0 → sid U (ou p U a.x + p * m) p = U ∧ sid U (ou p U a.x) p = U := fun z => by subst z; unfold sid; simp
      have sq0 : q = 0 → sid U (ou q U a.y + q * m) q = U ∧ sid U (ou q U a.y) q = U := fun z => by subst z; unfold sid; simp
      have le : ∀ {p x : Int}, 0 ≤ x → x < U → p ≠ 0 → sid U (ou p U x) p ≤ U := fun {p x} g0 g1 hp => by
        have := ou_ge (p := p) o.u g0 g1
        unfold sid
        split
        · exact Int.le_trans (Int.ediv_le_self _ (by omega)) (by omega)
        · rw [if_pos (by omega)]; exact Int.le_trans (Int.ediv_le_self _ (by omega)) (by omega)
      unfold rm
      by_cases hp : p = 0
      · by_cases hq : q = 0
        · exact absurd ⟨hp, hq⟩ o.n
        · have := le h.y0 h.y1 hq
          rw [(sp0 hp).1, (sp0 hp).2, y4 hq]; omega
      · by_cases hq : q = 0
        · have := le h.x0 h.x1 hp
          rw [(sq0 hq).1, (sq0 hq).2, x4 hp]; omega
        · rw [x4 hp, y4 hq]; omega
    refine .inr ⟨e1, hm', ?_, ?_, er⟩
    · rw [eo]
      unfold cr
      by_cases hp : p = 0
      · have hq : q ≠ 0 := fun z => o.n ⟨hp, z⟩
        have := (y1 hq).1
        simp [this]
      · have := (x1 hp).1
        simp [this]
    · have ex : ∀ {v s R : Int}, v + s * m + s * (R - m) = v + s * R := fun {v s R} => by rw [Int.mul_sub]; omega
      have key : one r u p q U (m' - m) (one r u p q U m a) = ⟨app4 r u (lo p (one r u p q U m a).x 0 ++ (lo q (one r u p q U m a).y 1 ++ (li U (ou p U (one r u p q U m a).x + p * (rm p q U m' a - m)) 2 ++ li U (ou q U (one r u p q U m a).y + q * (rm p q U m' a - m)) 3))) (one r u p q U m a).s, z0 U (ou p U (one r u p q U m a).x + p * (rm p q U m' a - m)), z0 U (ou q U (one r u p q U m a).y + q * (rm p q U m' a - m))⟩ := by
        rw [← er]; rfl
      rw [key, eo]
      dsimp only
      rw [x3, y3, x5, y5, ex, ex, List.nil_append, List.nil_append, ← app4_add]
      unfold one wd
      simp only [List.append_assoc]
theorem run_join {a b c : Spt} {T T2 : Int} (hr : Row n r) (hu : Row n u) (o : WOk p q U) (h : Run r u F p q U a T b) : SIn n p q U a → 0 ≤ T2 → Run r u F p q U b T2 c → Run r u F p q U a (T + T2) c := by
  induction h with
  | nil a hf => intro _ _ g; rw [Int.zero_add]; exact g
  | cons a T b h0 hf h' ih =>
    intro hi h2 g
    have hi1 := one_in hr hu o hi h0
    rcases split (r := r) (u := u) (F := F) o hi h0 (show T ≤ T + T2 by omega) with ⟨e1, e2⟩ | ⟨e1, e2, e3, e4, e5⟩
    · refine .cons _ _ _ (by omega) hf ?_
      have := ih hi1 h2 g
      rw [e2, e1] at this
      rwa [show T + T2 - rm p q U (T + T2) a = T - rm p q U (T + T2) a + T2 by omega]
    · have eb := run_zero (by omega) h'
      rw [eb] at g
      cases g with
      | nil => omega
      | cons _ _ _ g0 g1 g2 =>
        rw [show T + T2 - T = T2 by omega] at e4 e5
        rw [e4, e5] at g2
        refine .cons _ _ _ (by omega) hf ?_
        rwa [show T + T2 - rm p q U (T + T2) a = T2 - (rm p q U (T + T2) a - T) by omega]
theorem run_hit {a b c : Spt} {T M2 T2 : Int} (hr : Row n r) (hu : Row n u) (o : WOk p q U) (h : Run r u F p q U a T b) : SIn n p q U a → 0 ≤ M2 → Hit r u F p q U b M2 T2 c → Hit r u F p q U a (T + M2) (T2 + T) c := by
  induction h with
  | nil a hf => intro _ _ g; rw [Int.zero_add, Int.add_zero]; exact g
  | cons a T b h0 hf h' ih =>
    intro hi h2 g
    have hi1 := one_in hr hu o hi h0
    rcases split (r := r) (u := u) (F := F) o hi h0 (show T ≤ T + M2 by omega) with ⟨e1, e2⟩ | ⟨e1, e2, e3, e4, e5⟩
    · have := ih hi1 h2 g
      rw [e2, e1] at this
      rw [show T - rm p q U (T + M2) a + M2 = T + M2 - rm p q U (T + M2) a by omega] at this
      have := Hit.cons _ _ _ _ (by omega) hf this
      rwa [show T2 + (T - rm p q U (T + M2) a) + rm p q U (T + M2) a = T2 + T by omega] at this
    · have eb := run_zero (by omega) h'
      rw [eb] at g
      cases g with
      | here _ _ _ g => rw [e3] at g; cases g
      | cons _ _ T3 _ g0 g1 g2 =>
        rw [show T + M2 - T = M2 by omega] at e4 e5
        rw [e4, e5] at g2
        rw [show M2 - (rm p q U (T + M2) a - T) = T + M2 - rm p q U (T + M2) a by omega] at g2
        have := Hit.cons _ _ _ _ (by omega) hf g2
        rw [e5]
        rwa [show T3 + (rm p q U (T + M2) a - T) + T = T3 + rm p q U (T + M2) a by omega]
theorem hit_more {a b : Spt} {M T : Int} (hr : Row n r) (hu : Row n u) (o : WOk p q U) (h : Hit r u F p q U a M T b) : ∀ {M' : Int}, SIn n p q U a → M ≤ M' → Hit r u F p q U a M' T b := by
  induction h with
  | here a M h0 hf => intro M' _ h; exact .here _ _ (by omega) hf
  | cons a M T b h0 hf h' ih =>
    intro M' hi hle
    have hi1 := one_in hr hu o hi h0
    rcases split (r := r) (u := u) (F := F) o hi h0 hle with ⟨e1, e2⟩ | ⟨e1, e2, e3, e4, e5⟩
    · have := ih (M' := M' - rm p q U M' a) hi1 (by omega)
      rw [e2] at this
      have := Hit.cons _ _ _ _ (by omega) hf this
      rwa [e1]
    · cases h' with
      | here _ _ _ g => rw [e3] at g; cases g
      | cons => omega
/-- the way back, on one side -/
theorem turn_side {x m p : Int} (hU : 0 < U) (h0 : 0 ≤ x) (h1 : x < U) (hm : 1 ≤ m) (hs : m ≤ sid U (ou p U x) p) :
    ou (-p) U (z0 U (ou p U x + p * m)) = ou p U x + p * m ∧ m ≤ sid U (ou p U x + p * m) (-p) ∧ z0 U (ou p U x) = x ∧ ((-p < 0 ∧ z0 U (ou p U x + p * m) = 0) ↔ ou p U x + p * m = U) ∧ (ou p U x = U ↔ (p < 0 ∧ x = 0)) := by
  have ho := ou_ge (p := p) hU h0 h1
  obtain ⟨i1, i2, i3⟩ := sid_in hU h0 h1 hm hs
  have zx : z0 U (ou p U x) = x := by unfold z0 ou; split <;> split <;> omega
  have oU : ou p U x = U ↔ (p < 0 ∧ x = 0) := by unfold ou; split <;> omega
  unfold sid at hs
  by_cases hp : 0 < p
  · rw [if_pos hp] at hs
    have e0 : ou p U x = x := by unfold ou; rw [if_neg (by omega)]
    have pm : 0 < p * m := Int.mul_pos hp (by omega)
    have ez : z0 U (ou p U x + p * m) = if ou p U x + p * m = U then 0 else ou p U x + p * m := rfl
    refine ⟨?_, ?_, zx, ?_, oU⟩
    · unfold ou; unfold ou at *; rw [ez]; split <;> split <;> omega
    · unfold sid
      rw [if_neg (by omega), if_pos (by omega), Int.neg_neg]
      refine Int.le_ediv_of_mul_le hp ?_
      rw [Int.mul_comm]; omega
    · rw [ez]; split <;> omega
  · rw [if_neg hp] at hs
    have h3 := i3 (by omega)
    have ez : z0 U (ou p U x + p * m) = ou p U x + p * m := by unfold z0; rw [if_neg (by omega)]
    refine ⟨?_, ?_, zx, ?_, oU⟩
    · rw [ez]; show (if -p < 0 ∧ ou p U x + p * m = 0 then U else ou p U x + p * m) = _; rw [if_neg (by omega)]
    · by_cases hn : p < 0
      · unfold sid
        rw [if_pos (by omega)]
        refine Int.le_ediv_of_mul_le (by omega) ?_
        have : m * -p = -(p * m) := by rw [Int.mul_neg, Int.mul_comm]
        omega
      · have : p = 0 := by omega
        subst this
        rw [if_neg (by omega)] at hs
        unfold sid
        rw [if_neg (by omega), if_neg (by omega)]
        exact hs
    · rw [ez]; omega
/-- what the corners do -/
def Plain (n : Nat) (r u F : List Nat) : Prop := ∀ s, s < n → s ∉ F → nx u (nx r (nx (back u) (nx (back r) s))) = s
theorem turn_one {T : Int} {a : Spt} (hr : Row n r) (hu : Row n u) (o : WOk p q U) (pl : Plain n r u F) (h : SIn n p q U a) (hT : 0 < T) (ha : cr F a = false) (hb : cr F (one r u p q U T a) = false) :
    one r u (-p) (-q) U (rm p q U T a) (one r u p q U T a) = a ∧ rm (-p) (-q) U (rm p q U T a) (one r u p q U T a) = rm p q U T a := by
  have m1 := rm_pos o h hT
  have lx : rm p q U T a ≤ sid U (ou p U a.x) p := by unfold rm; omega
  have ly : rm p q U T a ≤ sid U (ou q U a.y) q := by unfold rm; omega
  obtain ⟨x1, x2, x3, x4, x5⟩ := turn_side o.u h.x0 h.x1 m1 lx
  obtain ⟨y1, y2, y3, y4, y5⟩ := turn_side o.u h.y0 h.y1 m1 ly
  have er : rm (-p) (-q) U (rm p q U T a) (one r u p q U T a) = rm p q U T a := by
    show min (min (sid U (ou (-p) U (z0 U (ou p U a.x + p * rm p q U T a))) (-p)) (sid U (ou (-q) U (z0 U (ou q U a.y + q * rm p q U T a))) (-q))) (rm p q U T a) = _
    rw [x1, y1]; omega
  refine ⟨?_, er⟩
  have ex : ∀ {v s R : Int}, v + s * R + -s * R = v := fun {v s R} => by rw [Int.neg_mul]; omega
  have e1 : one r u (-p) (-q) U (rm p q U T a) (one r u p q U T a) = ⟨app4 r u (lo (-p) (one r u p q U T a).x 0 ++ (lo (-q) (one r u p q U T a).y 1 ++ (li U (ou (-p) U (one r u p q U T a).x + -p * rm p q U T a) 2 ++ li U (ou (-q) U (one r u p q U T a).y + -q * rm p q U T a) 3))) (one r u p q U T a).s, z0 U (ou (-p) U (one r u p q U T a).x + -p * rm p q U T a), z0 U (ou (-q) U (one r u p q U T a).y + -q * rm p q U T a)⟩ := one_at er
  rw [e1]
  have px : (one r u p q U T a).x = z0 U (ou p U a.x + p * rm p q U T a) := rfl
  have py : (one r u p q U T a).y = z0 U (ou q U a.y + q * rm p q U T a) := rfl
  have ps : (one r u p q U T a).s = app4 r u (wd p q U T a) a.s := rfl
  rw [px, py]
  rw [x1, y1, ex, ex, x3, y3]
  have sq : app4 r u (lo (-p) (z0 U (ou p U a.x + p * rm p q U T a)) 0 ++ (lo (-q) (z0 U (ou q U a.y + q * rm p q U T a)) 1 ++ (li U (ou p U a.x) 2 ++ li U (ou q U a.y) 3))) (one r u p q U T a).s = a.s := by
    have hs := h.s
    have g1 : ∀ {f : List Nat} {i : Nat}, Row n f → i < n → nx (back f) (nx f i) = i := fun hf hi => nx_back hf hi
    have g2 : ∀ {f : List Nat} {i : Nat}, Row n f → i < n → nx f (nx (back f) i) = i := fun hf hi => nx_back' hf hi
    have fa : (p < 0 ∧ a.x = 0) → (q < 0 ∧ a.y = 0) → nx u (nx r (nx (back u) (nx (back r) a.s))) = a.s := fun c1 c2 => by
      refine pl _ hs fun z => ?_
      unfold cr at ha
      rw [decide_eq_true c1.2, decide_eq_true c2.2, decide_eq_true z] at ha
      cases ha
    have fb : ou p U a.x + p * rm p q U T a = U → ou q U a.y + q * rm p q U T a = U → nx u (nx r (nx (back u) (nx (back r) (one r u p q U T a).s))) = (one r u p q U T a).s := fun c1 c2 => by
      refine pl _ (one_in hr hu o h hT).s fun z => ?_
      unfold cr at hb
      rw [px, py, decide_eq_true (x4.mpr c1).2, decide_eq_true (y4.mpr c2).2, decide_eq_true z] at hb
      cases hb
    rw [ps] at fb ⊢
    unfold wd at fb ⊢
    rw [app4_add, app4_add, app4_add, app4_lo, app4_lo1, app4_li, app4_li1, app4_add, app4_add, app4_add, app4_lo, app4_lo1, app4_li, app4_li1]
    rw [app4_add, app4_add, app4_add, app4_lo, app4_lo1, app4_li, app4_li1] at fb
    simp only [x4, y4, x5, y5]
    generalize hX : ou p U a.x + p * rm p q U T a = X at *
    generalize hY : ou q U a.y + q * rm p q U T a = Y at *
    have nx1 : p < 0 ∧ a.x = 0 → X ≠ U := fun c e => by have := x4.mpr e; omega
    have ny1 : q < 0 ∧ a.y = 0 → Y ≠ U := fun c e => by have := y4.mpr e; omega
    by_cases A : p < 0 ∧ a.x = 0
    · have nX := nx1 A
      by_cases B : q < 0 ∧ a.y = 0
      · have nY := ny1 B
        simp only [if_pos A, if_pos B, if_neg nX, if_neg nY]
        exact fa A B
      · by_cases D : Y = U
        · simp only [if_pos A, if_neg B, if_neg nX, if_pos D]
          rw [g1 hu (hr.back.nlt hs), g2 hr hs]
        · simp only [if_pos A, if_neg B, if_neg nX, if_neg D]
          exact g2 hr hs
    · by_cases B : q < 0 ∧ a.y = 0
      · have nY := ny1 B
        by_cases D : X = U
        · simp only [if_neg A, if_pos B, if_pos D, if_neg nY]
          rw [g1 hr (hu.back.nlt hs), g2 hu hs]
        · simp only [if_neg A, if_pos B, if_neg D, if_neg nY]
          exact g2 hu hs
      · by_cases D : X = U
        · by_cases E : Y = U
          · have fb := fb D E
            simp only [if_neg A, if_neg B, if_pos D, if_pos E] at fb ⊢
            have l1 := hu.nlt (hr.nlt hs)
            have l2 := hu.back.nlt (hr.back.nlt l1)
            exact hr.inj l2 hs (hu.inj (hr.nlt l2) (hr.nlt hs) fb)
          · simp only [if_neg A, if_neg B, if_pos D, if_neg E]
            exact g1 hr hs
        · by_cases E : Y = U
          · simp only [if_neg A, if_neg B, if_neg D, if_pos E]
            exact g1 hu hs
          · simp only [if_neg A, if_neg B, if_neg D, if_neg E]
  rw [sq]
theorem ok_neg (o : WOk p q U) : WOk (-p) (-q) U := ⟨o.u, fun z => o.n ⟨by omega, by omega⟩, fun h => Int.neg_dvd.mpr (o.p (by omega)), fun h => Int.neg_dvd.mpr (o.q (by omega))⟩
theorem in_neg {a : Spt} (h : SIn n p q U a) : SIn n (-p) (-q) U a := ⟨h.s, h.x0, h.x1, h.y0, h.y1, fun g => Int.neg_dvd.mpr (h.px (by omega)), fun g => Int.neg_dvd.mpr (h.qy (by omega))⟩
theorem run_in {a b : Spt} {T : Int} (hr : Row n r) (hu : Row n u) (o : WOk p q U) (h : Run r u F p q U a T b) : SIn n p q U a → SIn n p q U b := by
  induction h with
  | nil a _ => exact id
  | cons a T b h0 _ _ ih => exact fun hi => ih (one_in hr hu o hi h0)
/-- a run turned round -/
theorem run_back {a b : Spt} {T : Int} (hr : Row n r) (hu : Row n u) (o : WOk p q U) (pl : Plain n r u F) (h : Run r u F p q U a T b) : SIn n p q U a → 0 ≤ T → Run r u F (-p) (-q) U b T a := by
  induction h with
  | nil a hf => exact fun _ _ => .nil a hf
  | cons a T b h0 hf h' ih =>
    intro hi _
    have hi1 := one_in hr hu o hi h0
    have m1 := rm_pos o hi h0
    have m2 : rm p q U T a ≤ T := rm_le
    obtain ⟨e1, e2⟩ := turn_one hr hu o pl hi h0 hf (run_free h')
    have last : Run r u F (-p) (-q) U (one r u p q U T a) (rm p q U T a) a := by
      refine .cons _ _ _ (by omega) (run_free h') ?_
      rw [e1, e2, Int.sub_self]
      exact .nil a hf
    have := run_join hr hu (ok_neg o) (ih hi1 (by omega)) (in_neg (run_in hr hu o h' hi1)) (by omega) last
    rwa [show T - rm p q U T a + rm p q U T a = T by omega] at this
/-- what the machine's states are -/
def spot (r u : List Nat) (s : Nat) (w : WS) : Spt := ⟨app4 r u w.w s, w.x, w.y⟩
theorem spot_stp {M : Int} {s : Nat} {w : WS} : spot r u s (stp p q U M w) = one r u p q U (M - w.t) (spot r u s w) ∧ (stp p q U M w).t = w.t + rm p q U (M - w.t) (spot r u s w) := by
  refine ⟨?_, rfl⟩
  unfold spot stp one wd
  dsimp only
  rw [app4_add]
  rfl
theorem ws_run {M X Y : Int} {s i : Nat} (hf : ∀ j, j < i → cr F (spot r u s (ws p q U M X Y j)) = false ∧ (ws p q U M X Y j).t < M) (ht : (ws p q U M X Y i).t = M) (hc : cr F (spot r u s (ws p q U M X Y i)) = false) :
    ∀ k, k ≤ i → Run r u F p q U (spot r u s (ws p q U M X Y (i - k))) (M - (ws p q U M X Y (i - k)).t) (spot r u s (ws p q U M X Y i))
  | 0, _ => by
    rw [Nat.sub_zero, ht, Int.sub_self]
    exact .nil _ hc
  | k + 1, hk => by
    have ih := ws_run hf ht hc k (by omega)
    obtain ⟨f1, f2⟩ := hf (i - (k + 1)) (by omega)
    have e : ws p q U M X Y (i - k) = stp p q U M (ws p q U M X Y (i - (k + 1))) := by
      rw [show i - k = (i - (k + 1)) + 1 by omega]; rfl
    obtain ⟨s1, s2⟩ := spot_stp (r := r) (u := u) (p := p) (q := q) (U := U) (M := M) (s := s) (w := ws p q U M X Y (i - (k + 1)))
    rw [e, s1, s2] at ih
    refine .cons _ _ _ (by omega) f1 ?_
    rwa [show M - ((ws p q U M X Y (i - (k + 1))).t + rm p q U (M - (ws p q U M X Y (i - (k + 1))).t) (spot r u s (ws p q U M X Y (i - (k + 1))))) = M - (ws p q U M X Y (i - (k + 1))).t - rm p q U (M - (ws p q U M X Y (i - (k + 1))).t) (spot r u s (ws p q U M X Y (i - (k + 1)))) by omega] at ih
theorem ws_hit {M X Y : Int} {s i : Nat} (hf : ∀ j, j < i → cr F (spot r u s (ws p q U M X Y j)) = false ∧ (ws p q U M X Y j).t < M) (ht : (ws p q U M X Y i).t ≤ M) (hc : cr F (spot r u s (ws p q U M X Y i)) = true) :
    ∀ k, k ≤ i → Hit r u F p q U (spot r u s (ws p q U M X Y (i - k))) (M - (ws p q U M X Y (i - k)).t) ((ws p q U M X Y i).t - (ws p q U M X Y (i - k)).t) (spot r u s (ws p q U M X Y i))
  | 0, _ => by
    rw [Nat.sub_zero, Int.sub_self]
    exact .here _ _ (by omega) hc
  | k + 1, hk => by
    have ih := ws_hit hf ht hc k (by omega)
    obtain ⟨f1, f2⟩ := hf (i - (k + 1)) (by omega)
    have e : ws p q U M X Y (i - k) = stp p q U M (ws p q U M X Y (i - (k + 1))) := by
      rw [show i - k = (i - (k + 1)) + 1 by omega]; rfl
    obtain ⟨s1, s2⟩ := spot_stp (r := r) (u := u) (p := p) (q := q) (U := U) (M := M) (s := s) (w := ws p q U M X Y (i - (k + 1)))
    rw [e, s1, s2] at ih
    rw [show M - ((ws p q U M X Y (i - (k + 1))).t + rm p q U (M - (ws p q U M X Y (i - (k + 1))).t) (spot r u s (ws p q U M X Y (i - (k + 1))))) = M - (ws p q U M X Y (i - (k + 1))).t - rm p q U (M - (ws p q U M X Y (i - (k + 1))).t) (spot r u s (ws p q U M X Y (i - (k + 1)))) by omega] at ih
    have := Hit.cons _ _ _ _ (by omega) f1 ih
    rwa [show (ws p q U M X Y i).t - ((ws p q U M X Y (i - (k + 1))).t + rm p q U (M - (ws p q U M X Y (i - (k + 1))).t) (spot r u s (ws p q U M X Y (i - (k + 1))))) + rm p q U (M - (ws p q U M X Y (i - (k + 1))).t) (spot r u s (ws p q U M X Y (i - (k + 1)))) = (ws p q U M X Y i).t - (ws p q U M X Y (i - (k + 1))).t by omega] at this
end
end Sq
namespace Sq
end Sq
namespace Sq
end Sq
namespace Sq
theorem rounds_mem {n : Nat} {w M : List Nat} (h : M ∈ rounds n w) : ∃ x, x < n ∧ lead n w x = true ∧ M = cyc n w x := by
  obtain ⟨l, hl, rfl⟩ := List.mem_map.mp h
  obtain ⟨h1, h2⟩ := List.mem_filter.mp hl
  exact ⟨l, List.mem_range.mp h1, h2, rfl⟩
end Sq
namespace K1
open PySem L2 Sq
theorem mod_uniq {a b U k m : Int} (a0 : 0 ≤ a) (a1 : a < U) (b0 : 0 ≤ b) (b1 : b < U) (e : a + U * k = b + U * m) : a = b := by
  have h1 : (a + U * k) % U = a := by rw [Int.add_mul_emod_self_left]; exact Int.emod_eq_of_lt a0 a1
  have h2 : (b + U * m) % U = b := by rw [Int.add_mul_emod_self_left]; exact Int.emod_eq_of_lt b0 b1
  rw [← h1, e, h2]
theorem least_uniq {n s : Nat} {w : List Nat} {v v' : V} (hw : Row n w) (h : LeastV n w s v) (h' : LeastV n w s v') : v = v' := by
  obtain ⟨R, hR, sR, rfl⟩ := h
  obtain ⟨x, hx, lx, rfl⟩ := rounds_mem hR
  obtain ⟨R', hR', sR', rfl⟩ := h'
  obtain ⟨x', hx', lx', rfl⟩ := rounds_mem hR'
  have e0 : ∀ {x : Nat}, x < n → (cyc n w x).getD 0 0 = x := fun {x} hx => by rw [List.getD_eq_getElem?_getD, cyc_head hw hx]; rfl
  rw [e0 hx, e0 hx']
  have a1 := lead_iff.mp lx x' (cyc_trans hw hx sR (cyc_symm hw hx' sR'))
  have a2 := lead_iff.mp lx' x (cyc_trans hw hx' sR' (cyc_symm hw hx sR))
  congr 1
  omega
theorem least_int {n s : Nat} {w : List Nat} {v : V} (h : LeastV n w s v) : ∃ m : Int, v = .int m := let ⟨_, _, _, e⟩ := h; ⟨_, e⟩
theorem plain6 {n : Nat} {r u : List Nat} (rr : Row n r) (ru : Row n u) : Plain n r u (roughs n (later r u)) := fun s hs hF => by
  rw [← later_nx rr hs]
  refine Decidable.byContradiction fun c => hF ?_
  rw [(roughs_perm (later_row rr ru)).mem_iff]
  unfold notPlain
  rw [List.mem_filter, List.mem_range]
  exact ⟨hs, by simpa using c⟩
abbrev U6 (tx bx ty by_ p q : Int) : Int := unU (lowB tx bx) (lowB ty by_) p q
abbrev A6 (tx bx ty by_ p q : Int) (sq : Nat) : Spt := ⟨sq, uX (lowT tx bx) (lowB tx bx) (lowB ty by_) p q, uY (lowT ty by_) (lowB tx bx) (lowB ty by_) p q⟩
theorem u6_neg {tx bx ty by_ p q : Int} : U6 tx bx ty by_ (-p) (-q) = U6 tx bx ty by_ p q := by unfold U6 unU mx1; rw [Int.natAbs_neg, Int.natAbs_neg]
theorem a6_neg {tx bx ty by_ p q : Int} {s : Nat} : A6 tx bx ty by_ (-p) (-q) s = A6 tx bx ty by_ p q s := by unfold A6 uX uY; rw [show unU (lowB tx bx) (lowB ty by_) (-p) (-q) = unU (lowB tx bx) (lowB ty by_) p q from u6_neg (tx := tx) (ty := ty)]
theorem a6_in {n sq : Nat} {tx bx ty by_ p q : Int} (hsq : sq < n) (x0 : 0 ≤ tx) (x1 : tx < bx) (y0 : 0 ≤ ty) (y1 : ty < by_) : SIn n p q (U6 tx bx ty by_ p q) (A6 tx bx ty by_ p q sq) := by
  obtain ⟨ax0, ax1, ax2, _⟩ := low_in (show 0 < bx by omega) x0 x1
  obtain ⟨ay0, ay1, ay2, _⟩ := low_in (show 0 < by_ by omega) y0 y1
  have i := u_in (p := p) (q := q) (M := 0) ax0 ax1 ay0 ay1 (by decide)
  exact ⟨hsq, i.x0, i.x1, i.y0, i.y1, i.px, i.qy⟩
theorem low_over {t b k U : Int} (hb : 0 < b) (hU : 0 < U) (hk : U = lowB t b * k) : lowT (lowT t b * k) U = lowT t b ∧ lowB (lowT t b * k) U = lowB t b := by
  have pb := lowB_pos (t := t) (b := b) (by omega)
  have k0 : 0 < k := by
    rcases Int.lt_or_le 0 k with g | g
    · exact g
    · have := Int.mul_nonneg_of_nonpos_of_nonpos (show -lowB t b ≤ 0 by omega) g
      rw [Int.neg_mul] at this
      omega
  rw [hk]
  obtain ⟨e1, e2⟩ := low_scale (t := lowT t b) (b := lowB t b) (by omega) k0
  obtain ⟨f1, f2⟩ := low_low (a := t) hb
  exact ⟨by rw [e1, f1], by rw [e2, f2]⟩
/-- how a walk ends, as a run or as a corner hit -/
theorem end_run {C : Addr} {n sq : Nat} {r u : List Nat} {tx bx ty by_ p q S : Int} {H : Hp} {Q : VK} (rr : Row n r) (ru : Row n u) (hsq : sq < n) (S0 : 0 ≤ S) (hw : Way p q) (x0 : 0 ≤ tx) (x1 : tx < bx) (y0 : 0 ≤ ty) (y1 : ty < by_)
    (k1 : ∀ (H' : Hp) (t l' : Addr) (s' : Nat), Same H H' → H' t = some (.tup [.str (Str.ofString "there"), .ref l']) → P3 C H' l' s' (lowT tx bx) (lowB tx bx) (lowT ty by_) (lowB ty by_) → s' < n →
      Run r u (roughs n (later r u)) p q (U6 tx bx ty by_ p q) (A6 tx bx ty by_ p q sq) (S * U6 tx bx ty by_ p q) (A6 tx bx ty by_ p q s') → Q (.ref t) H')
    (k2 : ∀ (H' : Hp) (t pt : Addr) (v : V) (T : Int) (b : Spt), Same H H' → H' t = some (.tup [.str (Str.ofString "corner"), v, .ref pt]) → LeastV n (later r u) b.s v → PtAt C H' pt (lowT T (U6 tx bx ty by_ p q)) (lowB T (U6 tx bx ty by_ p q)) → 0 ≤ T → T ≤ S * U6 tx bx ty by_ p q →
      Hit r u (roughs n (later r u)) p q (U6 tx bx ty by_ p q) (A6 tx bx ty by_ p q sq) (S * U6 tx bx ty by_ p q) T b → Q (.ref t) H') :
    End5 C n sq r u (lowT tx bx) (lowB tx bx) (lowT ty by_) (lowB ty by_) p q S H Q := by
  have pbx : 0 < bx := by omega
  have pby : 0 < by_ := by omega
  obtain ⟨ax0, ax1, ax2, _⟩ := low_in pbx x0 x1
  obtain ⟨ay0, ay1, ay2, _⟩ := low_in pby y0 y1
  have o := unU_ok (p := p) (q := q) ax2 ay2 hw.2.2
  have hU := o.u
  have hM : 0 ≤ S * unU (lowB tx bx) (lowB ty by_) p q := Int.mul_nonneg S0 (by omega)
  have in0 := u_in (p := p) (q := q) (M := S * unU (lowB tx bx) (lowB ty by_) p q) ax0 ax1 ay0 ay1 hM
  constructor
  · intro H' t l' i s fr ht hcr h1 h2
    have wi := ws_in o in0 i fun j hj => (fr j hj).2
    have run := ws_run (r := r) (u := u) (F := roughs n (later r u)) (s := sq) (fun j hj => ⟨(fr j hj).1, (fr j hj).2⟩) ht hcr i (Nat.le_refl i)
    rw [Nat.sub_self] at run
    have ex := ws_x p q (unU (lowB tx bx) (lowB ty by_) p q) (S * unU (lowB tx bx) (lowB ty by_) p q) (uX (lowT tx bx) (lowB tx bx) (lowB ty by_) p q) (uY (lowT ty by_) (lowB tx bx) (lowB ty by_) p q) i
    have ey := ws_y p q (unU (lowB tx bx) (lowB ty by_) p q) (S * unU (lowB tx bx) (lowB ty by_) p q) (uX (lowT tx bx) (lowB tx bx) (lowB ty by_) p q) (uY (lowT ty by_) (lowB tx bx) (lowB ty by_) p q) i
    have gx : (W5 (lowT tx bx) (lowB tx bx) (lowT ty by_) (lowB ty by_) p q S i).x = uX (lowT tx bx) (lowB tx bx) (lowB ty by_) p q := by
      refine mod_uniq wi.x0 wi.x1 in0.x0 in0.x1 (m := p * S) (ex.trans ?_)
      rw [show (ws p q (unU (lowB tx bx) (lowB ty by_) p q) (S * unU (lowB tx bx) (lowB ty by_) p q) (uX (lowT tx bx) (lowB tx bx) (lowB ty by_) p q) (uY (lowT ty by_) (lowB tx bx) (lowB ty by_) p q) i).t = _ from ht, ← Int.mul_assoc, Int.mul_comm (p * S)]
    have gy : (W5 (lowT tx bx) (lowB tx bx) (lowT ty by_) (lowB ty by_) p q S i).y = uY (lowT ty by_) (lowB tx bx) (lowB ty by_) p q := by
      refine mod_uniq wi.y0 wi.y1 in0.y0 in0.y1 (m := q * S) (ey.trans ?_)
      rw [show (ws p q (unU (lowB tx bx) (lowB ty by_) p q) (S * unU (lowB tx bx) (lowB ty by_) p q) (uX (lowT tx bx) (lowB tx bx) (lowB ty by_) p q) (uY (lowT ty by_) (lowB tx bx) (lowB ty by_) p q) i).t = _ from ht, ← Int.mul_assoc, Int.mul_comm (q * S)]
    have e2 : spot r u sq (W5 (lowT tx bx) (lowB tx bx) (lowT ty by_) (lowB ty by_) p q S i) = A6 tx bx ty by_ p q (app4 r u (W5 (lowT tx bx) (lowB tx bx) (lowT ty by_) (lowB ty by_) p q S i).w sq) := by
      unfold spot A6; rw [gx, gy]
    rw [show spot r u sq (ws p q (unU (lowB tx bx) (lowB ty by_) p q) (S * unU (lowB tx bx) (lowB ty by_) p q) (uX (lowT tx bx) (lowB tx bx) (lowB ty by_) p q) (uY (lowT ty by_) (lowB tx bx) (lowB ty by_) p q) i) = _ from e2] at run
    have run : Run r u (roughs n (later r u)) p q (U6 tx bx ty by_ p q) (A6 tx bx ty by_ p q sq) (S * U6 tx bx ty by_ p q - 0) (A6 tx bx ty by_ p q (app4 r u (W5 (lowT tx bx) (lowB tx bx) (lowT ty by_) (lowB ty by_) p q S i).w sq)) := run
    rw [Int.sub_zero] at run
    rw [gx, gy] at h2
    have lx : lowT (uX (lowT tx bx) (lowB tx bx) (lowB ty by_) p q) (unU (lowB tx bx) (lowB ty by_) p q) = lowT tx bx ∧ lowB (uX (lowT tx bx) (lowB tx bx) (lowB ty by_) p q) (unU (lowB tx bx) (lowB ty by_) p q) = lowB tx bx := by
      unfold uX; rw [unU_x ax2]; exact low_over pbx hU unU_mx
    have ly : lowT (uY (lowT ty by_) (lowB tx bx) (lowB ty by_) p q) (unU (lowB tx bx) (lowB ty by_) p q) = lowT ty by_ ∧ lowB (uY (lowT ty by_) (lowB tx bx) (lowB ty by_) p q) (unU (lowB tx bx) (lowB ty by_) p q) = lowB ty by_ := by
      unfold uY; rw [unU_y ay2]; exact low_over pby hU unU_my
    rw [lx.1, lx.2, ly.1, ly.2] at h2
    exact k1 H' t l' _ s h1 h2 (app4_lt rr ru _ hsq) run
  · intro H' t pt i v s fr hcr h1 lv hpt
    have wi := ws_in o in0 i fun j hj => (fr j hj).2
    have hit := ws_hit (r := r) (u := u) (F := roughs n (later r u)) (s := sq) (fun j hj => ⟨(fr j hj).1, (fr j hj).2⟩) wi.t1 hcr i (Nat.le_refl i)
    rw [Nat.sub_self] at hit
    have hit : Hit r u (roughs n (later r u)) p q (U6 tx bx ty by_ p q) (A6 tx bx ty by_ p q sq) (S * U6 tx bx ty by_ p q - 0) ((W5 (lowT tx bx) (lowB tx bx) (lowT ty by_) (lowB ty by_) p q S i).t - 0) (spot r u sq (W5 (lowT tx bx) (lowB tx bx) (lowT ty by_) (lowB ty by_) p q S i)) := hit
    rw [Int.sub_zero, Int.sub_zero] at hit
    exact k2 H' t pt v _ _ s h1 lv hpt wi.t0 wi.t1 hit
end K1
namespace K1
open PySem L2 Sq
end K1
namespace K1
open PySem L2 Sq
end K1
namespace K1
open PySem L2 Sq
def RawM (K : PySem.W.Frag) (C : Addr) (m qual : Str) (st : Stmt) : Prop := ∃ f fd, Fun K m qual st f fd ∧ Meth K C m f
theorem rawm_mk {K : PySem.W.Frag} {C : Addr} {m qual : Str} {st : Stmt} {f : Addr} {oc : Value} {od an : Option Addr} {osl : Array (Option Value)} {kV doc pm cdv ct : Value} (a : PySem.W.findIn K (.ref C) m = some (some (.ref f))) (i : PySem.W.isFn K (.ref f) = true)
    (l : K.lookup f = some ⟨oc, od, .func (PySem.W.fnOf m qual (defArgs st) (defBody st) (defScope st) .none kV doc pm an cdv ct), osl⟩) (c : PySem.W.codeIn K cdv qual = true) (k : PySem.W.keepIn K (.ref f) = true) : RawM K C m qual st :=
  ⟨f, _, fun_mk l c k, a, i, k⟩
theorem RawM.fn {K : PySem.W.Frag} {C : Addr} {m qual : Str} {st : Stmt} {ps : List Str} (R : RawM K C m qual st)
    (b : ∀ (kV doc pm : Value) (an : Option Addr) (cdv ct : Value) (us : List Value), us.length = ps.length → bindArgs (PySem.W.fnOf m qual (defArgs st) (defBody st) (defScope st) .none kV doc pm an cdv ct) ⟨us, []⟩ = pure (ps.zip us)) : ∃ f fd, MFn K C m qual st ps f fd := by
  obtain ⟨f, fd, F, M⟩ := R
  exact ⟨f, fd, F, F.binds b, M⟩
/-- Part's __init__, with its default -/
structure PIn (K : PySem.W.Frag) (C : Addr) (f : Addr) (fd : FuncData) : Prop where
  M : Mk K C f
  F : ∃ dV, FunD K "__init__" "Part.__init__" sPInit dV f fd
  b : Binds K fd ["self", "top", "bottom"] []
  b1 : ∃ tk, Binds K fd ["self", "top", "bottom"] [.int 1 tk]
theorem pin_mk {K : PySem.W.Frag} {C f Td : Addr} {oc tc : Value} {od an td : Option Addr} {osl tsl : Array (Option Value)} {kV doc pm cdv ct : Value} {tk : Tok} {tn : Nat} (mk : PySem.W.makesIn K C = true) (kc : PySem.W.keepIn K (.ref C) = true)
    (a : PySem.W.findIn K (.ref C) "__init__" = some (some (.ref f))) (i : PySem.W.isFn K (.ref f) = true)
    (l : K.lookup f = some ⟨oc, od, .func (PySem.W.fnOf "__init__" "Part.__init__" (defArgs sPInit) (defBody sPInit) (defScope sPInit) (.ref Td) kV doc pm an cdv ct), osl⟩) (c : PySem.W.codeIn K cdv "Part.__init__" = true) (k : PySem.W.keepIn K (.ref f) = true)
    (t : K.lookup Td = some ⟨tc, td, .seq #[.int 1 tk] tn, tsl⟩) : ∃ fd, PIn K C f fd := by
  refine ⟨_, ⟨mk, a, i, kc⟩, ⟨_, funD_mk l c k⟩, fun s us hK hl => ?_, tk, fun s us hK hl => ?_⟩
  · have hl' : us.length = 3 := by simpa using hl
    match us, hl' with
    | [x, y, z], _ => exact PySem.W.binds_K hK rfl t rfl rfl rfl
  · have hl' : us.length = 2 := by simpa using hl
    match us, hl' with
    | [x, y], _ => exact PySem.W.binds_K hK rfl t rfl rfl rfl
/-- what the walk of the top gives of the class -/
structure PTx0 (K : PySem.W.Frag) (C : Addr) : Prop where
  pg : PySem.W.plainGet K C Str.empty = true
  hd : PySem.W.hasDictIn K C = true
  po : PySem.W.plainOver K C = true
  sa : PySem.W.findIn K (.ref C) "__setattr__" = some (some (.builtin "object.__setattr__"))
  nT : PySem.W.findIn K (.ref C) "top" = some none
  nB : PySem.W.findIn K (.ref C) "bottom" = some none
  ha : PySem.W.findIn K (.ref C) "__class__" = some (some (.builtin "object.__class__"))
  hn : PySem.W.specialIn K (.builtin "object.__class__") "__get__" = some (some (.builtin "getset_descriptor.__get__"))
  htk : PySem.W.takesIn K (.builtin "object.__class__") = some true
  hm : PySem.W.mroIn K C (.type "object") = some true
theorem kit_own (K : PySem.W.Frag) (C : Addr) : PySem.W.kitOne K (.ref C) (.ref C) = some true := by
  unfold PySem.W.kitOne
  rw [if_pos (beq_self_eq_true _)]
theorem PTx0.tx {K : PySem.W.Frag} {mg : Str → Option Value} {C : Addr} (h : PTx0 K C) (m : mg "Part" = some (.ref C)) : PTx K mg C :=
  ⟨⟨h.pg, h.hd, h.po, h.sa⟩, h.nT, h.nB, m, kit_own K C, h.ha, h.hn, h.htk, h.hm⟩
end K1
namespace K1
open PySem L2 Sq
def spDr6 : Sp := fun vs H Q _ => ∃ (c : Int), vs = [.int c] ∧ ∀ (H' : Hp) (x : Addr) (p q : Int), Same H H' → H' x = some (.tup [.int p, .int q]) → Way p q → Q (.ref x) H'
section
variable {P : Program} {w : World} {K : PySem.W.Frag} {mg : Str → Option Value} {base : Heap}
abbrev n_dr6 : List Str := ["_law_cell_here", "_law_p", "_law_q"]
theorem sc_dr6 : FnScope n_dr6 ["_law_cell_here"] (defScope sLDirection) := ⟨rfl, rfl, rfl, by decide +kernel, rfl, by decide +kernel, by decide +kernel⟩
theorem ok_dr6 {f : Addr} {fd : FuncData} (F : Fn K mg "_law_direction" sLDirection ["_law_cell_here"] f fd) : FnOk P w K mg base CX0 1 f fd ["_law_cell_here"] spDr6 := by
  refine F.F.ok sc_dr6 (fun vs H Q E h => ?_) (fun cdv A outer s H vs Q E hr h => ?_)
  · obtain ⟨c, rfl, _⟩ := h; rfl
  · obtain ⟨c, rfl, k⟩ := h
    refine ⟨_, (pss_cons (ps_set (i := 1) sc_dr6.nd rfl (Or.inl rfl) (pe_op op_sub (pe_op op_mod (pv 0) pe_int) pe_int))
      (pss_cons (ps_set (i := 2) sc_dr6.nd rfl (Or.inl rfl) (pe_op op_sub (pe_op op_mod (pe_op op_fdiv (pv 0) pe_int) pe_int) pe_int))
      (pss_cons (ps_if (PW.pt (pw_and (pt_cmpR op_eq (pv 1) pe_int (nomark _)) (pw_and1 (pt_cmpR op_eq (pv 2) pe_int (nomark _))))) (pss_one (ps_set (i := 2) sc_dr6.nd rfl (Or.inl rfl) pe_int)) pss_nil)
      (pss_one (ps_ret (pe_tup (pa_cons (pv 1) (pa_cons (pv 2) pa_nil)))))))), ?_⟩
    have two : 2 ≤ sizeLine := by decide
    refine ⟨_, rfl, _, _, rfl, rfl, (by show (0 : Int) < 11; decide), _, _, rfl, rfl, ?_⟩
    refine ⟨_, rfl, _, _, rfl, rfl, ⟨by decide, by decide⟩, _, _, rfl, rfl, (by show (0 : Int) < 11; decide), _, _, rfl, rfl, ?_⟩
    dsimp only
    obtain ⟨p, hp⟩ : ∃ x : Int, c % 11 - 5 = x := ⟨_, rfl⟩
    obtain ⟨q, hq⟩ : ∃ x : Int, c / 11 % 11 - 5 = x := ⟨_, rfl⟩
    rw [hp, hq]
    refine ⟨_, rfl, rfl, _, rfl, ?_⟩
    rw [dec_i]
    by_cases e1 : p = 0
    · rw [decide_eq_true e1]
      refine iteT ?_
      refine ⟨_, rfl, rfl, _, rfl, ?_⟩
      rw [dec_i]
      by_cases e2 : q = 0
      · rw [decide_eq_true e2]
        refine iteT ?_
        exact ⟨_, rfl, _, rfl, two, fun t ht => k _ t p 1 (same_upd (Same.refl H) ht) upd_same ⟨by omega, by decide, by omega⟩⟩
      · rw [decide_eq_false e2]
        refine iteF ?_
        exact ⟨_, rfl, _, rfl, two, fun t ht => k _ t p q (same_upd (Same.refl H) ht) upd_same ⟨by omega, by omega, by omega⟩⟩
    · rw [decide_eq_false e1]
      refine iteF ?_
      refine iteF ?_
      exact ⟨_, rfl, _, rfl, two, fun t ht => k _ t p q (same_upd (Same.refl H) ht) upd_same ⟨by omega, by omega, by omega⟩⟩
end
end K1
namespace K1
open PySem L2 Sq
section
variable {P : Program} {w : World} {K : PySem.W.Frag} {mg : Str → Option Value} {base : Heap}
abbrev n_ad6 : List Str := ["_law_cell_here", "_law_p", "_law_q"]
theorem sc_ad6 : FnScope n_ad6 ["_law_cell_here"] (defScope sLAnyDirection) := ⟨rfl, rfl, rfl, by decide +kernel, rfl, by decide +kernel, by decide +kernel⟩
theorem ok_ad6 {f : Addr} {fd : FuncData} (F : Fn K mg "_law_any_direction" sLAnyDirection ["_law_cell_here"] f fd) : FnOk P w K mg base CX0 1 f fd ["_law_cell_here"] spDr6 := by
  refine F.F.ok sc_ad6 (fun vs H Q E h => ?_) (fun cdv A outer s H vs Q E hr h => ?_)
  · obtain ⟨c, rfl, _⟩ := h; rfl
  · obtain ⟨c, rfl, k⟩ := h
    refine ⟨_, (pss_cons (ps_set (i := 1) sc_ad6.nd rfl (Or.inl rfl) (pe_op op_sub (pe_op op_mod (pv 0) pe_int) pe_int))
      (pss_cons (ps_set (i := 2) sc_ad6.nd rfl (Or.inl rfl) (pe_op op_sub (pe_op op_mod (pe_op op_fdiv (pv 0) pe_int) pe_int) pe_int))
      (pss_cons (ps_if (PW.pt (pw_and (pt_cmpR op_eq (pv 1) pe_int (nomark _)) (pw_and1 (pt_cmpR op_eq (pv 2) pe_int (nomark _))))) (pss_one (ps_set (i := 2) sc_ad6.nd rfl (Or.inl rfl) pe_int)) pss_nil)
      (pss_one (ps_ret (pe_tup (pa_cons (pv 1) (pa_cons (pv 2) pa_nil)))))))), ?_⟩
    have two : 2 ≤ sizeLine := by decide
    refine ⟨_, rfl, _, _, rfl, rfl, (by show (0 : Int) < 121; decide), _, _, rfl, rfl, ?_⟩
    refine ⟨_, rfl, _, _, rfl, rfl, ⟨by decide, by decide⟩, _, _, rfl, rfl, (by show (0 : Int) < 121; decide), _, _, rfl, rfl, ?_⟩
    dsimp only
    obtain ⟨p, hp⟩ : ∃ x : Int, c % 121 - 60 = x := ⟨_, rfl⟩
    obtain ⟨q, hq⟩ : ∃ x : Int, c / 121 % 121 - 60 = x := ⟨_, rfl⟩
    rw [hp, hq]
    refine ⟨_, rfl, rfl, _, rfl, ?_⟩
    rw [dec_i]
    by_cases e1 : p = 0
    · rw [decide_eq_true e1]
      refine iteT ?_
      refine ⟨_, rfl, rfl, _, rfl, ?_⟩
      rw [dec_i]
      by_cases e2 : q = 0
      · rw [decide_eq_true e2]
        refine iteT ?_
        exact ⟨_, rfl, _, rfl, two, fun t ht => k _ t p 60 (same_upd (Same.refl H) ht) upd_same ⟨by omega, by decide, by omega⟩⟩
      · rw [decide_eq_false e2]
        refine iteF ?_
        exact ⟨_, rfl, _, rfl, two, fun t ht => k _ t p q (same_upd (Same.refl H) ht) upd_same ⟨by omega, by omega, by omega⟩⟩
    · rw [decide_eq_false e1]
      refine iteF ?_
      refine iteF ?_
      exact ⟨_, rfl, _, rfl, two, fun t ht => k _ t p q (same_upd (Same.refl H) ht) upd_same ⟨by omega, by omega, by omega⟩⟩
end
end K1
namespace K1
open PySem L2 Sq
def Pr5 (H : Hp) (p : Addr) (t b : Int) : Prop := H p = some (.tup [.int t, .int b])
def spPa5 : Sp := fun vs H Q _ => ∃ (c : Int), vs = [.int c] ∧ ∀ (H' : Hp) (x : Addr) (t b : Int), Same H H' → Pr5 H' x t b → 0 ≤ t → t < b → b ≤ 1000000000 → Q (.ref x) H'
section
variable {P : Program} {w : World} {K : PySem.W.Frag} {mg : Str → Option Value} {base : Heap}
abbrev n_pa5 : List Str := ["_law_cell_here", "_law_bottom"]
theorem sc_pa5 : FnScope n_pa5 ["_law_cell_here"] (defScope sLPart) := ⟨rfl, rfl, rfl, by decide +kernel, rfl, by decide +kernel, by decide +kernel⟩
theorem ok_pa5 {f : Addr} {fd : FuncData} (F : Fn K mg "_law_part" sLPart ["_law_cell_here"] f fd) : FnOk P w K mg base CX0 1 f fd ["_law_cell_here"] spPa5 := by
  refine F.F.ok sc_pa5 (fun vs H Q E h => ?_) (fun cdv A outer s H vs Q E hr h => ?_)
  · obtain ⟨c, rfl, _⟩ := h; rfl
  · obtain ⟨c, rfl, k⟩ := h
    refine ⟨_, (pss_cons (ps_set (i := 1) sc_pa5.nd rfl (Or.inl rfl) (pe_op op_add pe_int (pe_op op_mod (pv 0) pe_int)))
      (pss_cons (ps_if (pt_cmpR op_eq (pe_op op_mod (pe_op op_fdiv (pv 0) pe_int) pe_int) pe_int (nomark _)) (pss_one (ps_set (i := 1) sc_pa5.nd rfl (Or.inl rfl) (pe_op op_add pe_int (pe_op op_mod (pe_op op_fdiv (pv 0) pe_int) (pe_op op_pow pe_int pe_int))))) pss_nil)
      (pss_one (ps_ret (pe_tup (pa_cons (pe_op op_mod (pe_op op_fdiv (pv 0) pe_int) (pv 1)) (pa_cons (pv 1) pa_nil))))))), ?_⟩
    have fin : ∀ b : Int, 0 < b → b ≤ 1000000000 → tRet (tTup (tCons (tOp (rI (fun _ j => 0 < j) fun i j => .int (i % j)) (tOp (rI CDiv fun i j => .int (i / j)) (tVar 0) (tC (.int 11))) (tVar 1)) (tCons (tVar 1) tNil))) { nx := fun _ H' => Q .non H', rt := Q } [some (.int c), some (.int b)] H := fun b b0 b1 =>
      ⟨_, rfl, _, _, rfl, rfl, ⟨by decide, by decide⟩, _, rfl, _, _, rfl, rfl, b0, _, rfl, by show 2 ≤ sizeLine; decide, fun x hx => k _ x _ b (same_upd (Same.refl H) hx) upd_same (Int.emod_nonneg _ (by omega)) (Int.emod_lt_of_pos _ b0) b1⟩
    refine ⟨_, rfl, _, _, rfl, rfl, (by show (0 : Int) < 6; decide), _, _, rfl, rfl, ?_⟩
    refine ⟨_, rfl, _, _, rfl, rfl, ⟨by decide, by decide⟩, _, _, rfl, rfl, (by show (0 : Int) < 5; decide), rfl, _, rfl, ?_⟩
    refine ite2 (fun _ => ?_) (fun _ => ?_)
    · refine ⟨_, rfl, _, _, rfl, rfl, ⟨by decide, by decide⟩, 10, 9, rfl, rfl, ⟨by decide, by decide, by decide⟩, _, _, rfl, rfl, (by show (0 : Int) < 10 ^ Int.toNat 9; decide), _, _, rfl, rfl, ?_⟩
      have e9 : (10 : Int) ^ Int.toNat 9 = 1000000000 := by decide
      have f0 : 0 ≤ c / 30 % 10 ^ Int.toNat 9 := Int.emod_nonneg _ (by decide)
      have f1 : c / 30 % 10 ^ Int.toNat 9 < 10 ^ Int.toNat 9 := Int.emod_lt_of_pos _ (by decide)
      rw [e9] at f0 f1
      dsimp only
      rw [e9]
      exact fin _ (by omega) (by omega)
    · exact fin _ (by omega) (by omega)
end
end K1
namespace K1
open PySem L2 Sq
def spAp6 : Sp := fun vs H Q _ => ∃ (c m : Int), vs = [.int c, .int m] ∧ 0 < m ∧ m ≤ 999999999999 ∧ ∀ (H' : Hp) (x : Addr) (t b : Int), Same H H' → Pr5 H' x t b → 0 ≤ t → t < b → b ≤ m → Q (.ref x) H'
section
variable {P : Program} {w : World} {K : PySem.W.Frag} {mg : Str → Option Value} {base : Heap}
abbrev n_ap6 : List Str := ["_law_cell_here", "_law_most", "_law_bottom"]
theorem sc_ap6 : FnScope n_ap6 ["_law_cell_here", "_law_most"] (defScope sLAnyPart) := ⟨rfl, rfl, rfl, by decide +kernel, rfl, by decide +kernel, by decide +kernel⟩
theorem ok_ap6 {f : Addr} {fd : FuncData} (F : Fn K mg "_law_any_part" sLAnyPart ["_law_cell_here", "_law_most"] f fd) : FnOk P w K mg base CX0 1 f fd ["_law_cell_here", "_law_most"] spAp6 := by
  refine F.F.ok sc_ap6 (fun vs H Q E h => ?_) (fun cdv A outer s H vs Q E hr h => ?_)
  · obtain ⟨c, m, rfl, _⟩ := h; rfl
  · obtain ⟨c, m, rfl, m0, m1, k⟩ := h
    refine ⟨_, (pss_cons (ps_set (i := 2) sc_ap6.nd rfl (Or.inl rfl) (pe_op op_add pe_int (pe_op op_mod (pv 0) (pv 1))))
      (pss_one (ps_ret (pe_tup (pa_cons (pe_op op_mod (pe_op op_fdivB (pv 0) (pv 1)) (pv 2)) (pa_cons (pv 2) pa_nil)))))), ?_⟩
    have two : 2 ≤ sizeLine := by decide
    refine ⟨_, rfl, _, rfl, _, _, rfl, rfl, m0, _, _, rfl, rfl, ?_⟩
    have e0 := Int.emod_nonneg c (show m ≠ 0 by omega)
    have e1 := Int.emod_lt_of_pos c m0
    obtain ⟨B, hB⟩ : ∃ x : Int, 1 + c % m = x := ⟨_, rfl⟩
    dsimp only
    rw [hB]
    refine ⟨_, rfl, _, rfl, _, _, rfl, rfl, ⟨by omega, (bt12 m0 (by omega)).mono (by decide)⟩, _, rfl, _, _, rfl, rfl, (by show 0 < B; omega), _, rfl, two, fun t ht => ?_⟩
    exact k _ t _ _ (same_upd (Same.refl H) ht) upd_same (Int.emod_nonneg _ (by omega)) (Int.emod_lt_of_pos _ (by omega)) (by omega)
end
end K1
namespace K1
open PySem L2 Sq
def spCellA (K : PySem.W.Frag) : Sp := fun vs H Q _ => ∃ (a : Addr) (ns : List Int) (j : Int), vs = [.ref a, .int j] ∧ SqL K H a (ns.map V.int) ∧ 0 ≤ j ∧ j < 1000000 ∧ ∀ v : Int, Q (.int v) H
section
variable {P : Program} {w : World} {K : PySem.W.Frag} {mg : Str → Option Value} {base : Heap}
theorem scCell : FnScope ["_law_script", "_law_k"] ["_law_script", "_law_k"] (defScope sCell) := ⟨rfl, rfl, rfl, by decide +kernel, rfl, by decide +kernel, by decide +kernel⟩
theorem ok_cellA {f : Addr} {fd : FuncData} (T : Bi mg) (F : Fn K mg "_law_cell" sCell ["_law_script", "_law_k"] f fd) : FnOk P w K mg base CX0 1 f fd ["_law_script", "_law_k"] (spCellA K) := by
  refine F.F.ok scCell (fun vs H Q E h => ?_) (fun cdv A outer s H vs Q E hr h => ?_)
  · obtain ⟨a, ns, j, rfl, _⟩ := h; rfl
  · obtain ⟨a, ns, j, rfl, hS, h0, h1, k⟩ := h
    refine ⟨_, pss_cons (ps_if (pt_cmpR op_lt (pv 1) (pe_callB call_len_seq (by rfl) T.len PySem.boot_len (pa_cons (pv 0) pa_nil)) (nomark _)) (pss_one (ps_ret (pe_op op_mod (pe_ix ix_list (pv 0) (pv 1) (fun _ _ => rfl)) (pe_op op_pow pe_int pe_int)))) pss_nil)
      (pss_cons (ps_if (pt_cmpR op_eq (pe_callB call_len_seq (by rfl) T.len PySem.boot_len (pa_cons (pv 0) pa_nil)) pe_int (nomark _)) (pss_one (ps_ret pe_int)) pss_nil)
      (pss_one (ps_ret (pe_op op_mod (pe_op op_add (pe_op op_mul (pe_op op_mod (pe_ix ix_list (pv 0) (pe_op op_mod (pv 1) (pe_callB call_len_seq (by rfl) T.len PySem.boot_len (pa_cons (pv 0) pa_nil))) (fun _ _ => rfl)) pe_int) pe_int)
        (pe_op op_mul (pe_op op_mul (pv 1) (pv 1)) pe_int)) pe_int)))), ?_⟩
    refine ⟨_, rfl, _, rfl, a, _, rfl, .inl hS, _, _, rfl, rfl, _, rfl, ?_⟩
    have ix : ∀ m : Nat, m < ns.length → atI (ns.map V.int) (m : Int) = some (.int (ns.getD m 0)) := fun m hm => atI_nat (by simp [List.getD_eq_getElem?_getD, hm])
    refine ite2 (fun hlt => ?_) (fun hge => ?_)
    · have hlt : j < ((ns.map V.int).length : Int) := of_decide_eq_true hlt
      rw [List.length_map] at hlt
      have e := ix j.toNat (by omega)
      rw [Int.toNat_of_nonneg h0] at e
      exact ⟨_, rfl, _, rfl, a, _, j, _, rfl, rfl, hS, e, _, _, rfl, rfl, ⟨by decide, by decide, by decide⟩, _, _, rfl, rfl, (by show (0 : Int) < 10 ^ (18 : Int).toNat; decide), k _⟩
    · refine ⟨_, rfl, a, _, rfl, .inl hS, rfl, _, rfl, ?_⟩
      refine ite2 (fun _ => k 0) (fun hne => ?_)
      rw [List.length_map] at hne
      have hpos : 0 < ns.length := by
        rcases Nat.eq_zero_or_pos ns.length with e | e
        · exact absurd (decide_eq_true (by rw [e]; rfl)) hne
        · exact e
      have hp : (0 : Int) < ((ns.map V.int).length : Int) := by rw [List.length_map]; omega
      obtain ⟨m, hm⟩ := Int.eq_ofNat_of_zero_le (Int.emod_nonneg j (show ((ns.map V.int).length : Int) ≠ 0 by omega))
      have hml : m < ns.length := by
        have := Int.emod_lt_of_pos j hp
        rw [hm, List.length_map] at this
        omega
      refine ⟨_, rfl, _, rfl, _, rfl, a, _, rfl, .inl hS, _, _, rfl, rfl, hp, ?_⟩
      dsimp only
      rw [hm]
      refine ⟨a, _, _, _, rfl, rfl, hS, ix m hml, _, _, rfl, rfl, (by show (0 : Int) < 1000003; decide), _, _, rfl, rfl, .inr ⟨by decide, by decide⟩, ?_⟩
      exact ⟨_, rfl, _, rfl, _, _, rfl, rfl, .inl ⟨by omega, by omega⟩, _, _, rfl, rfl, .inr ⟨by decide, by decide⟩, _, _, rfl, rfl, _, _, rfl, rfl, (by show (0 : Int) < 1000003; decide), k _⟩
end
end K1
namespace K1
open PySem L2 Sq
def Pl5 (H : Hp) (l : Addr) (sq : Nat) (tx bx ty by_ : Int) : Prop := ∃ px py, H l = some (.tup [.int (sq : Int), .ref px, .ref py]) ∧ Pr5 H px tx bx ∧ Pr5 H py ty by_
def spPl5 (K : PySem.W.Frag) : Sp := fun vs H Q _ => ∃ (sc : Addr) (ns : List Int) (j : Int) (n : Nat), vs = [.ref sc, .int j, .int (n : Int)] ∧ SqL K H sc (ns.map V.int) ∧ 0 ≤ j ∧ j < 1000 ∧ 1 ≤ n ∧
  ∀ (H' : Hp) (l : Addr) (sq : Nat) (tx bx ty by_ : Int), Same H H' → Pl5 H' l sq tx bx ty by_ → sq < n → 0 ≤ tx → tx < bx → bx ≤ 1000000000 → 0 ≤ ty → ty < by_ → by_ ≤ 1000000000 → Q (.ref l) H'
section
variable {P : Program} {w : World} {K : PySem.W.Frag} {mg : Str → Option Value} {base : Heap}
abbrev n_pl5 : List Str := ["_law_script", "_law_at", "_law_many", "_law_square"]
theorem sc_pl5 : FnScope n_pl5 ["_law_script", "_law_at", "_law_many"] (defScope sLPlace) := ⟨rfl, rfl, rfl, by decide +kernel, rfl, by decide +kernel, by decide +kernel⟩
theorem ok_pl5 {f fc fp : Addr} {fd dc dp : FuncData} (F : Fn K mg "_law_place" sLPlace ["_law_script", "_law_at", "_law_many"] f fd) (FC : Fn K mg "_law_cell" sCell ["_law_script", "_law_k"] fc dc) (GC : FnOk P w K mg base CX0 1 fc dc ["_law_script", "_law_k"] (spCellA K))
    (FP : Fn K mg "_law_part" sLPart ["_law_cell_here"] fp dp) (GP : FnOk P w K mg base CX0 1 fp dp ["_law_cell_here"] spPa5) : FnOk P w K mg base CX0 2 f fd ["_law_script", "_law_at", "_law_many"] (spPl5 K) := by
  refine F.F.ok sc_pl5 (fun vs H Q E h => ?_) (fun cdv A outer s H vs Q E hr h => ?_)
  · obtain ⟨sc, ns, j, n, rfl, _⟩ := h; rfl
  · obtain ⟨sc, ns, j, n, rfl, hS, j0, j1, hn, k⟩ := h
    have hr1 : Room 1 _ := hr.mono (by decide)
    refine ⟨_, (pss_cons (ps_set (i := 3) sc_pl5.nd rfl (Or.inl rfl) (pe_op op_mod (pe_call GC hr1 rfl FC.m FC.F.kp FC.b .nil pass0 (pa_cons (pv 0) (pa_cons (pv 1) pa_nil))) (pv 2)))
      (pss_one (ps_ret (pe_tup (pa_cons (pv 3) (pa_cons (pe_call GP hr1 rfl FP.m FP.F.kp FP.b .nil pass0 (pa_cons (pe_call GC hr1 rfl FC.m FC.F.kp FC.b .nil pass0 (pa_cons (pv 0) (pa_cons (pe_op op_add (pv 1) pe_int) pa_nil))) pa_nil)) (pa_cons (pe_call GP hr1 rfl FP.m FP.F.kp FP.b .nil pass0 (pa_cons (pe_call GC hr1 rfl FC.m FC.F.kp FC.b .nil pass0 (pa_cons (pv 0) (pa_cons (pe_op op_add (pv 1) pe_int) pa_nil))) pa_nil)) pa_nil))))))), ?_⟩
    refine ⟨_, rfl, _, rfl, sc, ns, j, rfl, hS, j0, by omega, fun v1 => ?_⟩
    refine ⟨_, rfl, _, _, rfl, rfl, (by show (0 : Int) < (n : Int); omega), ?_⟩
    obtain ⟨sq, hsq⟩ := Int.eq_ofNat_of_zero_le (Int.emod_nonneg v1 (show (n : Int) ≠ 0 by omega))
    have hlt := Int.emod_lt_of_pos v1 (show (0 : Int) < (n : Int) by omega)
    dsimp only
    rw [hsq]
    rw [hsq] at hlt
    refine ⟨_, rfl, _, rfl, _, rfl, _, _, rfl, rfl, sc, ns, _, rfl, hS, by omega, by omega, fun v2 => ?_⟩
    refine ⟨_, rfl, fun H1 x tx bx s1 hx x0 x1 x2 => ?_⟩
    refine ⟨_, rfl, _, rfl, _, _, rfl, rfl, sc, ns, _, rfl, s1.seq hS, by omega, by omega, fun v3 => ?_⟩
    refine ⟨_, rfl, fun H2 y ty by_ s2 hy y0 y1 y2 => ?_⟩
    refine ⟨by show 3 ≤ sizeLine; decide, fun l hl => ?_⟩
    have s3 := same_upd (o := .tup [.int (sq : Int), .ref x, .ref y]) (Same.refl H2) hl
    exact k _ l sq tx bx ty by_ (s1.trans (s2.trans s3)) ⟨x, y, upd_same, s3 _ _ (s2 _ _ hx), s3 _ _ hy⟩ (by omega) x0 x1 x2 y0 y1 y2
end
end K1
namespace K1
open PySem L2 Sq
def spAl6 : Sp := fun vs H Q _ => ∃ (c m : Int) (n : Nat), vs = [.int c, .int (n : Int), .int m] ∧ 1 ≤ n ∧ n ≤ 36 ∧ 0 < m ∧ m ≤ 999999999999 ∧
  ∀ (H' : Hp) (l : Addr) (sq : Nat) (tx bx ty by_ : Int), Same H H' → Pl5 H' l sq tx bx ty by_ → sq < n → 0 ≤ tx → tx < bx → bx ≤ m → 0 ≤ ty → ty < by_ → by_ ≤ m → Q (.ref l) H'
section
variable {P : Program} {w : World} {K : PySem.W.Frag} {mg : Str → Option Value} {base : Heap}
abbrev n_al6 : List Str := ["_law_cell_here", "_law_many", "_law_most"]
theorem sc_al6 : FnScope n_al6 ["_law_cell_here", "_law_many", "_law_most"] (defScope sLAnyPlace) := ⟨rfl, rfl, rfl, by decide +kernel, rfl, by decide +kernel, by decide +kernel⟩
theorem ok_al6 {f fp : Addr} {fd dp : FuncData} (F : Fn K mg "_law_any_place" sLAnyPlace ["_law_cell_here", "_law_many", "_law_most"] f fd) (FP : Fn K mg "_law_any_part" sLAnyPart ["_law_cell_here", "_law_most"] fp dp) (GP : FnOk P w K mg base CX0 1 fp dp ["_law_cell_here", "_law_most"] spAp6) : FnOk P w K mg base CX0 2 f fd ["_law_cell_here", "_law_many", "_law_most"] spAl6 := by
  refine F.F.ok sc_al6 (fun vs H Q E h => ?_) (fun cdv A outer s H vs Q E hr h => ?_)
  · obtain ⟨c, m, n, rfl, _⟩ := h; rfl
  · obtain ⟨c, m, n, rfl, n0, n1, m0, m1, k⟩ := h
    have hr1 : Room 1 _ := hr.mono (by decide)
    refine ⟨_, (pss_one (ps_ret (pe_tup (pa_cons (pe_op op_mod (pv 0) (pv 1)) (pa_cons (pe_call GP hr1 rfl FP.m FP.F.kp FP.b .nil pass0 (pa_cons (pe_op op_fdivB (pv 0) (pv 1)) (pa_cons (pv 2) pa_nil))) (pa_cons (pe_call GP hr1 rfl FP.m FP.F.kp FP.b .nil pass0 (pa_cons (pe_op op_fdivB (pe_op op_fdivB (pe_op op_fdivB (pv 0) (pv 1)) (pv 2)) (pv 2)) (pa_cons (pv 2) pa_nil))) pa_nil)))))), ?_⟩
    have three : 3 ≤ sizeLine := by decide
    have n0' : (0 : Int) < (n : Int) := by omega
    refine ⟨_, rfl, _, rfl, _, _, rfl, rfl, n0', ?_⟩
    refine ⟨_, rfl, _, rfl, _, _, rfl, rfl, ⟨by omega, (bt12 n0' (by omega)).mono (by decide)⟩, _, rfl, _, m, rfl, m0, m1, fun H1 x tx bx s1 hx x0 x1 x2 => ?_⟩
    refine ⟨_, rfl, _, rfl, _, _, rfl, rfl, ⟨by omega, (bt12 n0' (by omega)).mono (by decide)⟩, _, rfl, _, _, rfl, rfl, ⟨by omega, (bt12 m0 (by omega)).mono (by decide)⟩, _, rfl, _, _, rfl, rfl, ⟨by omega, (bt12 m0 (by omega)).mono (by decide)⟩, _, rfl, _, m, rfl, m0, m1, fun H2 y ty by_ s2 hy y0 y1 y2 => ?_⟩
    refine ⟨three, fun t ht => ?_⟩
    obtain ⟨sq, hsq⟩ := Int.eq_ofNat_of_zero_le (Int.emod_nonneg c (show (n : Int) ≠ 0 by omega))
    have hlt := Int.emod_lt_of_pos c n0'
    have s3 := same_upd (o := .tup [.int (c % (n : Int)), .ref x, .ref y]) (Same.refl H2) ht
    refine k _ t sq tx bx ty by_ (s1.trans (s2.trans s3)) ⟨x, y, ?_, s3 _ _ (s2 _ _ hx), s3 _ _ hy⟩ (by omega) x0 x1 x2 y0 y1 y2
    rw [← hsq]; exact upd_same
end
end K1
namespace K1
open PySem L2 Sq
def spHa5 (C : Addr) : Sp := fun vs H Q _ => ∃ (l : Addr) (sq : Nat) (tx bx ty by_ : Int), vs = [.ref l] ∧ Pl5 H l sq tx bx ty by_ ∧ 0 < bx ∧ bx < 1000000000000 ∧ 0 < by_ ∧ by_ < 1000000000000 ∧
  ∀ (H' : Hp) (x : Addr), Same H H' → P3 C H' x sq (lowT tx bx) (lowB tx bx) (lowT ty by_) (lowB ty by_) → Q (.ref x) H'
section
variable {P : Program} {w : World} {K : PySem.W.Frag} {mg : Str → Option Value} {base : Heap}
abbrev n_ha5 : List Str := ["_law_place_here"]
theorem sc_ha5 : FnScope n_ha5 ["_law_place_here"] (defScope sHanded) := ⟨rfl, rfl, rfl, by decide +kernel, rfl, by decide +kernel, by decide +kernel⟩
theorem ok_ha5 {f : Addr} {fd : FuncData} {C CN fi : Addr} {di : FuncData} (T : PTx K mg C) (M : Mk K C fi) (bI : Binds K di ["self", "top", "bottom"] []) (GI : FnOk P w K mg base (CX1 P w) 2 fi di ["self", "top", "bottom"] (spInit C CN)) (F : Fn K mg "_law_handed" sHanded ["_law_place_here"] f fd) : FnOk P w K mg base CX0 4 f fd ["_law_place_here"] (spHa5 C) := by
  refine F.F.ok sc_ha5 (fun vs H Q E h => ?_) (fun cdv A outer s H vs Q E hr h => ?_)
  · obtain ⟨l, sq, tx, bx, ty, by_, rfl, _⟩ := h; rfl
  · obtain ⟨l, sq, tx, bx, ty, by_, rfl, ⟨px, py, h1, h2, h3⟩, x0, x1, y0, y1, k⟩ := h
    have hr3 : Room 3 _ := hr.mono (by decide)
    have hr1 : Room 1 _ := hr.mono (by decide)
    refine ⟨_, (pss_one (ps_ret (pe_tup (pa_cons (pe_ix ix_tup (pv 0) pe_int (fun _ _ => rfl)) (pa_cons (pe_make M GI hr3 rfl T.mgC bI .nil passE0 (pa_cons (pe_ix ix_tup (pe_ix ix_tup (pv 0) pe_int (fun _ _ => rfl)) pe_int (fun _ _ => rfl)) (pa_cons (pe_ix ix_tup (pe_ix ix_tup (pv 0) pe_int (fun _ _ => rfl)) pe_int (fun _ _ => rfl)) pa_nil))) (pa_cons (pe_make M GI hr3 rfl T.mgC bI .nil passE0 (pa_cons (pe_ix ix_tup (pe_ix ix_tup (pv 0) pe_int (fun _ _ => rfl)) pe_int (fun _ _ => rfl)) (pa_cons (pe_ix ix_tup (pe_ix ix_tup (pv 0) pe_int (fun _ _ => rfl)) pe_int (fun _ _ => rfl)) pa_nil))) pa_nil)))))), ?_⟩
    refine ⟨_, rfl, l, _, 0, _, rfl, rfl, SqT.of h1, atI_nat (j := 0) rfl, ?_⟩
    refine ⟨_, rfl, l, _, 1, _, rfl, rfl, SqT.of h1, atI_nat (j := 1) rfl, px, _, 0, _, rfl, rfl, SqT.of h2, atI_nat (j := 0) rfl, _, rfl, l, _, 1, _, rfl, rfl, SqT.of h1, atI_nat (j := 1) rfl, px, _, 1, _, rfl, rfl, SqT.of h2, atI_nat (j := 1) rfl, ?_⟩
    intro x dx nx ndx ne
    refine mkPart1 (by omega) ((bt12 x0 x1).mono (by decide)) nx ndx fun H1 s1 p1 => ⟨rfl, ?_⟩
    refine ⟨_, rfl, l, _, 2, _, rfl, rfl, SqT.of (s1 _ _ h1), atI_nat (j := 2) rfl, py, _, 0, _, rfl, rfl, SqT.of (s1 _ _ h3), atI_nat (j := 0) rfl, _, rfl, l, _, 2, _, rfl, rfl, SqT.of (s1 _ _ h1), atI_nat (j := 2) rfl, py, _, 1, _, rfl, rfl, SqT.of (s1 _ _ h3), atI_nat (j := 1) rfl, ?_⟩
    intro x' dx' nx' ndx' ne'
    refine mkPart1 (by omega) ((bt12 y0 y1).mono (by decide)) nx' ndx' fun H2 s2 p2 => ⟨rfl, ?_⟩
    refine ⟨by show 3 ≤ sizeLine; decide, fun t ht => ?_⟩
    have s3 := same_upd (o := .tup [.int (sq : Int), .ref x, .ref x']) (Same.refl H2) ht
    exact k _ t (s1.trans (s2.trans s3)) ⟨x, x', upd_same, p1.same (s2.trans s3), p2.same s3⟩
end
end K1
namespace K1
open PySem L2 Sq
section
variable {P : Program} {w : World} {K : PySem.W.Frag} {mg : Str → Option Value} {base : Heap}
theorem scWhole : FnScope ["_law_found"] ["_law_found"] (defScope sWhole) := ⟨rfl, rfl, rfl, by decide +kernel, rfl, by decide +kernel, by decide +kernel⟩
theorem ok_whole {f : Addr} {fd : FuncData} (T : Bi mg) (F : Fn K mg "_law_whole" sWhole ["_law_found"] f fd) : FnOk P w K mg base CX0 1 f fd ["_law_found"] spWhole := by
  refine F.F.ok scWhole (fun vs H Q E h => ?_) (fun cdv A outer s H vs Q E hr h => ?_)
  · obtain ⟨i, rfl, _⟩ := h; rfl
  · obtain ⟨i, rfl, k⟩ := h
    refine ⟨_, pss_one (ps_ret (pe_and (pe_callB call_isinst (by rfl) T.isin boot_isin (pa_cons (pv 0) (pa_cons (pe_bltn (v := .ty "int") (by rfl) T.int boot_int rfl) pa_nil)))
      (pe_one (pe_not (pe_callB call_isinst (by rfl) T.isin boot_isin (pa_cons (pv 0) (pa_cons (pe_bltn (v := .ty "bool") (by rfl) T.bool boot_bool rfl) pa_nil))))))), ?_⟩
    refine ⟨_, rfl, _, _, _, _, rfl, .int i, kit_int_int K, _, rfl, ?_⟩
    refine iteT ?_
    exact ⟨_, rfl, _, _, _, _, rfl, .int i, kit_int_bool K, _, rfl, k⟩
end
end K1
namespace K1
open PySem L2 Sq
def spPair (C : Addr) : Sp := fun vs H Q _ => ∃ (p : Addr) (t b : Int), vs = [.ref p] ∧ PtAt C H p t b ∧ 0 < b ∧ ∀ (H' : Hp) (x : Addr), Same H H' → H x = none → H' x = some (.tup ([t, b].map V.int)) → Q (.ref x) H'
section
variable {P : Program} {w : World} {K : PySem.W.Frag} {mg : Str → Option Value} {base : Heap}
theorem scPr : FnScope ["_law_found"] ["_law_found"] (defScope sLPair) := ⟨rfl, rfl, rfl, by decide +kernel, rfl, by decide +kernel, by decide +kernel⟩
theorem ok_pair {f fw C : Addr} {fd fdw : FuncData} (TB : Bi mg) (T : PTx K mg C) (F : Fn K mg "_law_pair" sLPair ["_law_found"] f fd) (FW : Fn K mg "_law_whole" sWhole ["_law_found"] fw fdw) (GW : FnOk P w K mg base CX0 1 fw fdw ["_law_found"] spWhole) :
    FnOk P w K mg base CX0 2 f fd ["_law_found"] (spPair C) := by
  refine F.F.ok scPr (fun vs H Q E h => ?_) (fun cdv A outer s H vs Q E hr h => ?_)
  · obtain ⟨p, t, b, rfl, _⟩ := h; rfl
  · obtain ⟨p, t, b, rfl, ⟨dp, hp⟩, hb, k⟩ := h
    refine ⟨_, pss_cons (ps_if (PW.pt (pw_or (pt_not (pt_val (pe_callB call_isinstC rfl TB.isin boot_isin (pa_cons (pv 0) (pa_cons (pe_glob (v := .ref C) rfl T.mgC rfl) pa_nil)))))
        (pw_or (pt_not (pt_val (pe_call GW hr rfl FW.m FW.F.kp FW.b .nil pass0 (pa_cons (pe_fld (pv 0) rfl) pa_nil)))) (pw_or1 (pt_not (pt_val (pe_call GW hr rfl FW.m FW.F.kp FW.b .nil pass0 (pa_cons (pe_fld (pv 0) rfl) pa_nil)))))))) (pss_one (ps_ret pe_non)) pss_nil)
      (pss_cons (ps_if (pt_cmpR op_lt (pe_fld (pv 0) rfl) pe_int (nomark _)) (pss_one (ps_ret pe_non)) pss_nil)
      (pss_one (ps_ret (pe_tup (pa_cons (pe_fld (pv 0) rfl) (pa_cons (pe_fld (pv 0) rfl) pa_nil)))))), ?_⟩
    refine ⟨_, rfl, _, _, _, _, rfl, .ins hp T.cl T.ha T.hn T.htk T.hm, T.kt, _, rfl, ?_⟩
    refine iteF ?_
    refine ⟨_, rfl, p, C, dp, _, _, rfl, hp, T.cl, T.nT, flds_top _ _, t, rfl, _, rfl, ?_⟩
    refine iteF ?_
    refine ⟨_, rfl, p, C, dp, _, _, rfl, hp, T.cl, T.nB, flds_bot _ _, b, rfl, _, rfl, ?_⟩
    refine iteF ?_
    refine ⟨_, rfl, p, C, dp, _, _, rfl, hp, T.cl, T.nB, flds_bot _ _, _, _, rfl, rfl, _, rfl, ?_⟩
    rw [decide_eq_false (by omega)]
    refine iteF ?_
    refine ⟨_, rfl, p, C, dp, _, _, rfl, hp, T.cl, T.nT, flds_top _ _, _, rfl, p, C, dp, _, _, rfl, hp, T.cl, T.nB, flds_bot _ _, by show 2 ≤ sizeLine; decide, fun x hx => ?_⟩
    exact k _ x (same_upd (Same.refl H) hx) hx upd_same
end
end K1
namespace K1
open PySem L2 Sq
def spIt5 (C : Addr) : Sp := fun vs H Q _ => ∃ (t l l' : Addr) (sq s0 : Nat) (tx bx ty by_ zx ux zy uy : Int), vs = [.ref t, .int (sq : Int), .ref l] ∧ H t = some (.tup [.str (Str.ofString "there"), .ref l']) ∧ P3 C H l' sq zx ux zy uy ∧ 0 < ux ∧ 0 < uy ∧ Pl5 H l s0 tx bx ty by_ ∧ 0 < bx ∧ bx < 1000000000000 ∧ 0 < by_ ∧ by_ < 1000000000000 ∧ 0 ≤ tx ∧ tx ≤ bx ∧ 0 ≤ ty ∧ ty ≤ by_ ∧ zx * bx = tx * ux ∧ zy * by_ = ty * uy ∧
  ∀ H' : Hp, Same H H' → Q (.bl true) H'
theorem kit_tup5 (K : PySem.W.Frag) : PySem.W.kitOne K (.type "tuple") (.type "tuple") = some true := by kernel_rfl
section
variable {P : Program} {w : World} {K : PySem.W.Frag} {mg : Str → Option Value} {base : Heap}
abbrev n_it5 : List Str := ["_law_found", "_law_square", "_law_place_here", "_law_told", "_law_one", "_law_other"]
theorem sc_it5 : FnScope n_it5 ["_law_found", "_law_square", "_law_place_here"] (defScope sLIsThere) := ⟨rfl, rfl, rfl, by decide +kernel, rfl, by decide +kernel, by decide +kernel⟩
set_option maxHeartbeats 600000 in
theorem ok_it5 {f fw fp : Addr} {fd dw dp : FuncData} {C : Addr} (T : Bi mg) (F : Fn K mg "_law_is_there" sLIsThere ["_law_found", "_law_square", "_law_place_here"] f fd) (FW : Fn K mg "_law_whole" sWhole ["_law_found"] fw dw) (GW : FnOk P w K mg base CX0 1 fw dw ["_law_found"] spWhole)
    (FP : Fn K mg "_law_pair" sLPair ["_law_found"] fp dp) (GP : FnOk P w K mg base CX0 2 fp dp ["_law_found"] (spPair C)) : FnOk P w K mg base CX0 3 f fd ["_law_found", "_law_square", "_law_place_here"] (spIt5 C) := by
  refine F.F.ok sc_it5 (fun vs H Q E h => ?_) (fun cdv A outer s H vs Q E hr h => ?_)
  · obtain ⟨t, l, l', sq, s0, tx, bx, ty, by_, zx, ux, zy, uy, rfl, _⟩ := h; rfl
  · obtain ⟨t, l, l', sq, s0, tx, bx, ty, by_, zx, ux, zy, uy, rfl, ht, ⟨qx, qy, g1, g2, g3⟩, ux0, uy0, ⟨px, py, h1, h2, h3⟩, bx0, bx1, by0, by1, tx0, tx1, ty0, ty1, e1, e2, k⟩ := h
    have hr1 : Room 1 _ := hr.mono (by decide)
    have hr2 : Room 2 _ := hr.mono (by decide)
    refine ⟨_, (pss_cons (ps_if (PW.pt (pw_or (pt_not (pt_val (pe_callB call_isinst rfl T.isin boot_isin (pa_cons (pv 0) (pa_cons (pe_bltn (v := .ty "tuple") rfl T.tuple boot_tuple rfl) pa_nil))))) (pw_or (pt_cmpR op_ne (pe_callB call_len_seq rfl T.len PySem.boot_len (pa_cons (pv 0) pa_nil)) pe_int (nomark _)) (pw_or1 (pt_cmpR op_ne (pe_ix ix_tup (pv 0) pe_int (fun _ _ => rfl)) pe_str (nomark _)))))) (pss_one (ps_ret pe_bl)) pss_nil)
      (pss_cons (ps_set (i := 3) sc_it5.nd rfl (Or.inl rfl) (pe_ix ix_tup (pv 0) pe_int (fun _ _ => rfl)))
      (pss_cons (ps_if (PW.pt (pw_or (pt_not (pt_val (pe_callB call_isinst rfl T.isin boot_isin (pa_cons (pv 3) (pa_cons (pe_bltn (v := .ty "tuple") rfl T.tuple boot_tuple rfl) pa_nil))))) (pw_or (pt_cmpR op_ne (pe_callB call_len_seq rfl T.len PySem.boot_len (pa_cons (pv 3) pa_nil)) pe_int (nomark _)) (pw_or (pt_not (pt_val (pe_call GW hr1 rfl FW.m FW.F.kp FW.b .nil pass0 (pa_cons (pe_ix ix_tup (pv 3) pe_int (fun _ _ => rfl)) pa_nil)))) (pw_or1 (pt_cmpR op_ne (pe_ix ix_tup (pv 3) pe_int (fun _ _ => rfl)) (pv 1) (nomark _))))))) (pss_one (ps_ret pe_bl)) pss_nil)
      (pss_cons (ps_set (i := 4) sc_it5.nd rfl (Or.inl rfl) (pe_call GP hr2 rfl FP.m FP.F.kp FP.b .nil pass0 (pa_cons (pe_ix ix_tup (pv 3) pe_int (fun _ _ => rfl)) pa_nil)))
      (pss_cons (ps_set (i := 5) sc_it5.nd rfl (Or.inl rfl) (pe_call GP hr2 rfl FP.m FP.F.kp FP.b .nil pass0 (pa_cons (pe_ix ix_tup (pv 3) pe_int (fun _ _ => rfl)) pa_nil)))
      (pss_cons (ps_if (PW.pt (pw_or (pt_cmpR op_isN (pv 4) pe_non (nomark _)) (pw_or1 (pt_cmpR op_isN (pv 5) pe_non (nomark _))))) (pss_one (ps_ret pe_bl)) pss_nil)
      (pss_one (ps_ret (pe_and (pe_cmpR op_eq (pe_op op_mul (pe_ix ix_tup (pv 4) pe_int (fun _ _ => rfl)) (pe_ix ix_tup (pe_ix ix_tup (pv 2) pe_int (fun _ _ => rfl)) pe_int (fun _ _ => rfl))) (pe_op op_mul (pe_ix ix_tup (pe_ix ix_tup (pv 2) pe_int (fun _ _ => rfl)) pe_int (fun _ _ => rfl)) (pe_ix ix_tup (pv 4) pe_int (fun _ _ => rfl))) (nomark _)) (pe_one (pe_cmpR op_eq (pe_op op_mul (pe_ix ix_tup (pv 5) pe_int (fun _ _ => rfl)) (pe_ix ix_tup (pe_ix ix_tup (pv 2) pe_int (fun _ _ => rfl)) pe_int (fun _ _ => rfl))) (pe_op op_mul (pe_ix ix_tup (pe_ix ix_tup (pv 2) pe_int (fun _ _ => rfl)) pe_int (fun _ _ => rfl)) (pe_ix ix_tup (pv 5) pe_int (fun _ _ => rfl))) (nomark _)))))))))))), ?_⟩
    refine ⟨_, rfl, _, _, _, _, rfl, .tup ht, kit_tup5 K, _, rfl, iteF ?_⟩
    refine ⟨_, rfl, t, _, rfl, .inr (SqT.of ht), rfl, _, rfl, iteF ?_⟩
    refine ⟨_, rfl, t, _, 0, _, rfl, rfl, SqT.of ht, atI_nat (j := 0) rfl, rfl, _, rfl, ?_⟩
    rw [decide_eq_true rfl]
    refine iteF ?_
    refine ⟨_, rfl, t, _, 1, _, rfl, rfl, SqT.of ht, atI_nat (j := 1) rfl, ?_⟩
    refine ⟨_, rfl, _, _, _, _, rfl, .tup g1, kit_tup5 K, _, rfl, iteF ?_⟩
    refine ⟨_, rfl, l', _, rfl, .inr (SqT.of g1), rfl, _, rfl, iteF ?_⟩
    refine ⟨_, rfl, l', _, 0, _, rfl, rfl, SqT.of g1, atI_nat (j := 0) rfl, _, rfl, _, rfl, iteF ?_⟩
    refine ⟨_, rfl, l', _, 0, _, rfl, rfl, SqT.of g1, atI_nat (j := 0) rfl, _, rfl, rfl, _, rfl, ?_⟩
    rw [decide_eq_true rfl]
    refine iteF ?_
    refine ⟨_, rfl, l', _, 1, _, rfl, rfl, SqT.of g1, atI_nat (j := 1) rfl, qx, zx, ux, rfl, g2, ux0, fun H1 a1 s1 _ ha1 => ?_⟩
    refine ⟨_, rfl, l', _, 2, _, rfl, rfl, SqT.of (s1 _ _ g1), atI_nat (j := 2) rfl, qy, zy, uy, rfl, g3.same s1, uy0, fun H2 a2 s2 _ ha2 => ?_⟩
    refine ⟨_, rfl, rfl, _, rfl, ?_⟩
    rw [decide_eq_false (fun z => by cases z)]
    refine iteF ?_
    refine ⟨_, rfl, rfl, _, rfl, ?_⟩
    rw [decide_eq_false (fun z => by cases z)]
    refine iteF ?_
    have ha1' := s2 _ _ ha1
    have s12 := s1.trans s2
    have q1 := s12 _ _ h1
    have q2 := s12 _ _ h2
    have q3 := s12 _ _ h3
    refine ⟨_, rfl, a1, _, 0, _, rfl, rfl, SqT.of ha1', atI_nat (j := 0) rfl, _, rfl, l, _, 1, _, rfl, rfl, SqT.of q1, atI_nat (j := 1) rfl, px, _, 1, _, rfl, rfl, SqT.of q2, atI_nat (j := 1) rfl, _, _, rfl, rfl, .inr ⟨by omega, by omega⟩, ?_⟩
    refine ⟨_, rfl, l, _, 1, _, rfl, rfl, SqT.of q1, atI_nat (j := 1) rfl, px, _, 0, _, rfl, rfl, SqT.of q2, atI_nat (j := 0) rfl, _, rfl, a1, _, 1, _, rfl, rfl, SqT.of ha1', atI_nat (j := 1) rfl, _, _, rfl, rfl, .inl ⟨by omega, by omega⟩, rfl, true, congrArg V.bl (decide_eq_true (congrArg V.int e1)), ?_⟩
    refine iteT ?_
    refine ⟨_, rfl, a2, _, 0, _, rfl, rfl, SqT.of ha2, atI_nat (j := 0) rfl, _, rfl, l, _, 2, _, rfl, rfl, SqT.of q1, atI_nat (j := 2) rfl, py, _, 1, _, rfl, rfl, SqT.of q3, atI_nat (j := 1) rfl, _, _, rfl, rfl, .inr ⟨by omega, by omega⟩, ?_⟩
    refine ⟨_, rfl, l, _, 2, _, rfl, rfl, SqT.of q1, atI_nat (j := 2) rfl, py, _, 0, _, rfl, rfl, SqT.of q3, atI_nat (j := 0) rfl, _, rfl, a2, _, 1, _, rfl, rfl, SqT.of ha2, atI_nat (j := 1) rfl, _, _, rfl, rfl, .inl ⟨by omega, by omega⟩, rfl, ?_⟩
    exact (congrArg (fun b => Q (.bl b) H2) (decide_eq_true (congrArg V.int e2))).mpr (k H2 s12)
end
end K1
namespace K1
open PySem L2 Sq
def spIs6 (C : Addr) : Sp := fun vs H Q _ => ∃ (t pt : Addr) (sq : Int) (v : V) (top bot z u : Int), vs = [.ref t, .int sq, .int top, .int bot] ∧ H t = some (.tup [.str (Str.ofString "corner"), v, .ref pt]) ∧ v = .int sq ∧ PtAt C H pt z u ∧ 0 < u ∧ Bt 4000 z ∧ Bt 4000 u ∧ Bt 4000 top ∧ Bt 4000 bot ∧ z * bot = top * u ∧ ∀ H' : Hp, Same H H' → Q (.bl true) H'
theorem kit_tup8 (K : PySem.W.Frag) : PySem.W.kitOne K (.type "tuple") (.type "tuple") = some true := by kernel_rfl
section
variable {P : Program} {w : World} {K : PySem.W.Frag} {mg : Str → Option Value} {base : Heap}
abbrev n_is6 : List Str := ["_law_found", "_law_square", "_law_top", "_law_bottom", "_law_spent"]
theorem sc_is6 : FnScope n_is6 ["_law_found", "_law_square", "_law_top", "_law_bottom"] (defScope sLIsCorner) := ⟨rfl, rfl, rfl, by decide +kernel, rfl, by decide +kernel, by decide +kernel⟩
set_option maxHeartbeats 600000 in
theorem ok_is6 {f fw fp : Addr} {fd dw dp : FuncData} {C : Addr} (T : Bi mg) (F : Fn K mg "_law_is_corner" sLIsCorner ["_law_found", "_law_square", "_law_top", "_law_bottom"] f fd) (FW : Fn K mg "_law_whole" sWhole ["_law_found"] fw dw) (GW : FnOk P w K mg base CX0 1 fw dw ["_law_found"] spWhole)
    (FP : Fn K mg "_law_pair" sLPair ["_law_found"] fp dp) (GP : FnOk P w K mg base CX0 2 fp dp ["_law_found"] (spPair C)) : FnOk P w K mg base CX0 3 f fd ["_law_found", "_law_square", "_law_top", "_law_bottom"] (spIs6 C) := by
  refine F.F.ok sc_is6 (fun vs H Q E h => ?_) (fun cdv A outer s H vs Q E hr h => ?_)
  · obtain ⟨t, pt, sq, v, top, bot, z, u, rfl, _⟩ := h; rfl
  · obtain ⟨t, pt, sq, v, top, bot, z, u, rfl, ht, rfl, hp, u0, bz, bu, bt, bb, e, k⟩ := h
    have hr1 : Room 1 _ := hr.mono (by decide)
    have hr2 : Room 2 _ := hr.mono (by decide)
    refine ⟨_, (pss_cons (ps_if (PW.pt (pw_or (pt_not (pt_val (pe_callB call_isinst rfl T.isin boot_isin (pa_cons (pv 0) (pa_cons (pe_bltn (v := .ty "tuple") rfl T.tuple boot_tuple rfl) pa_nil))))) (pw_or (pt_cmpR op_ne (pe_callB call_len_seq rfl T.len PySem.boot_len (pa_cons (pv 0) pa_nil)) pe_int (nomark _)) (pw_or1 (pt_cmpR op_ne (pe_ix ix_tup (pv 0) pe_int (fun _ _ => rfl)) pe_str (nomark _)))))) (pss_one (ps_ret pe_bl)) pss_nil)
      (pss_cons (ps_set (i := 4) sc_is6.nd rfl (Or.inl rfl) (pe_call GP hr2 rfl FP.m FP.F.kp FP.b .nil pass0 (pa_cons (pe_ix ix_tup (pv 0) pe_int (fun _ _ => rfl)) pa_nil)))
      (pss_cons (ps_if (PW.pt (pw_or (pt_cmpR op_isN (pv 4) pe_non (nomark _)) (pw_or (pt_not (pt_val (pe_call GW hr1 rfl FW.m FW.F.kp FW.b .nil pass0 (pa_cons (pe_ix ix_tup (pv 0) pe_int (fun _ _ => rfl)) pa_nil)))) (pw_or1 (pt_cmpR op_ne (pe_ix ix_tup (pv 0) pe_int (fun _ _ => rfl)) (pv 1) (nomark _)))))) (pss_one (ps_ret pe_bl)) pss_nil)
      (pss_one (ps_ret (pe_cmpR op_eq (pe_op op_mulB (pe_ix ix_tup (pv 4) pe_int (fun _ _ => rfl)) (pv 3)) (pe_op op_mulB (pv 2) (pe_ix ix_tup (pv 4) pe_int (fun _ _ => rfl))) (nomark _))))))), ?_⟩
    refine ⟨_, rfl, _, _, _, _, rfl, .tup ht, kit_tup8 K, _, rfl, iteF ?_⟩
    refine ⟨_, rfl, t, _, rfl, .inr (SqT.of ht), rfl, _, rfl, iteF ?_⟩
    refine ⟨_, rfl, t, _, 0, _, rfl, rfl, SqT.of ht, atI_nat (j := 0) rfl, rfl, _, rfl, ?_⟩
    rw [decide_eq_true rfl]
    refine iteF ?_
    refine ⟨_, rfl, t, _, 2, _, rfl, rfl, SqT.of ht, atI_nat (j := 2) rfl, pt, z, u, rfl, hp, u0, fun H1 a1 s1 _ ha1 => ?_⟩
    have ht1 := s1 _ _ ht
    refine ⟨_, rfl, rfl, _, rfl, ?_⟩
    rw [decide_eq_false (fun z => by cases z)]
    refine iteF ?_
    refine ⟨_, rfl, t, _, 1, _, rfl, rfl, SqT.of ht1, atI_nat (j := 1) rfl, _, rfl, _, rfl, iteF ?_⟩
    refine ⟨_, rfl, t, _, 1, _, rfl, rfl, SqT.of ht1, atI_nat (j := 1) rfl, _, rfl, rfl, _, rfl, ?_⟩
    rw [decide_eq_true rfl]
    refine iteF ?_
    refine ⟨_, rfl, a1, _, 0, _, rfl, rfl, SqT.of ha1, atI_nat (j := 0) rfl, _, rfl, _, _, rfl, rfl, ⟨bz, bb⟩, ?_⟩
    refine ⟨_, rfl, _, rfl, a1, _, 1, _, rfl, rfl, SqT.of ha1, atI_nat (j := 1) rfl, _, _, rfl, rfl, ⟨bt, bu⟩, rfl, ?_⟩
    exact (congrArg (fun b => Q (.bl b) H1) (decide_eq_true (congrArg V.int e))).mpr (k H1 s1)
end
end K1
namespace K1
open PySem L2 Sq
def spRow (K : PySem.W.Frag) : Sp := fun vs H Q _ => ∃ (a : Addr) (ns : List Int) (j : Int) (n : Nat), vs = [.ref a, .int j, .int (n : Int)] ∧ SqL K H a (ns.map V.int) ∧ 0 ≤ j ∧ j < 900000 ∧ n ≤ 36 ∧
  ∀ (H' : Hp) (p : Addr) (r : List Nat), Same H H' → H p = none → H' p = some (.lst (nv r)) → Row n r → Q (.ref p) H'
section
variable {P : Program} {w : World} {K : PySem.W.Frag} {mg : Str → Option Value} {base : Heap}
abbrev nRow : List Str := ["_law_script", "_law_at", "_law_many", "_law_left", "_law_row_here", "_law_k"]
theorem scRow : FnScope nRow ["_law_script", "_law_at", "_law_many"] (defScope sLRow) := ⟨rfl, rfl, rfl, by decide +kernel, rfl, by decide +kernel, by decide +kernel⟩
theorem ok_row {f fc : Addr} {fd fdc : FuncData} (T : Bi mg) (F : Fn K mg "_law_row" sLRow ["_law_script", "_law_at", "_law_many"] f fd) (FC : Fn K mg "_law_cell" sCell ["_law_script", "_law_k"] fc fdc) (GC : FnOk P w K mg base CX0 1 fc fdc ["_law_script", "_law_k"] (spCellA K)) :
    FnOk P w K mg base CX0 2 f fd ["_law_script", "_law_at", "_law_many"] (spRow K) := by
  refine F.F.ok scRow (fun vs H Q E h => ?_) (fun cdv A outer s H vs Q E hr h => ?_)
  · obtain ⟨a, ns, j, n, rfl, _⟩ := h; rfl
  · obtain ⟨a, ns, j, n, rfl, hS, h0, hj, hn, k⟩ := h
    refine ⟨_, pss_cons (ps_set (i := 3) scRow.nd rfl (Or.inl rfl) (pe_callTy (call_list_rng rfl) rfl T.list boot_list (pa_cons (pe_callTy call_range1 rfl T.range PyProof.Rows.boot_range (pa_cons (pv 2) pa_nil)) pa_nil)))
      (pss_cons (ps_set (i := 4) scRow.nd rfl (Or.inl rfl) (pe_lst pa_nil))
      (pss_cons (ps_for PassesOwn.never rfl (pi_range1 rfl T.range (pa_cons (pv 2) pa_nil)) (pg_name (i := 5) scRow.nd rfl (Or.inl rfl))
        (pss_one (ps_expr (pe_bm PySem.F.plainAttrs_list PySem.F.slot_list_append PySem.F.type_list_append mt_append (pv 4) (pa_cons
          (pe_bm PySem.F.plainAttrs_list PySem.F.slot_list_pop PySem.F.type_list_pop mt_popAt (pv 3) (pa_cons (pe_op op_mod (pe_call GC hr rfl FC.m FC.F.kp FC.b .nil pass0 (pa_cons (pv 0) (pa_cons (pe_op op_add (pv 1) (pv 5)) pa_nil))) (pe_callB call_len_seq (by rfl) T.len PySem.boot_len (pa_cons (pv 3) pa_nil))) pa_nil)) pa_nil)))))
      (pss_one (ps_ret (pv 4))))), ?_⟩
    refine ⟨_, rfl, (n : Int), rfl, fun r0 hr0 => ⟨r0, n, rfl, upd_same, by omega, fun lf hlf => ?_⟩⟩
    refine ⟨Nat.zero_le _, fun ln hln => ?_⟩
    have nlfr : lf ≠ r0 := fun e => by rw [e, upd_same] at hlf; cases hlf
    have f0 : H lf = none := by rwa [upd_ne nlfr] at hlf
    have nlnl : ln ≠ lf := fun e => by rw [e, upd_same] at hln; cases hln
    have g0 : (upd H r0 (.rng 0 (n : Int))) ln = none := by rwa [upd_ne nlnl] at hln
    have nlnr : ln ≠ r0 := fun e => by rw [e, upd_same] at g0; cases g0
    have g1 : H ln = none := by rwa [upd_ne nlnr] at g0
    refine ⟨_, rfl, (n : Int), rfl, by omega, by omega, ?_⟩
    rw [Int.toNat_natCast]
    refine for_range (n := n) (fun i σ H3 => ∃ (o5 : Option V) (line left : List Nat), σ = [some (.ref a), some (.int j), some (.int (n : Int)), some (.ref lf), some (.ref ln), o5] ∧
      Same H H3 ∧ H3 lf = some (.lst (nv left)) ∧ H3 ln = some (.lst (nv line)) ∧ line.length = i ∧ (line ++ left).Perm (List.range n)) ?_ ?_ ?_
    · refine ⟨_, [], List.range n, rfl, same_upd (same_upd (same_upd (Same.refl H) hr0) f0) g1, by rw [upd_ne nlnl.symm, upd_same], upd_same, rfl, List.Perm.refl _⟩
    · rintro i σ H3 hi ⟨o5, line, left, rfl, s3, hlf3, hln3, hlen, hp⟩
      have hleft : left.length = n - i := by
        have := hp.length_eq
        simp only [List.length_append, List.length_range] at this
        omega
      have hpos : 0 < left.length := by omega
      refine ⟨_, rfl, .inl ⟨rfl, _, SqL.of hln3⟩, _, rfl, .inl ⟨rfl, _, SqL.of hlf3⟩, _, rfl, _, rfl, _, rfl, _, _, rfl, rfl, a, ns, _, rfl, s3.seq hS, by omega, by omega, fun v => ?_⟩
      refine ⟨_, rfl, lf, _, rfl, .inl (SqL.of hlf3), _, _, rfl, rfl, ?_, ?_⟩
      · rw [nv_len]; omega
      refine popDraw hlf3 hpos (by omega) fun kx y hy => ?_
      have e3 : (upd H3 lf (.lst (nv (left.eraseIdx kx)))) ln = some (.lst (nv line)) := by rw [upd_ne nlnl]; exact hln3
      refine ⟨ln, _, _, rfl, rfl, e3, ?_, ?_⟩
      · rw [nv_len]; exact small1000 (by omega)
      refine ⟨_, line ++ [y], left.eraseIdx kx, rfl, same_upd (same_upd s3 f0) g1, ?_, ?_, ?_, pop_perm hp hy⟩
      · rw [upd_ne nlnl.symm, upd_same]
      · rw [upd_same, nv_snoc]
      · rw [List.length_append, hlen]; rfl
    · rintro σ H3 ⟨o5, line, left, rfl, s3, hlf3, hln3, hlen, hp⟩
      have hl0 : left = [] := by
        have := hp.length_eq
        simp only [List.length_append, List.length_range] at this
        exact List.length_eq_zero_iff.mp (by omega)
      have hrow : Row n line := Row.of_perm (by rw [hl0, List.append_nil] at hp; exact hp)
      exact ⟨_, rfl, k H3 ln line s3 g1 hln3 hrow⟩
end
end K1
namespace K1
open PySem L2 Sq
def spTog (K : PySem.W.Frag) : Sp := fun vs H Q _ => ∃ (pr pu : Addr) (n : Nat) (r u : List Nat), vs = [.ref pr, .ref pu] ∧ RowAt K H pr r ∧ RowAt K H pu u ∧ Row n r ∧ Row n u ∧ 1 ≤ n ∧ n ≤ 36 ∧
  ∀ (H' : Hp) (a : Addr) (m : Nat) (r' u' : List Nat), Same H H' → ShAt H' a r' u' → Sheet m r' u' → m ≤ n → Q (.ref a) H'
section
variable {P : Program} {w : World} {K : PySem.W.Frag} {mg : Str → Option Value} {base : Heap}
abbrev nTog : List Str := ["_law_first", "_law_second", "_law_have", "_law_at", "_law_row_here", "_law_kept"]
theorem scTog : FnScope nTog ["_law_first", "_law_second"] (defScope sLTogether) := ⟨rfl, rfl, rfl, by decide +kernel, rfl, by decide +kernel, by decide +kernel⟩
theorem ndT1' : (["_law_k", "_law_kept", "_law_first"] : List Str).Nodup := by decide +kernel
theorem ndT2' : (["_law_k", "_law_kept", "_law_second"] : List Str).Nodup := by decide +kernel
abbrev teIx (K : PySem.W.Frag) : TE := tBM K "list" rIndexL (tVar 1) (tCons (tOp (rIx K) (tVar 2) (tVar 0)) tNil)
theorem compIx {K : PySem.W.Frag} {Hc : Hp} {pm px : Addr} {x S : List Nat} {n : Nat} {Q : VK} {σ : St} {pull : List Nat} (h2 : σ[5]? = some (some (.ref pm))) (hb : bst 1 pull σ = [none, some (.ref pm), some (.ref px)])
    (hx : RowAt K Hc px x) (hS : Hc pm = some (.lst (nv S))) (rx : Row n x) (hn : S.length ≤ 36) (hc : ∀ y ∈ S, y < n ∧ nx x y ∈ S)
    (k : ∀ (H' : Hp) (d : Addr), Same Hc H' → H' d = some (.lst (nv (among x S))) → Q (.ref d) H') :
    tComp (iList K (tVar 5)) 1 pull (gName 0) (teIx K) σ Hc Q := by
  refine ⟨_, h2, pm, rfl, ⟨_, SqL.of hS⟩, fun d hd => ?_⟩
  rw [hb]
  refine comp_by (Q := fun d H' => Q (.ref d) H') S.length (nv (among x S)) (by rw [nv_len, among_len]) (fun i σ H3 => ∃ o, σ = [o, some (.ref pm), some (.ref px)] ∧ Same Hc H3) ⟨_, rfl, same_upd (Same.refl _) hd⟩ ?_ ?_
  · rintro i σ H3 hi ⟨o, rfl, s3⟩ hd3
    have hS3 := SqL.of (K := K) (s3 _ _ hS)
    refine ⟨⟨_, _, hS3, nv_get (List.getElem?_eq_getElem hi)⟩, fun y H4 ⟨e, hy⟩ => ?_⟩
    subst e
    have hy := hy _ hS3
    rw [nv_get (List.getElem?_eq_getElem hi)] at hy
    cases hy
    have hm : S[i] ∈ S := List.getElem_mem hi
    refine ⟨_, rfl, .inl ⟨rfl, _, hS3⟩, _, rfl, _, rfl, rowIx (hx.same s3) rx (hc _ hm).1 ?_⟩
    refine ⟨pm, S, _, rfl, rfl, s3 _ _ hS, (hc _ hm).2, ?_⟩
    refine cpost hi (by omega) hd3 (nv_get ?_) ⟨_, rfl, same_upd s3 hd⟩
    unfold among
    rw [List.getElem?_map, List.getElem?_eq_getElem hi]
    rfl
  · rintro σ H3 ⟨o, rfl, s3⟩ hd3
    exact ⟨⟨_, SqL.of (s3 _ _ hS), by rw [nv_len]; exact Nat.le_refl _⟩, k H3 d s3 hd3⟩
theorem ok_tog {f : Addr} {fd : FuncData} (T : Bi mg) (F : Fn K mg "_law_together" sLTogether ["_law_first", "_law_second"] f fd) : FnOk P w K mg base CX0 1 f fd ["_law_first", "_law_second"] (spTog K) := by
  refine F.F.ok scTog (fun vs H Q E h => ?_) (fun cdv A outer s H vs Q E hr h => ?_)
  · obtain ⟨pr, pu, n, r, u, rfl, _⟩ := h; rfl
  · obtain ⟨pr, pu, n, r, u, rfl, hR, hU, rr, ru, h1, hn, k⟩ := h
    refine ⟨_, pss_cons (ps_set (i := 2) scTog.nd rfl (Or.inl rfl) (pe_lst (pa_cons pe_int pa_nil)))
      (pss_cons (ps_set (i := 3) scTog.nd rfl (Or.inl rfl) pe_int)
      (pss_cons (ps_while PassesOwn.never (pt_cmpR op_lt (pv 3) (pe_callB call_len_seq (by rfl) T.len PySem.boot_len (pa_cons (pv 2) pa_nil)) (nomark _))
        (pss_cons (ps_for PassesOwn.never rfl (pi_tup (pe_tup (pa_cons (pv 0) (pa_cons (pv 1) pa_nil)))) (pg_name (i := 4) scTog.nd rfl (Or.inl rfl))
          (pss_one (ps_if (pt_cmpR op_notIn_seq (pe_ix ix_seq (pv 4) (pe_ix ix_list (pv 2) (pv 3) (fun _ _ => rfl)) (fun _ _ => rfl)) (pv 2) rfl) (pss_one (ps_expr (pe_bm PySem.F.plainAttrs_list PySem.F.slot_list_append PySem.F.type_list_append mt_append (pv 2) (pa_cons (pe_ix ix_seq (pv 4) (pe_ix ix_list (pv 2) (pv 3) (fun _ _ => rfl)) (fun _ _ => rfl)) pa_nil)))) pss_nil)))
        (pss_one (ps_set (i := 3) scTog.nd rfl (Or.inl rfl) (pe_op op_add (pv 3) pe_int)))))
      (pss_cons (ps_set (i := 5) scTog.nd rfl (Or.inr rfl) (pe_callB (call_sorted rfl) rfl T.sorted boot_sorted (pa_cons (pv 2) pa_nil)))
      (pss_one (ps_ret (pe_tup (pa_cons (pe_callTy call_tuple_of rfl T.tuple boot_tuple (pa_cons
        (pe_comp (N := nTog) (names := (defScope sLTogether).names) (N' := ["_law_k", "_law_kept", "_law_first"]) (k := 1) (pull := [5, 0]) (te := teIx K) rfl
          ⟨by rfl, by decide +kernel, by decide +kernel, by rfl, by decide +kernel, by decide +kernel⟩ rfl rfl (pi_list (pv 5)) (fun _ _ _ _ _ _ => pg_name (i := 0) ndT1' rfl (Or.inl rfl)) (fun _ _ _ _ _ _ => pe_bm PySem.F.plainAttrs_list PySem.F.slot_list_index PySem.F.type_list_index mt_indexL (pv 1) (pa_cons (pe_ix ix_seq (pv 2) (pv 0) (fun _ _ => rfl)) pa_nil))) pa_nil))
        (pa_cons (pe_callTy call_tuple_of rfl T.tuple boot_tuple (pa_cons
        (pe_comp (N := nTog) (names := (defScope sLTogether).names) (N' := ["_law_k", "_law_kept", "_law_second"]) (k := 1) (pull := [5, 1]) (te := teIx K) rfl
          ⟨by rfl, by decide +kernel, by decide +kernel, by rfl, by decide +kernel, by decide +kernel⟩ rfl rfl (pi_list (pv 5)) (fun _ _ _ _ _ _ => pg_name (i := 0) ndT2' rfl (Or.inl rfl)) (fun _ _ _ _ _ _ => pe_bm PySem.F.plainAttrs_list PySem.F.slot_list_index PySem.F.type_list_index mt_indexL (pv 1) (pa_cons (pe_ix ix_seq (pv 2) (pv 0) (fun _ _ => rfl)) pa_nil))) pa_nil)) pa_nil)))))))), ?_⟩
    refine ⟨(by show 1 ≤ sizeLine; decide), fun l hl => ?_⟩
    refine while_by (fun σ H2 => ∃ (M : List Nat) (k : Nat) (o4 : Option V), σ = [some (.ref pr), some (.ref pu), some (.ref l), some (.int (k : Int)), o4, none] ∧ Same H H2 ∧ H2 l = some (.lst (nv M)) ∧ Met n r u 0 M k) (fun σ _ => mu 3 σ) ?_ ?_ ?_
    · exact ⟨[0], 0, _, rfl, same_upd (Same.refl H) hl, upd_same, Met.start h1⟩
    · rintro σ H2 ⟨M, kk, o4, rfl, s2, h2l, hM⟩
      refine ⟨_, rfl, _, rfl, l, _, rfl, .inl (SqL.of h2l), _, _, rfl, rfl, _, rfl, ?_⟩
      rw [nv_len]
      refine ite2 (fun hlt => ?_) (fun hge => ?_)
      · have hlt : (kk : Int) < (M.length : Int) := of_decide_eq_true hlt
        have hk : kk < M.length := by omega
        have hx : M[kk]? = some M[kk] := List.getElem?_eq_getElem hk
        have hxn : M[kk] < n := hM.lt _ (List.getElem_mem hk)
        have hMl := hM.len
        refine ⟨_, rfl, _, rfl, (by show 2 ≤ sizeLine; decide), fun tp htp => ⟨tp, rfl, ⟨_, SqT.of upd_same⟩, ?_⟩⟩
        have nlt : l ≠ tp := ne_of_none h2l htp
        refine for_tup (K := K) (a := tp) (xs := [.ref pr, .ref pu]) (fun i σ H3 => ∃ (o4 : Option V), σ = [some (.ref pr), some (.ref pu), some (.ref l), some (.int (kk : Int)), o4, none] ∧ Same H H3 ∧ H3 tp = some (.tup [.ref pr, .ref pu]) ∧
          H3 l = some (.lst (nv (([nx r M[kk], nx u M[kk]].take i).foldl put M)))) ?_ ?_ ?_ ?_
        · refine ⟨_, rfl, same_upd s2 (s2.free htp), upd_same, by rw [upd_ne nlt]; exact h2l⟩
        · rintro i σ H3 hi ⟨_, _, _, h3, _⟩
          exact SqT.of h3
        · rintro i x σ H3 hi ⟨o4, rfl, s3, h3, h3l⟩
          obtain ⟨b, row, rfl, hrow, rrow, ey⟩ : ∃ b row, x = V.ref b ∧ RowAt K H b row ∧ Row n row ∧ [nx r M[kk], nx u M[kk]][i]? = some (nx row M[kk]) := by
            match i, hi with
            | 0, hi => cases hi; exact ⟨pr, r, rfl, hR, rr, rfl⟩
            | 1, hi => cases hi; exact ⟨pu, u, rfl, hU, ru, rfl⟩
            | i + 2, hi => cases hi
          have hlen := foldl_put_len ([nx r M[kk], nx u M[kk]].take i) M
          have htk : ([nx r M[kk], nx u M[kk]].take i).length ≤ 2 := by rw [List.length_take]; exact Nat.min_le_right _ _
          have hfold : ([nx r M[kk], nx u M[kk]].take (i + 1)).foldl put M = put (([nx r M[kk], nx u M[kk]].take i).foldl put M) (nx row M[kk]) := by
            rw [List.take_add_one, ey, List.foldl_append]; rfl
          rw [hfold]
          have hget : (([nx r M[kk], nx u M[kk]].take i).foldl put M)[kk]? = some M[kk] := by
            have : ∀ (l M' : List Nat), M'[kk]? = some M[kk] → (l.foldl put M')[kk]? = some M[kk] := by
              intro l
              induction l with
              | nil => intro M' h; exact h
              | cons a l ih => intro M' h; exact ih _ (put_get h)
            exact this _ _ hx
          generalize hM' : ([nx r M[kk], nx u M[kk]].take i).foldl put M = M' at h3l hlen hget
          refine ⟨_, rfl, _, rfl, _, rfl, l, _, _, _, rfl, rfl, SqL.of h3l, atI_nat (nv_get hget), rowIx (hrow.same s3) rrow hxn ?_⟩
          refine ⟨_, rfl, l, _, rfl, .inl (SqL.of h3l), rfl, nv_flat _, _, rfl, ?_⟩
          show (if (!inV (.int ((nx row M[kk] : Nat) : Int)) (nv M')) = true then _ else _)
          rw [inV_nv]
          by_cases hy : nx row M[kk] ∈ M'
          · rw [decide_eq_true hy]
            refine iteF ?_
            refine ⟨_, rfl, s3, h3, ?_⟩
            unfold put; rw [if_pos hy]; exact h3l
          · rw [decide_eq_false hy]
            refine iteT ?_
            refine ⟨_, rfl, .inl ⟨rfl, _, SqL.of h3l⟩, _, rfl, _, rfl, _, rfl, l, _, _, _, rfl, rfl, SqL.of h3l, atI_nat (nv_get hget), rowIx (hrow.same s3) rrow hxn ?_⟩
            refine ⟨l, _, _, rfl, rfl, h3l, ?_, ?_⟩
            · rw [nv_len]; exact small1000 (by omega)
            refine ⟨_, rfl, same_upd s3 hl, by rw [upd_ne nlt.symm]; exact h3, ?_⟩
            unfold put; rw [if_neg hy, upd_same, nv_snoc]
        · rintro σ H3 ⟨o4, rfl, s3, h3, h3l⟩
          refine ⟨_, rfl, _, _, rfl, rfl, ⟨_, kk + 1, _, rfl, s3, h3l, hM.step rr ru hx⟩, ?_⟩
          show (100 - ((kk : Int) + 1)).toNat < (100 - (kk : Int)).toNat
          omega
      · have hge : ¬ (kk : Int) < (M.length : Int) := fun z => hge (decide_eq_true z)
        have hA := hM.all (by omega)
        have hMl : M.length ≤ n := by
          have := sub_len M (List.range n) hA.nd fun x hx => List.mem_range.mpr (hA.lt x hx)
          simpa using this
        refine ⟨_, rfl, l, M, rfl, .inl (SqL.of h2l), by omega, fun l2 S hl2 pS sS => ?_⟩
        have hS' := hA.perm pS
        have hSl : S.length ≤ n := by rw [pS.length_eq]; exact hMl
        have s3 : Same H (upd H2 l2 (.lst (nv S))) := same_upd s2 (s2.free hl2)
        have h3S : (upd H2 l2 (.lst (nv S))) l2 = some (.lst (nv S)) := upd_same
        revert s3 h3S
        generalize (upd H2 l2 (.lst (nv S))) = H3
        intro s3 h3S
        dsimp only [tSeq, tAsg, tCB, tCons, gName, tRet, tTup]
        refine compIx rfl rfl (hR.same s3) h3S rr (by omega) (fun y hy => ⟨hS'.lt y hy, (hS'.shut y hy).1⟩) ?_
        intro H4 d4 s4 h4
        refine ⟨d4, _, rfl, .inl ⟨SqL.of h4, fun t1 ht1 => ?_⟩⟩
        have s4' : Same H3 (upd H4 t1 (.tup (nv (among r S)))) := same_upd s4 (s4.free ht1)
        have s5 : Same H (upd H4 t1 (.tup (nv (among r S)))) := s3.trans s4'
        refine compIx rfl rfl (hU.same s5) (s4' _ _ h3S) ru (by omega) (fun y hy => ⟨hS'.lt y hy, (hS'.shut y hy).2⟩) ?_
        intro H5 d5 s6 h5
        refine ⟨d5, _, rfl, .inl ⟨SqL.of h5, fun t2 ht2 => ?_⟩⟩
        have s7 : Same (upd H4 t1 (.tup (nv (among r S)))) (upd H5 t2 (.tup (nv (among u S)))) := same_upd s6 (s6.free ht2)
        refine ⟨by show 2 ≤ sizeLine; decide, fun a ha => k _ a S.length _ _ ?_ ⟨t1, t2, upd_same, ?_, ?_⟩ (among_sheet hn rr ru hS' sS) hSl⟩
        · exact same_upd (s5.trans s7) ((s5.trans s7).free ha)
        · have e1 := s7 t1 _ upd_same
          rw [upd_ne (ne_of_none e1 ha)]; exact e1
        · have e2 : (upd H5 t2 (.tup (nv (among u S)))) t2 = some (.tup (nv (among u S))) := upd_same
          rw [upd_ne (ne_of_none e2 ha)]; exact e2
    · rintro σ H Q Q' h ⟨v, e1, v', e2, p, ys, e3, sq, i, j, e4, e5, k, e6, q⟩
      exact ⟨v, e1, v', e2, p, ys, e3, sq, i, j, e4, e5, k, e6, h _ _ q⟩
end
end K1
namespace Sq
theorem nx_mk {n i : Nat} {g : Nat → Nat} (hi : i < n) : nx ((List.range n).map g) i = g i := by simp [nx, List.getD, hi]
def toA (L : Nat) (k : Nat) : Nat := if k % L = L - 1 then k + 1 - L else k + 1
def toU (L n s : Nat) (k : Nat) : Nat := if k + L < n then k + L else (k + s) % L
def across (L h : Nat) : List Nat := (List.range (L * h)).map (toA L)
def above (L h s : Nat) : List Nat := (List.range (L * h)).map (toU L (L * h) s)
theorem across_row {L h : Nat} (h1 : 1 ≤ L) (h6 : L ≤ 6) : Row (L * h) (across L h) := by
  refine row_of (by simp [across]) (fun i hi => ?_) (fun i j hi hj e => ?_)
  · unfold across
    rw [nx_mk hi]; unfold toA
    have : L = 1 ∨ L = 2 ∨ L = 3 ∨ L = 4 ∨ L = 5 ∨ L = 6 := by omega
    rcases this with rfl | rfl | rfl | rfl | rfl | rfl <;> split <;> omega
  · unfold across at e
    rw [nx_mk hi, nx_mk hj] at e; unfold toA at e
    have : L = 1 ∨ L = 2 ∨ L = 3 ∨ L = 4 ∨ L = 5 ∨ L = 6 := by omega
    rcases this with rfl | rfl | rfl | rfl | rfl | rfl <;> split at e <;> split at e <;> omega
theorem above_row {L h s : Nat} (h1 : 1 ≤ L) (h6 : L ≤ 6) (hh : 1 ≤ h) : Row (L * h) (above L h s) := by
  refine row_of (by simp [above]) (fun i hi => ?_) (fun i j hi hj e => ?_)
  · unfold above
    rw [nx_mk hi]; unfold toU
    have : L = 1 ∨ L = 2 ∨ L = 3 ∨ L = 4 ∨ L = 5 ∨ L = 6 := by omega
    rcases this with rfl | rfl | rfl | rfl | rfl | rfl <;> split <;> omega
  · unfold above at e
    rw [nx_mk hi, nx_mk hj] at e; unfold toU at e
    have : L = 1 ∨ L = 2 ∨ L = 3 ∨ L = 4 ∨ L = 5 ∨ L = 6 := by omega
    rcases this with rfl | rfl | rfl | rfl | rfl | rfl <;> split at e <;> split at e <;> omega
theorem nx_set {l : List Nat} {i v k : Nat} (hi : i < l.length) : nx (l.set i v) k = if k = i then v else nx l k := by
  simp only [nx, List.getD, List.getElem?_set]
  by_cases e : i = k
  · subst e; simp [hi]
  · have e' : ¬ k = i := fun z => e z.symm
    simp [e, e']
def swp (i j k : Nat) : Nat := if k = j then i else if k = i then j else k
theorem swp_lt {n i j k : Nat} (hi : i < n) (hj : j < n) (hk : k < n) : swp i j k < n := by unfold swp; split <;> (try split) <;> omega
theorem swp_inj {i j a b : Nat} (h : swp i j a = swp i j b) : a = b := by
  unfold swp at h
  by_cases a1 : a = j
  · rw [if_pos a1] at h
    by_cases b1 : b = j
    · omega
    · rw [if_neg b1] at h
      by_cases b2 : b = i
      · rw [if_pos b2] at h; omega
      · rw [if_neg b2] at h; omega
  · rw [if_neg a1] at h
    by_cases a2 : a = i
    · rw [if_pos a2] at h
      by_cases b1 : b = j
      · rw [if_pos b1] at h; omega
      · rw [if_neg b1] at h
        by_cases b2 : b = i
        · omega
        · rw [if_neg b2] at h; omega
    · rw [if_neg a2] at h
      by_cases b1 : b = j
      · rw [if_pos b1] at h; omega
      · rw [if_neg b1] at h
        by_cases b2 : b = i
        · rw [if_pos b2] at h; omega
        · rw [if_neg b2] at h; omega
theorem swap_row {n : Nat} {l : List Nat} {i j : Nat} (h : Row n l) (hi : i < n) (hj : j < n) : Row n ((l.set i (nx l j)).set j (nx l i)) := by
  have hl := h.len
  have e : ∀ k, nx ((l.set i (nx l j)).set j (nx l i)) k = nx l (swp i j k) := fun k => by
    rw [nx_set (by rw [List.length_set]; omega), nx_set (by omega)]
    unfold swp
    split
    · rfl
    · split <;> rfl
  refine row_of (by simp [hl]) (fun k hk => ?_) (fun a b ha hb hab => ?_)
  · rw [e]; exact h.nlt (swp_lt hi hj hk)
  · rw [e, e] at hab
    exact swp_inj (h.inj (swp_lt hi hj ha) (swp_lt hi hj hb) hab)
end Sq
namespace K1
open PySem L2 Sq
def spTorus : Sp := fun vs H Q _ => ∃ (L h s : Nat), vs = [.int (L : Int), .int (h : Int), .int (s : Int)] ∧ 1 ≤ L ∧ L ≤ 6 ∧ 1 ≤ h ∧ L * h ≤ 36 ∧
  ∀ (H' : Hp) (t p q : Addr), Same H H' → H' t = some (.tup [.ref p, .ref q]) → H p = none → H q = none → p ≠ q → H' p = some (.lst (nv (across L h))) → H' q = some (.lst (nv (above L h s))) → Q (.ref t) H'
def spExch (K : PySem.W.Frag) : Sp := fun vs H Q _ => ∃ (p a : Addr) (ns : List Int) (j : Int) (t n : Nat) (r : List Nat), vs = [.ref p, .ref a, .int j, .int (t : Int)] ∧ H p = some (.lst (nv r)) ∧ (∀ H2 : Hp, (∀ b o, b ≠ p → H b = some o → H2 b = some o) → SqL K H2 a (ns.map V.int)) ∧ 0 ≤ j ∧ j < 1000 ∧ t ≤ 4 ∧ Row n r ∧ 1 ≤ n ∧ n ≤ 36 ∧
  ∀ (H' : Hp) (r' : List Nat), (∀ b o, b ≠ p → H b = some o → H' b = some o) → H' p = some (.lst (nv r')) → Row n r' → Q (.ref p) H'
section
variable {P : Program} {w : World} {K : PySem.W.Frag} {mg : Str → Option Value} {base : Heap}
abbrev nTo : List Str := ["_law_long", "_law_high", "_law_shift", "_law_across", "_law_above", "_law_k"]
theorem scTo : FnScope nTo ["_law_long", "_law_high", "_law_shift"] (defScope sLTorus) := ⟨rfl, rfl, rfl, by decide +kernel, rfl, by decide +kernel, by decide +kernel⟩
theorem toA_int {L k : Nat} (h1 : 1 ≤ L) : (k : Int) + 1 - (L : Int) * (if decide (V.int ((k : Int) % (L : Int)) = V.int ((L : Int) - 1)) = true then 1 else 0) = ((toA L k : Nat) : Int) := by
  have e : (k : Int) % (L : Int) = ((k % L : Nat) : Int) := by simp
  have hlt : k % L < L := Nat.mod_lt _ h1
  have hle : k % L ≤ k := Nat.mod_le _ _
  unfold toA
  by_cases c : k % L = L - 1
  · rw [if_pos c, decide_eq_true (by rw [e, c]; congr 1; omega), if_pos rfl]; omega
  · rw [if_neg c, decide_eq_false (by rw [e]; intro z; have := V.int.inj z; omega), if_neg Bool.false_ne_true]; omega
theorem ok_torus {f : Addr} {fd : FuncData} (T : Bi mg) (F : Fn K mg "_law_torus" sLTorus ["_law_long", "_law_high", "_law_shift"] f fd) : FnOk P w K mg base CX0 1 f fd ["_law_long", "_law_high", "_law_shift"] spTorus := by
  refine F.F.ok scTo (fun vs H Q E h => ?_) (fun cdv A outer s H vs Q E hr h => ?_)
  · obtain ⟨L, h, s, rfl, _⟩ := h; rfl
  · obtain ⟨L, h, sh, rfl, h1, h6, hh, hn, k⟩ := h
    refine ⟨_, pss_cons (ps_set (i := 3) scTo.nd rfl (Or.inl rfl) (pe_lst pa_nil))
      (pss_cons (ps_set (i := 4) scTo.nd rfl (Or.inl rfl) (pe_lst pa_nil))
      (pss_cons (ps_for PassesOwn.never rfl (pi_range1 rfl T.range (pa_cons (pe_op op_mul (pv 0) (pv 1)) pa_nil)) (pg_name (i := 5) scTo.nd rfl (Or.inl rfl))
        (pss_cons (ps_expr (pe_bm PySem.F.plainAttrs_list PySem.F.slot_list_append PySem.F.type_list_append mt_append (pv 3) (pa_cons (pe_op op_sub (pe_op op_add (pv 5) pe_int) (pe_op op_mul (pv 0) (pe_callTy call_int1 rfl T.int boot_int (pa_cons (pe_cmpR op_eq (pe_op op_mod (pv 5) (pv 0)) (pe_op op_sub (pv 0) pe_int) (nomark _)) pa_nil)))) pa_nil)))
        (pss_one (ps_if (pt_cmpR op_lt (pe_op op_add (pv 5) (pv 0)) (pe_op op_mul (pv 0) (pv 1)) (nomark _))
          (pss_one (ps_expr (pe_bm PySem.F.plainAttrs_list PySem.F.slot_list_append PySem.F.type_list_append mt_append (pv 4) (pa_cons (pe_op op_add (pv 5) (pv 0)) pa_nil))))
          (pss_one (ps_expr (pe_bm PySem.F.plainAttrs_list PySem.F.slot_list_append PySem.F.type_list_append mt_append (pv 4) (pa_cons (pe_op op_mod (pe_op op_add (pv 5) (pv 2)) (pv 0)) pa_nil))))))))
      (pss_one (ps_ret (pe_tup (pa_cons (pv 3) (pa_cons (pv 4) pa_nil))))))), ?_⟩
    refine ⟨Nat.zero_le _, fun p hp => ⟨Nat.zero_le _, fun q hq => ?_⟩⟩
    have npq : p ≠ q := fun e => by rw [← e, upd_same] at hq; cases hq
    have hq0 : H q = none := by rwa [upd_ne npq.symm] at hq
    have hmul : ((L : Int) * (h : Int)) = ((L * h : Nat) : Int) := by simp
    refine ⟨_, rfl, _, rfl, _, _, rfl, rfl, .inl ⟨by omega, by omega⟩, (L : Int) * (h : Int), rfl, by rw [hmul]; omega, by rw [hmul]; omega, ?_⟩
    rw [hmul, Int.toNat_natCast]
    refine for_range (n := L * h) (fun i σ H2 => ∃ o5, σ = [some (.int (L : Int)), some (.int (h : Int)), some (.int (sh : Int)), some (.ref p), some (.ref q), o5] ∧ Same H H2 ∧ H2 p = some (.lst (nv ((List.range i).map (toA L)))) ∧ H2 q = some (.lst (nv ((List.range i).map (toU L (L * h) sh))))) ⟨_, rfl, same_upd (same_upd (Same.refl H) hp) hq0, by rw [upd_ne npq, upd_same]; rfl, upd_same⟩ ?_ ?_
    · rintro i σ H2 hi ⟨o5, rfl, s2, h2p, h2q⟩
      rw [show (0 : Int) + (i : Int) = (i : Int) from by omega]
      have hl : ∀ g : Nat → Nat, (nv ((List.range i).map g)).length = i := fun g => by rw [nv_len]; simp
      refine ⟨_, rfl, .inl ⟨rfl, _, SqL.of h2p⟩, _, rfl, _, _, rfl, rfl, _, rfl, _, rfl, _, rfl, _, _, rfl, rfl, by omega, _, rfl, _, _, rfl, rfl, rfl, .inr ⟨_, rfl, ?_⟩⟩
      refine ⟨_, _, rfl, rfl, .inl ⟨by omega, by omega⟩, _, _, rfl, rfl, p, _, _, rfl, rfl, h2p, by rw [hl]; exact small1000 (by omega), ?_⟩
      dsimp only
      rw [toA_int h1, nv_snoc]
      have e1 : (List.range i).map (toA L) ++ [toA L i] = (List.range (i + 1)).map (toA L) := by rw [List.range_succ, List.map_append]; rfl
      rw [e1]
      generalize hH3 : upd H2 p (.lst (nv ((List.range (i + 1)).map (toA L)))) = H3
      have s3 : Same H H3 := by rw [← hH3]; exact same_upd s2 hp
      have h3p : H3 p = some (.lst (nv ((List.range (i + 1)).map (toA L)))) := by rw [← hH3]; exact upd_same
      have h3q : H3 q = some (.lst (nv ((List.range i).map (toU L (L * h) sh)))) := by rw [← hH3, upd_ne npq.symm]; exact h2q
      refine ⟨_, rfl, _, rfl, _, _, rfl, rfl, _, rfl, _, rfl, _, _, rfl, rfl, .inl ⟨by omega, by omega⟩, _, _, rfl, rfl, _, rfl, ?_⟩
      have e2 : (List.range i).map (toU L (L * h) sh) ++ [toU L (L * h) sh i] = (List.range (i + 1)).map (toU L (L * h) sh) := by rw [List.range_succ, List.map_append]; rfl
      refine ite2 (fun hlt => ?_) (fun hge => ?_)
      · have hlt : (i : Int) + (L : Int) < (L : Int) * (h : Int) := of_decide_eq_true hlt
        rw [hmul] at hlt
        have e3 : (i : Int) + (L : Int) = ((toU L (L * h) sh i : Nat) : Int) := by unfold toU; rw [if_pos (by omega)]; omega
        refine ⟨_, rfl, .inl ⟨rfl, _, SqL.of h3q⟩, _, rfl, _, rfl, _, _, rfl, rfl, q, _, _, rfl, rfl, h3q, by rw [hl]; exact small1000 (by omega), ?_⟩
        dsimp only
        rw [e3, nv_snoc, e2]
        exact ⟨_, rfl, same_upd s3 hq0, by rw [upd_ne npq]; exact h3p, upd_same⟩
      · have hge : ¬ (i : Int) + (L : Int) < (L : Int) * (h : Int) := fun z => hge (decide_eq_true z)
        rw [hmul] at hge
        have e3 : ((i : Int) + (sh : Int)) % (L : Int) = ((toU L (L * h) sh i : Nat) : Int) := by unfold toU; rw [if_neg (by omega)]; simp
        refine ⟨_, rfl, .inl ⟨rfl, _, SqL.of h3q⟩, _, rfl, _, rfl, _, _, rfl, rfl, _, rfl, _, _, rfl, rfl, by omega, q, _, _, rfl, rfl, h3q, by rw [hl]; exact small1000 (by omega), ?_⟩
        dsimp only
        rw [e3, nv_snoc, e2]
        exact ⟨_, rfl, same_upd s3 hq0, by rw [upd_ne npq]; exact h3p, upd_same⟩
    · rintro σ H2 ⟨o5, rfl, s2, h2p, h2q⟩
      refine ⟨_, rfl, _, rfl, by show 2 ≤ sizeLine; decide, fun t ht => ?_⟩
      exact k _ t p q (same_upd s2 (s2.free ht)) upd_same hp hq0 npq (by rw [upd_ne (ne_of_none h2p ht)]; exact h2p) (by rw [upd_ne (ne_of_none h2q ht)]; exact h2q)
abbrev nEx : List Str := ["_law_row_here", "_law_script", "_law_at", "_law_times", "_law_k", "_law_i", "_law_j", "_law_kept"]
theorem scEx : FnScope nEx ["_law_row_here", "_law_script", "_law_at", "_law_times"] (defScope sLExchanged) := ⟨rfl, rfl, rfl, by decide +kernel, rfl, by decide +kernel, by decide +kernel⟩
theorem ixN_at {n i : Nat} (h : i < n) : ixN n (i : Int) = some i := by
  unfold ixN
  rw [if_pos (by omega), if_pos (by omega)]
  simp
theorem ok_exch {f fc : Addr} {fd fdc : FuncData} (T : Bi mg) (F : Fn K mg "_law_exchanged" sLExchanged ["_law_row_here", "_law_script", "_law_at", "_law_times"] f fd)
    (FC : Fn K mg "_law_cell" sCell ["_law_script", "_law_k"] fc fdc) (GC : FnOk P w K mg base CX0 1 fc fdc ["_law_script", "_law_k"] (spCellA K)) : FnOk P w K mg base CX0 2 f fd ["_law_row_here", "_law_script", "_law_at", "_law_times"] (spExch K) := by
  refine F.F.ok scEx (fun vs H Q E h => ?_) (fun cdv A outer s H vs Q E hr h => ?_)
  · obtain ⟨p, a, ns, j, t, n, r, rfl, _⟩ := h; rfl
  · obtain ⟨p, a, ns, j, t, n, r, rfl, hp, hS, j0, j1, ht, rr, n1, hn, k⟩ := h
    refine ⟨_, pss_cons (ps_for PassesOwn.never rfl (pi_range1 rfl T.range (pa_cons (pv 3) pa_nil)) (pg_name (i := 4) scEx.nd rfl (Or.inl rfl))
        (pss_cons (ps_set (i := 5) scEx.nd rfl (Or.inl rfl) (pe_op op_mod (pe_call GC hr rfl FC.m FC.F.kp FC.b .nil pass0 (pa_cons (pv 1) (pa_cons (pe_op op_add (pv 2) (pe_op op_mul pe_int (pv 4))) pa_nil))) (pe_callB call_len_seq rfl T.len PySem.boot_len (pa_cons (pv 0) pa_nil))))
        (pss_cons (ps_set (i := 6) scEx.nd rfl (Or.inl rfl) (pe_op op_mod (pe_call GC hr rfl FC.m FC.F.kp FC.b .nil pass0 (pa_cons (pv 1) (pa_cons (pe_op op_add (pe_op op_add (pv 2) (pe_op op_mul pe_int (pv 4))) pe_int) pa_nil))) (pe_callB call_len_seq rfl T.len PySem.boot_len (pa_cons (pv 0) pa_nil))))
        (pss_cons (ps_set (i := 7) scEx.nd rfl (Or.inl rfl) (pe_ix ix_list (pv 0) (pv 5) (fun _ _ => rfl)))
        (pss_cons (ps_lput (pv 0) (pv 5) (pe_ix ix_list (pv 0) (pv 6) (fun _ _ => rfl)) rfl)
        (pss_one (ps_lput (pv 0) (pv 6) (pv 7) rfl)))))))
      (pss_one (ps_ret (pv 0))), ?_⟩
    refine ⟨_, rfl, (t : Int), rfl, by omega, by omega, ?_⟩
    rw [Int.toNat_natCast]
    refine for_range (n := t) (fun i σ H2 => ∃ o4 o5 o6 o7 r', σ = [some (.ref p), some (.ref a), some (.int j), some (.int (t : Int)), o4, o5, o6, o7] ∧ (∀ b o, b ≠ p → H b = some o → H2 b = some o) ∧ H2 p = some (.lst (nv r')) ∧ Row n r') ⟨_, _, _, _, r, rfl, fun _ _ _ h => h, hp, rr⟩ ?_ ?_
    · rintro i σ H2 hi ⟨o4, o5, o6, o7, r', rfl, b2, h2p, rr'⟩
      rw [show (0 : Int) + (i : Int) = (i : Int) from by omega]
      have hS2 := hS H2 b2
      have hlen : ((nv r').length : Int) = (n : Int) := by rw [nv_len, rr'.len]
      refine ⟨_, rfl, _, rfl, _, rfl, _, _, rfl, rfl, .inl ⟨by decide, by decide⟩, _, _, rfl, rfl, a, ns, _, rfl, hS2, by omega, by omega, fun z1 => ?_⟩
      refine ⟨_, rfl, p, _, rfl, .inl (SqL.of h2p), _, _, rfl, rfl, by omega, ?_⟩
      refine ⟨_, rfl, _, rfl, _, rfl, _, _, rfl, rfl, .inl ⟨by decide, by decide⟩, _, _, rfl, rfl, _, _, rfl, rfl, a, ns, _, rfl, hS2, by omega, by omega, fun z2 => ?_⟩
      refine ⟨_, rfl, p, _, rfl, .inl (SqL.of h2p), _, _, rfl, rfl, by omega, ?_⟩
      obtain ⟨x, hx⟩ := Int.eq_ofNat_of_zero_le (Int.emod_nonneg z1 (show ((nv r').length : Int) ≠ 0 by omega))
      obtain ⟨y, hy⟩ := Int.eq_ofNat_of_zero_le (Int.emod_nonneg z2 (show ((nv r').length : Int) ≠ 0 by omega))
      have x1 : x < n := by have := Int.emod_lt_of_pos z1 (show (0 : Int) < ((nv r').length : Int) by omega); omega
      have y1 : y < n := by have := Int.emod_lt_of_pos z2 (show (0 : Int) < ((nv r').length : Int) by omega); omega
      dsimp only
      rw [hx, hy]
      refine ⟨_, rfl, _, rfl, p, _, _, _, rfl, rfl, SqL.of h2p, atI_nat (nv_get (rr'.get x1)), ?_⟩
      refine ⟨_, rfl, _, rfl, p, _, _, _, rfl, rfl, SqL.of h2p, atI_nat (nv_get (rr'.get y1)), ?_⟩
      refine ⟨_, rfl, _, rfl, p, _, _, x, rfl, rfl, h2p, ixN_at (by rw [nv_len, rr'.len]; exact x1), ?_⟩
      rw [nv_set]
      refine ⟨_, rfl, _, rfl, _, rfl, p, _, _, y, rfl, rfl, upd_same, ixN_at (by rw [nv_len, List.length_set, rr'.len]; exact y1), ?_⟩
      rw [nv_set]
      refine ⟨_, _, _, _, _, rfl, fun b o hb ho => ?_, upd_same, swap_row rr' x1 y1⟩
      rw [upd_ne hb, upd_ne hb]; exact b2 b o hb ho
    · rintro σ H2 ⟨o4, o5, o6, o7, r', rfl, b2, h2p, rr'⟩
      exact ⟨_, rfl, k H2 r' b2 h2p rr'⟩
end
end K1
namespace K1
open PySem L2 Sq
def spFree (K : PySem.W.Frag) : Sp := fun vs H Q _ => ∃ (a : Addr) (ns : List Int), vs = [.ref a] ∧ SqL K H a (ns.map V.int) ∧ ∀ b : Bool, Q (.bl b) H
section
variable {P : Program} {w : World} {K : PySem.W.Frag} {mg : Str → Option Value} {base : Heap}
abbrev n_fre : List Str := ["_law_script"]
theorem sc_fre : FnScope n_fre ["_law_script"] (defScope sLFree) := ⟨rfl, rfl, rfl, by decide +kernel, rfl, by decide +kernel, by decide +kernel⟩
theorem ok_fre {f : Addr} {fd : FuncData} (T : Bi mg) (F : Fn K mg "_law_free" sLFree ["_law_script"] f fd) : FnOk P w K mg base CX0 1 f fd ["_law_script"] (spFree K) := by
  refine F.F.ok sc_fre (fun vs H Q E h => ?_) (fun cdv A outer s H vs Q E hr h => ?_)
  · obtain ⟨a, ns, rfl, _⟩ := h; rfl
  · obtain ⟨a, ns, rfl, hS, k⟩ := h
    refine ⟨_, (pss_one (ps_ret (pe_or (pe_cmpR op_eq (pe_callB call_len_seq rfl T.len PySem.boot_len (pa_cons (pv 0) pa_nil)) pe_int (nomark _)) (pe_one (pe_cmpR op_eq (pe_op op_mod (pe_ix ix_list (pv 0) pe_int (fun _ _ => rfl)) pe_int) pe_int (nomark _)))))), ?_⟩
    refine ⟨_, rfl, a, _, rfl, .inl hS, rfl, _, rfl, ?_⟩
    refine ite2 (fun _ => k true) (fun hne => ?_)
    rw [List.length_map] at hne
    have hpos : 0 < ns.length := by
      rcases Nat.eq_zero_or_pos ns.length with e | e
      · exact absurd (decide_eq_true (by rw [e]; rfl)) hne
      · exact e
    have ix : atI (ns.map V.int) 0 = some (.int (ns.getD 0 0)) := atI_nat (j := 0) (by simp [List.getD_eq_getElem?_getD, hpos])
    exact ⟨_, rfl, a, _, 0, _, rfl, rfl, hS, ix, _, _, rfl, rfl, (by show (0 : Int) < 2; decide), rfl, k _⟩
end
end K1
namespace K1
open PySem L2 Sq
section
variable {P : Program} {w : World} {K : PySem.W.Frag} {mg : Str → Option Value} {base : Heap}
abbrev n_raw : List Str := ["_law_script", "_law_k"]
theorem sc_raw : FnScope n_raw ["_law_script", "_law_k"] (defScope sLRaw) := ⟨rfl, rfl, rfl, by decide +kernel, rfl, by decide +kernel, by decide +kernel⟩
theorem ok_raw {f : Addr} {fd : FuncData} (T : Bi mg) (F : Fn K mg "_law_raw" sLRaw ["_law_script", "_law_k"] f fd) : FnOk P w K mg base CX0 1 f fd ["_law_script", "_law_k"] (spCellA K) := by
  refine F.F.ok sc_raw (fun vs H Q E h => ?_) (fun cdv A outer s H vs Q E hr h => ?_)
  · obtain ⟨a, ns, j, rfl, _⟩ := h; rfl
  · obtain ⟨a, ns, j, rfl, hS, h0, h1, k⟩ := h
    refine ⟨_, (pss_cons (ps_if (pt_cmpR op_lt (pv 1) (pe_callB call_len_seq rfl T.len PySem.boot_len (pa_cons (pv 0) pa_nil)) (nomark _)) (pss_one (ps_ret (pe_op op_mod (pe_ix ix_list (pv 0) (pv 1) (fun _ _ => rfl)) (pe_op op_pow pe_int pe_int)))) pss_nil)
      (pss_one (ps_ret pe_int))), ?_⟩
    refine ⟨_, rfl, _, rfl, a, _, rfl, .inl hS, _, _, rfl, rfl, _, rfl, ?_⟩
    refine ite2 (fun hlt => ?_) (fun hge => k 0)
    have hlt : j < ((ns.map V.int).length : Int) := of_decide_eq_true hlt
    rw [List.length_map] at hlt
    have e : atI (ns.map V.int) (j.toNat : Int) = some (.int (ns.getD j.toNat 0)) := atI_nat (by simp [List.getD_eq_getElem?_getD, show j.toNat < ns.length by omega])
    rw [Int.toNat_of_nonneg h0] at e
    exact ⟨_, rfl, _, rfl, a, _, j, _, rfl, rfl, hS, e, 10, 60, rfl, rfl, ⟨by decide, by decide, by decide⟩, _, _, rfl, rfl, (by show (0 : Int) < 10 ^ Int.toNat 60; decide), k _⟩
end
end K1
namespace K1
open PySem L2 Sq
def spDig : Sp := fun vs H Q _ => ∃ (z : Int) (n : Nat), vs = [.int z, .int (n : Int)] ∧ n ≤ 36 ∧
  ∀ (H' : Hp) (p : Addr) (r : List Nat), Same H H' → H p = none → H' p = some (.lst (nv r)) → Row n r → Q (.ref p) H'
section
variable {P : Program} {w : World} {K : PySem.W.Frag} {mg : Str → Option Value} {base : Heap}
abbrev n_dig : List Str := ["_law_cell_here", "_law_many", "_law_left", "_law_row_here", "_law_k"]
theorem sc_dig : FnScope n_dig ["_law_cell_here", "_law_many"] (defScope sLDigits) := ⟨rfl, rfl, rfl, by decide +kernel, rfl, by decide +kernel, by decide +kernel⟩
theorem ok_dig {f : Addr} {fd : FuncData} (T : Bi mg) (F : Fn K mg "_law_digits" sLDigits ["_law_cell_here", "_law_many"] f fd) : FnOk P w K mg base CX0 1 f fd ["_law_cell_here", "_law_many"] spDig := by
  refine F.F.ok sc_dig (fun vs H Q E h => ?_) (fun cdv A outer s H vs Q E hr h => ?_)
  · obtain ⟨z, n, rfl, _⟩ := h; rfl
  · obtain ⟨z, n, rfl, hn, k⟩ := h
    refine ⟨_, (pss_cons (ps_set (i := 2) sc_dig.nd rfl (Or.inl rfl) (pe_callTy (call_list_rng rfl) rfl T.list boot_list (pa_cons (pe_callTy call_range1 rfl T.range PyProof.Rows.boot_range (pa_cons (pv 1) pa_nil)) pa_nil)))
      (pss_cons (ps_set (i := 3) sc_dig.nd rfl (Or.inl rfl) (pe_lst pa_nil))
      (pss_cons (ps_for PassesOwn.never rfl (pi_range1 rfl T.range (pa_cons (pv 1) pa_nil)) (pg_name (i := 4) sc_dig.nd rfl (Or.inl rfl)) (pss_cons (ps_expr (pe_bm PySem.F.plainAttrs_list PySem.F.slot_list_append PySem.F.type_list_append mt_append (pv 3) (pa_cons (pe_bm PySem.F.plainAttrs_list PySem.F.slot_list_pop PySem.F.type_list_pop mt_popAt (pv 2) (pa_cons (pe_op op_mod (pv 0) (pe_callB call_len_seq rfl T.len PySem.boot_len (pa_cons (pv 2) pa_nil))) pa_nil)) pa_nil)))
      (pss_one (ps_set (i := 0) sc_dig.nd rfl (Or.inl rfl) (pe_op op_fdiv (pv 0) (pe_op op_add (pe_callB call_len_seq rfl T.len PySem.boot_len (pa_cons (pv 2) pa_nil)) pe_int))))))
      (pss_one (ps_ret (pv 3)))))), ?_⟩
    refine ⟨_, rfl, (n : Int), rfl, fun r0 hr0 => ⟨r0, n, rfl, upd_same, by omega, fun lf hlf => ?_⟩⟩
    refine ⟨Nat.zero_le _, fun ln hln => ?_⟩
    have nlfr : lf ≠ r0 := fun e => by rw [e, upd_same] at hlf; cases hlf
    have f0 : H lf = none := by rwa [upd_ne nlfr] at hlf
    have nlnl : ln ≠ lf := fun e => by rw [e, upd_same] at hln; cases hln
    have g0 : (upd H r0 (.rng 0 (n : Int))) ln = none := by rwa [upd_ne nlnl] at hln
    have nlnr : ln ≠ r0 := fun e => by rw [e, upd_same] at g0; cases g0
    have g1 : H ln = none := by rwa [upd_ne nlnr] at g0
    refine ⟨_, rfl, (n : Int), rfl, by omega, by omega, ?_⟩
    rw [Int.toNat_natCast]
    refine for_range (n := n) (fun i σ H3 => ∃ (z : Int) (o5 : Option V) (line left : List Nat), σ = [some (.int z), some (.int (n : Int)), some (.ref lf), some (.ref ln), o5] ∧
      Same H H3 ∧ H3 lf = some (.lst (nv left)) ∧ H3 ln = some (.lst (nv line)) ∧ line.length = i ∧ (line ++ left).Perm (List.range n)) ?_ ?_ ?_
    · refine ⟨_, _, [], List.range n, rfl, same_upd (same_upd (same_upd (Same.refl H) hr0) f0) g1, by rw [upd_ne nlnl.symm, upd_same], upd_same, rfl, List.Perm.refl _⟩
    · rintro i σ H3 hi ⟨z, o5, line, left, rfl, s3, hlf3, hln3, hlen, hp⟩
      have hleft : left.length = n - i := by
        have := hp.length_eq
        simp only [List.length_append, List.length_range] at this
        omega
      have hpos : 0 < left.length := by omega
      refine ⟨_, rfl, .inl ⟨rfl, _, SqL.of hln3⟩, _, rfl, .inl ⟨rfl, _, SqL.of hlf3⟩, _, rfl, _, rfl, lf, _, rfl, .inl (SqL.of hlf3), _, _, rfl, rfl, ?_, ?_⟩
      · rw [nv_len]; omega
      refine popDraw hlf3 hpos (by omega) fun kx y hy => ?_
      have e3 : (upd H3 lf (.lst (nv (left.eraseIdx kx)))) ln = some (.lst (nv line)) := by rw [upd_ne nlnl]; exact hln3
      refine ⟨ln, _, _, rfl, rfl, e3, ?_, ?_⟩
      · rw [nv_len]; exact small1000 (by omega)
      have hel : (left.eraseIdx kx).length ≤ left.length := by rw [List.length_eraseIdx]; split <;> omega
      have e4 : (upd (upd H3 lf (.lst (nv (left.eraseIdx kx)))) ln (.lst (nv line ++ [.int (y : Int)]))) lf = some (.lst (nv (left.eraseIdx kx))) := by rw [upd_ne nlnl.symm, upd_same]
      refine ⟨_, rfl, _, rfl, lf, _, rfl, .inl (SqL.of e4), _, _, rfl, rfl, _, _, rfl, rfl, ⟨?_, ?_⟩, ?_⟩
      · rw [nv_len]; omega
      · rw [nv_len]; omega
      refine ⟨_, _, line ++ [y], left.eraseIdx kx, rfl, same_upd (same_upd s3 f0) g1, e4, ?_, ?_, pop_perm hp hy⟩
      · rw [upd_same, nv_snoc]
      · rw [List.length_append, hlen]; rfl
    · rintro σ H3 ⟨z, o5, line, left, rfl, s3, hlf3, hln3, hlen, hp⟩
      have hl0 : left = [] := by
        have := hp.length_eq
        simp only [List.length_append, List.length_range] at this
        exact List.length_eq_zero_iff.mp (by omega)
      have hrow : Row n line := Row.of_perm (by rw [hl0, List.append_nil] at hp; exact hp)
      exact ⟨_, rfl, k H3 ln line s3 g1 hln3 hrow⟩
end
end K1
namespace K1
open PySem L2 Sq
def spSheetM (K : PySem.W.Frag) : Sp := fun vs H Q _ => ∃ (a : Addr) (ns : List Int) (mo : Nat), vs = [.ref a, .int (mo : Int)] ∧ SqL K H a (ns.map V.int) ∧ 6 ≤ mo ∧ mo ≤ 36 ∧
  ∀ (H' : Hp) (b : Addr) (m : Nat) (r u : List Nat), Same H H' → ShAt H' b r u → Sheet m r u → m ≤ mo → Q (.ref b) H'
section
variable {P : Program} {w : World} {K : PySem.W.Frag} {mg : Str → Option Value} {base : Heap}
abbrev n_sh5 : List Str := ["_law_script", "_law_most", "_law_many", "_law_cell_here", "_law_long", "_law_high", "_law_across", "_law_above"]
theorem sc_sh5 : FnScope n_sh5 ["_law_script", "_law_most"] (defScope sSheet) := ⟨rfl, rfl, rfl, by decide +kernel, rfl, by decide +kernel, by decide +kernel⟩
set_option maxHeartbeats 2000000 in
theorem ok_sh5 {f ff fr fg ft fc fw fn fe : Addr} {fd df dr dg dt dc dw dn de : FuncData} (F : Fn K mg "_law_sheet" sSheet ["_law_script", "_law_most"] f fd) (FF : Fn K mg "_law_free" sLFree ["_law_script"] ff df) (GF : FnOk P w K mg base CX0 1 ff df ["_law_script"] (spFree K))
    (FR : Fn K mg "_law_raw" sLRaw ["_law_script", "_law_k"] fr dr) (GR : FnOk P w K mg base CX0 1 fr dr ["_law_script", "_law_k"] (spCellA K))
    (FG : Fn K mg "_law_digits" sLDigits ["_law_cell_here", "_law_many"] fg dg) (GG : FnOk P w K mg base CX0 1 fg dg ["_law_cell_here", "_law_many"] spDig)
    (FT : Fn K mg "_law_together" sLTogether ["_law_first", "_law_second"] ft dt) (GT : FnOk P w K mg base CX0 1 ft dt ["_law_first", "_law_second"] (spTog K))
    (FC : Fn K mg "_law_cell" sCell ["_law_script", "_law_k"] fc dc) (GC : FnOk P w K mg base CX0 1 fc dc ["_law_script", "_law_k"] (spCellA K))
    (FW : Fn K mg "_law_row" sLRow ["_law_script", "_law_at", "_law_many"] fw dw) (GW : FnOk P w K mg base CX0 2 fw dw ["_law_script", "_law_at", "_law_many"] (spRow K))
    (FN : Fn K mg "_law_torus" sLTorus ["_law_long", "_law_high", "_law_shift"] fn dn) (GN : FnOk P w K mg base CX0 1 fn dn ["_law_long", "_law_high", "_law_shift"] spTorus)
    (FE : Fn K mg "_law_exchanged" sLExchanged ["_law_row_here", "_law_script", "_law_at", "_law_times"] fe de) (GE : FnOk P w K mg base CX0 2 fe de ["_law_row_here", "_law_script", "_law_at", "_law_times"] (spExch K)) : FnOk P w K mg base CX0 3 f fd ["_law_script", "_law_most"] (spSheetM K) := by
  refine F.F.ok sc_sh5 (fun vs H Q E h => ?_) (fun cdv A outer s H vs Q E hr h => ?_)
  · obtain ⟨a, ns, mo, rfl, _⟩ := h; rfl
  · obtain ⟨a, ns, mo, rfl, hS, m6, m36, k⟩ := h
    have hr1 : Room 1 _ := hr.mono (by decide)
    have hr2 : Room 2 _ := hr.mono (by decide)
    refine ⟨_, (pss_cons (ps_if (pt_val (pe_call GF hr1 rfl FF.m FF.F.kp FF.b .nil pass0 (pa_cons (pv 0) pa_nil))) (pss_cons (ps_set (i := 2) sc_sh5.nd rfl (Or.inl rfl) (pe_op op_add pe_int (pe_op op_mod (pe_op op_fdiv (pe_call GR hr1 rfl FR.m FR.F.kp FR.b .nil pass0 (pa_cons (pv 0) (pa_cons pe_int pa_nil))) pe_int) (pv 1))))
      (pss_one (ps_ret (pe_call GT hr1 rfl FT.m FT.F.kp FT.b .nil pass0 (pa_cons (pe_call GG hr1 rfl FG.m FG.F.kp FG.b .nil pass0 (pa_cons (pe_call GR hr1 rfl FR.m FR.F.kp FR.b .nil pass0 (pa_cons (pv 0) (pa_cons pe_int pa_nil))) (pa_cons (pv 2) pa_nil))) (pa_cons (pe_call GG hr1 rfl FG.m FG.F.kp FG.b .nil pass0 (pa_cons (pe_call GR hr1 rfl FR.m FR.F.kp FR.b .nil pass0 (pa_cons (pv 0) (pa_cons pe_int pa_nil))) (pa_cons (pv 2) pa_nil))) pa_nil)))))) pss_nil)
      (pss_cons (ps_set (i := 3) sc_sh5.nd rfl (Or.inl rfl) (pe_op op_fdiv (pe_call GC hr1 rfl FC.m FC.F.kp FC.b .nil pass0 (pa_cons (pv 0) (pa_cons pe_int pa_nil))) pe_int))
      (pss_cons (ps_if (pt_cmpR op_eq (pe_op op_mod (pv 3) pe_int) pe_int (nomark _)) (pss_cons (ps_set (i := 2) sc_sh5.nd rfl (Or.inl rfl) (pe_op op_add pe_int (pe_op op_mod (pe_op op_fdiv (pv 3) pe_int) (pv 1))))
      (pss_one (ps_ret (pe_call GT hr1 rfl FT.m FT.F.kp FT.b .nil pass0 (pa_cons (pe_call GW hr2 rfl FW.m FW.F.kp FW.b .nil pass0 (pa_cons (pv 0) (pa_cons pe_int (pa_cons (pv 2) pa_nil)))) (pa_cons (pe_call GW hr2 rfl FW.m FW.F.kp FW.b .nil pass0 (pa_cons (pv 0) (pa_cons (pe_op op_add pe_int (pv 2)) (pa_cons (pv 2) pa_nil)))) pa_nil)))))) pss_nil)
      (pss_cons (ps_set (i := 4) sc_sh5.nd rfl (Or.inl rfl) (pe_op op_add pe_int (pe_op op_mod (pe_op op_fdiv (pv 3) pe_int) pe_int)))
      (pss_cons (ps_set (i := 5) sc_sh5.nd rfl (Or.inl rfl) (pe_op op_add pe_int (pe_op op_mod (pe_op op_fdiv (pv 3) pe_int) (pe_op op_fdiv (pv 1) (pv 4)))))
      (pss_cons (ps_asg (pe_call GN hr1 rfl FN.m FN.F.kp FN.b .nil pass0 (pa_cons (pv 4) (pa_cons (pv 5) (pa_cons (pe_op op_mod (pe_call GC hr1 rfl FC.m FC.F.kp FC.b .nil pass0 (pa_cons (pv 0) (pa_cons pe_int pa_nil))) (pv 4)) pa_nil)))) (pg_tup rfl (pgs_cons (pg_name (i := 6) sc_sh5.nd rfl (Or.inl rfl)) (pgs_cons (pg_name (i := 7) sc_sh5.nd rfl (Or.inl rfl)) pgs_nil))))
      (pss_one (ps_ret (pe_call GT hr1 rfl FT.m FT.F.kp FT.b .nil pass0 (pa_cons (pv 6) (pa_cons (pe_call GE hr2 rfl FE.m FE.F.kp FE.b .nil pass0 (pa_cons (pv 7) (pa_cons (pv 0) (pa_cons pe_int (pa_cons (pe_op op_mod (pe_op op_fdiv (pv 3) pe_int) pe_int) pa_nil))))) pa_nil))))))))))), ?_⟩
    refine ⟨_, rfl, a, ns, rfl, hS, fun fr => ⟨_, rfl, ?_⟩⟩
    refine ite2 (fun _ => ?_) (fun _ => ?_)
    · refine ⟨_, rfl, a, ns, 0, rfl, hS, by decide, by decide, fun z => ?_⟩
      refine ⟨_, _, rfl, rfl, ⟨by decide, by decide⟩, _, rfl, _, _, rfl, rfl, by omega, _, _, rfl, rfl, ?_⟩
      obtain ⟨n, hn⟩ : ∃ n : Nat, 1 + z / 2 % (mo : Int) = (n : Int) := ⟨(1 + z / 2 % (mo : Int)).toNat, by have := Int.emod_nonneg (z / 2) (show (mo : Int) ≠ 0 by omega); omega⟩
      have hlt := Int.emod_lt_of_pos (z / 2) (show (0 : Int) < (mo : Int) by omega)
      have hge := Int.emod_nonneg (z / 2) (show (mo : Int) ≠ 0 by omega)
      dsimp only
      rw [hn]
      refine ⟨_, rfl, a, ns, 1, rfl, hS, by decide, by decide, fun z1 => ⟨_, rfl, z1, n, rfl, by omega, fun H1 p r s1 _ hp rr => ?_⟩⟩
      refine ⟨_, rfl, a, ns, 2, rfl, s1.seq hS, by decide, by decide, fun z2 => ⟨_, rfl, z2, n, rfl, by omega, fun H2 q u s2 _ hq ru => ?_⟩⟩
      exact ⟨p, q, n, r, u, rfl, .inl (SqL.of (s2 _ _ hp)), .inl (SqL.of hq), rr, ru, by omega, by omega, fun H3 b m r' u' s3 hb hSh hm => k H3 b m r' u' (s1.trans (s2.trans s3)) hb hSh (by omega)⟩
    · refine ⟨_, rfl, a, ns, 0, rfl, hS, by decide, by decide, fun z => ?_⟩
      refine ⟨_, _, rfl, rfl, ⟨by decide, by decide⟩, ?_⟩
      dsimp only
      generalize z / 2 = z
      refine ⟨_, rfl, _, _, rfl, rfl, (by show (0 : Int) < 2; decide), rfl, _, rfl, ?_⟩
      refine ite2 (fun _ => ?_) (fun _ => ?_)
      · refine ⟨_, rfl, _, _, rfl, rfl, ⟨by decide, by decide⟩, _, rfl, _, _, rfl, rfl, by omega, _, _, rfl, rfl, ?_⟩
        obtain ⟨n, hn⟩ : ∃ n : Nat, 1 + z / 2 % (mo : Int) = (n : Int) := ⟨(1 + z / 2 % (mo : Int)).toNat, by have := Int.emod_nonneg (z / 2) (show (mo : Int) ≠ 0 by omega); omega⟩
        have hlt := Int.emod_lt_of_pos (z / 2) (show (0 : Int) < (mo : Int) by omega)
        have hge := Int.emod_nonneg (z / 2) (show (mo : Int) ≠ 0 by omega)
        dsimp only
        rw [hn]
        refine ⟨_, rfl, _, rfl, a, ns, 1, n, rfl, hS, by decide, by decide, by omega, fun H1 p r s1 _ hp rr => ?_⟩
        refine ⟨_, rfl, _, rfl, _, _, rfl, rfl, _, rfl, a, ns, _, n, rfl, s1.seq hS, by omega, by omega, by omega, fun H2 q u s2 _ hq ru => ?_⟩
        exact ⟨p, q, n, r, u, rfl, .inl (SqL.of (s2 _ _ hp)), .inl (SqL.of hq), rr, ru, by omega, by omega, fun H3 b m r' u' s3 hb hSh hm => k H3 b m r' u' (s1.trans (s2.trans s3)) hb hSh (by omega)⟩
      · refine ⟨_, rfl, _, _, rfl, rfl, ⟨by decide, by decide⟩, _, _, rfl, rfl, (by show (0 : Int) < 6; decide), _, _, rfl, rfl, ?_⟩
        obtain ⟨L, hL⟩ : ∃ L : Nat, 1 + z / 2 % 6 = (L : Int) := ⟨(1 + z / 2 % 6).toNat, by omega⟩
        have L1 : 1 ≤ L := by omega
        have L6 : L ≤ 6 := by omega
        dsimp only
        rw [hL]
        have eq : (mo : Int) / (L : Int) = ((mo / L : Nat) : Int) := by simp
        have hq1 : 1 ≤ mo / L := Nat.div_pos (by omega) (by omega)
        refine ⟨_, rfl, _, _, rfl, rfl, ⟨by decide, by decide⟩, _, rfl, _, rfl, _, _, rfl, rfl, ⟨by omega, by omega⟩, _, _, rfl, rfl, by rw [eq]; omega, _, _, rfl, rfl, ?_⟩
        dsimp only
        rw [eq]
        obtain ⟨h, hh⟩ : ∃ h : Nat, 1 + z / 12 % ((mo / L : Nat) : Int) = (h : Int) := ⟨(1 + z / 12 % ((mo / L : Nat) : Int)).toNat, by have := Int.emod_nonneg (z / 12) (show ((mo / L : Nat) : Int) ≠ 0 by omega); omega⟩
        have hlt := Int.emod_lt_of_pos (z / 12) (show (0 : Int) < ((mo / L : Nat) : Int) by omega)
        have hge := Int.emod_nonneg (z / 12) (show ((mo / L : Nat) : Int) ≠ 0 by omega)
        rw [hh]
        have h1 : 1 ≤ h := by omega
        have h2 : h ≤ mo / L := by omega
        have hLh : L * h ≤ mo := Nat.le_trans (Nat.mul_le_mul_left L h2) (Nat.mul_div_le mo L)
        refine ⟨_, rfl, _, rfl, _, rfl, a, ns, 1, rfl, hS, by decide, by decide, fun z1 => ?_⟩
        refine ⟨_, rfl, _, _, rfl, rfl, by omega, ?_⟩
        obtain ⟨sh, hsh⟩ := Int.eq_ofNat_of_zero_le (Int.emod_nonneg z1 (show (L : Int) ≠ 0 by omega))
        dsimp only
        rw [hsh]
        refine ⟨L, h, sh, rfl, L1, L6, h1, by omega, fun H1 t p q s1 ht hp0 hq0 npq hp hq => ?_⟩
        refine ⟨t, _, rfl, SqT.of ht, rfl, _, _, rfl, _, _, rfl, rfl, ?_⟩
        obtain ⟨c, hc⟩ := Int.eq_ofNat_of_zero_le (show 0 ≤ z / 72 % 4 by omega)
        have hS2 : ∀ H2 : Hp, (∀ b o, b ≠ q → H1 b = some o → H2 b = some o) → SqL K H2 a (ns.map V.int) := fun H2 b2 => by
          rcases hS with (h | ⟨o, h⟩) | h
          · exact .inl (.inl (b2 _ _ (fun e => by rw [e, hq0] at h; cases h) (s1 _ _ h)))
          · exact .inl (.inr ⟨o, b2 _ _ (fun e => by rw [e, hq0] at h; cases h) (s1 _ _ h)⟩)
          · exact .inr h
        refine ⟨_, rfl, _, rfl, _, rfl, _, rfl, _, _, rfl, rfl, ⟨by decide, by decide⟩, _, _, rfl, rfl, (by show (0 : Int) < 4; decide), q, a, ns, 2, c, L * h, _, by rw [← hc]; rfl, hq, hS2, by decide, by decide, by omega, above_row L1 L6 h1, by have := Nat.mul_le_mul L1 h1; omega, by omega, fun H2 r' b2 hr' rr' => ?_⟩
        have hp2 := b2 _ _ npq hp
        refine ⟨p, q, L * h, _, r', rfl, .inl (SqL.of hp2), .inl (SqL.of hr'), across_row L1 L6, rr', by have := Nat.mul_le_mul L1 h1; omega, by omega, fun H3 b m r2 u2 s3 hb hSh hm => ?_⟩
        refine k H3 b m r2 u2 (fun x o ho => s3 _ _ (b2 _ _ (fun e => by rw [e, hq0] at ho; cases ho) (s1 _ _ ho))) hb hSh (by omega)
end
end K1
namespace K1
open PySem L2 Sq
theorem seq_by {t rest : L2.TS} {D : Ends} {σ : St} {H : Hp} (Pv : St → Hp → Prop) (h : ∀ N : St → Hp → Prop, (∀ σ' H', Pv σ' H' → N σ' H') → t { D with nx := N } σ H) (k : ∀ σ' H', Pv σ' H' → rest D σ' H') : tSeq t rest D σ H := h _ k
def spLaw (K : PySem.W.Frag) : Sp := fun vs H Q _ => ∃ (a : Addr) (ns : List Int), vs = [.ref a] ∧ SqL K H a (ns.map V.int) ∧ ∀ H' : Hp, Q (.bl true) H'
theorem kit_tup6 (K : PySem.W.Frag) : PySem.W.kitOne K (.type "tuple") (.type "tuple") = some true := by kernel_rfl
theorem low_b6 {t b : Int} (h0 : 0 < b) (h1 : b < 1000000000000) : Bt 60 (lowB t b) := bt12 (lowB_pos (by omega)) (by have := lowB_le (t := t) (b := b) (by omega); have := lowB_pos (t := t) (b := b) (by omega); omega)
/-- the parts told are small -/
theorem low_b4 {T U S : Int} (hU : 0 < U) (bU : Bt 200 U) (S1 : S ≤ 100) (S0 : 0 ≤ S) (T0 : 0 ≤ T) (T1 : T ≤ S * U) : Bt 300 (lowT T U) ∧ Bt 300 (lowB T U) := by
  have h1 := lowT_le (t := T) (b := U) (by omega)
  have h2 := lowB_le (t := T) (b := U) (by omega)
  have h3 : S * U ≤ 100 * U := Int.mul_le_mul_of_nonneg_right S1 (by omega)
  have b1 : Bt 207 (100 * U) := Bt.mul (n := 7) (m := 200) (by show (100 : Int).natAbs < 2 ^ 7; decide) bU
  have b2 : Bt 207 T := b1.le (by omega)
  exact ⟨(b2.le h1).mono (by decide), (bU.le h2).mono (by decide)⟩
/-- a corner met behind whole steps and a part -/
theorem low_plus6 {T U k : Int} (hU : 0 < U) : lowT (T + k * U) U * lowB T U = (lowT T U + k * lowB T U) * lowB (T + k * U) U := by
  have c1 := low_cross (i := T + k * U) (B := U)
  have c2 := low_cross (i := T) (B := U)
  generalize lowT (T + k * U) U = z at *
  generalize lowB (T + k * U) U = y at *
  generalize lowT T U = a at *
  generalize lowB T U = b at *
  refine Int.eq_of_mul_eq_mul_right (show U ≠ 0 by omega) ?_
  calc z * b * U = z * U * b := by rw [Int.mul_assoc, Int.mul_comm b U, ← Int.mul_assoc]
    _ = (T + k * U) * y * b := by rw [c1]
    _ = T * b * y + k * U * y * b := by rw [Int.mul_assoc, Int.mul_comm y b, ← Int.mul_assoc, Int.add_mul, Int.add_mul, Int.mul_assoc (k * U) b y, Int.mul_comm b y, ← Int.mul_assoc]
    _ = a * U * y + k * U * y * b := by rw [c2]
    _ = (a + k * b) * y * U := by
      rw [Int.add_mul, Int.add_mul]
      congr 1
      · rw [Int.mul_assoc, Int.mul_comm U y, ← Int.mul_assoc]
      · simp only [Int.mul_assoc, Int.mul_comm, Int.mul_left_comm]
section
variable {P : Program} {w : World} {K : PySem.W.Frag} {mg : Str → Option Value} {base : Heap}
abbrev n_law : List Str := ["_law_script", "_law_sheet_here", "_law_place_here", "_law_p", "_law_q", "_law_few", "_law_more", "_law_both", "_law_most", "_law_handed_here", "_law_first", "_law_whole_here", "_law_spent", "_law_second", "_law_top", "_law_bottom"]
theorem sc_law : FnScope n_law ["_law_script"] (defScope sLaw) := ⟨rfl, rfl, rfl, by decide +kernel, rfl, by decide +kernel, by decide +kernel⟩
set_option maxHeartbeats 1000000 in
theorem ok_law {f fs fp fc fq ff fr fa fl fh fx ft fi : Addr} {fd ds dp dc dq df dr da dl dh dx dt di : FuncData} {C CP CY fw : Addr} {dw : FuncData} {uw : Value} (T : Bi mg) (T_abs : mg "abs" = none) (T_max : mg "max" = none) (T_min : mg "min" = none) (FW : FnD K mg "walk" sWalk ["sheet", "place", "p", "q", "steps"] (.int 1) fw dw uw) (GW : FnOk P w K mg base (CX1 P w) 9 fw dw ["sheet", "place", "p", "q", "steps"] (spWk5 C CP CY)) (F : Fn K mg "law" sLaw ["_law_script"] f fd) (FS : Fn K mg "_law_sheet" sSheet ["_law_script", "_law_most"] fs ds) (GS : FnOk P w K mg base CX0 3 fs ds ["_law_script", "_law_most"] (spSheetM K))
    (FP : Fn K mg "_law_place" sLPlace ["_law_script", "_law_at", "_law_many"] fp dp) (GP : FnOk P w K mg base CX0 2 fp dp ["_law_script", "_law_at", "_law_many"] (spPl5 K))
    (FC : Fn K mg "_law_cell" sCell ["_law_script", "_law_k"] fc dc) (GC : FnOk P w K mg base CX0 1 fc dc ["_law_script", "_law_k"] (spCellA K))
    (FQ : Fn K mg "_law_direction" sLDirection ["_law_cell_here"] fq dq) (GQ : FnOk P w K mg base CX0 1 fq dq ["_law_cell_here"] spDr6)
    (FF : Fn K mg "_law_free" sLFree ["_law_script"] ff df) (GF : FnOk P w K mg base CX0 1 ff df ["_law_script"] (spFree K))
    (FR : Fn K mg "_law_raw" sLRaw ["_law_script", "_law_k"] fr dr) (GR : FnOk P w K mg base CX0 1 fr dr ["_law_script", "_law_k"] (spCellA K))
    (FA : Fn K mg "_law_any_direction" sLAnyDirection ["_law_cell_here"] fa da) (GA : FnOk P w K mg base CX0 1 fa da ["_law_cell_here"] spDr6)
    (FL : Fn K mg "_law_any_place" sLAnyPlace ["_law_cell_here", "_law_many", "_law_most"] fl dl) (GL : FnOk P w K mg base CX0 2 fl dl ["_law_cell_here", "_law_many", "_law_most"] spAl6)
    (FH : Fn K mg "_law_handed" sHanded ["_law_place_here"] fh dh) (GH : FnOk P w K mg base CX0 4 fh dh ["_law_place_here"] (spHa5 C))
    (FX : Fn K mg "_law_pair" sLPair ["_law_found"] fx dx) (GX : FnOk P w K mg base CX0 2 fx dx ["_law_found"] (spPair C))
    (FT : Fn K mg "_law_is_there" sLIsThere ["_law_found", "_law_square", "_law_place_here"] ft dt) (GT : FnOk P w K mg base CX0 3 ft dt ["_law_found", "_law_square", "_law_place_here"] (spIt5 C))
    (FI : Fn K mg "_law_is_corner" sLIsCorner ["_law_found", "_law_square", "_law_top", "_law_bottom"] fi di) (GI : FnOk P w K mg base CX0 3 fi di ["_law_found", "_law_square", "_law_top", "_law_bottom"] (spIs6 C)) : FnOk P w K mg base CX0 10 f fd ["_law_script"] (spLaw K) := by
  refine F.F.ok sc_law (fun vs H Q E h => ?_) (fun cdv A outer s H vs Q E hr h => ?_)
  · obtain ⟨a, ns, rfl, _⟩ := h; rfl
  · obtain ⟨a, ns, rfl, hS, k⟩ := h
    have hr9 : Room 9 _ := hr
    have hr1 : Room 1 _ := hr.mono (by decide)
    have hr2 : Room 2 _ := hr.mono (by decide)
    have hr3 : Room 3 _ := hr.mono (by decide)
    have hr4 : Room 4 _ := hr.mono (by decide)
    refine ⟨_, (pss_cons (ps_set (i := 1) sc_law.nd rfl (Or.inl rfl) (pe_call GS hr3 rfl FS.m FS.F.kp FS.b .nil pass0 (pa_cons (pv 0) (pa_cons pe_int pa_nil))))
      (pss_cons (ps_set (i := 2) sc_law.nd rfl (Or.inl rfl) (pe_call GP hr2 rfl FP.m FP.F.kp FP.b .nil pass0 (pa_cons (pv 0) (pa_cons pe_int (pa_cons (pe_callB call_len_seq rfl T.len PySem.boot_len (pa_cons (pe_ix ix_tup (pv 1) pe_int (fun _ _ => rfl)) pa_nil)) pa_nil)))))
      (pss_cons (ps_asg (pe_call GQ hr1 rfl FQ.m FQ.F.kp FQ.b .nil pass0 (pa_cons (pe_call GC hr1 rfl FC.m FC.F.kp FC.b .nil pass0 (pa_cons (pv 0) (pa_cons pe_int pa_nil))) pa_nil)) (pg_tup rfl (pgs_cons (pg_name (i := 3) sc_law.nd rfl (Or.inl rfl)) (pgs_cons (pg_name (i := 4) sc_law.nd rfl (Or.inl rfl)) pgs_nil))))
      (pss_cons (ps_set (i := 5) sc_law.nd rfl (Or.inl rfl) (pe_op op_mod (pe_call GC hr1 rfl FC.m FC.F.kp FC.b .nil pass0 (pa_cons (pv 0) (pa_cons pe_int pa_nil))) pe_int))
      (pss_cons (ps_set (i := 6) sc_law.nd rfl (Or.inl rfl) (pe_op op_mod (pe_op op_fdiv (pe_call GC hr1 rfl FC.m FC.F.kp FC.b .nil pass0 (pa_cons (pv 0) (pa_cons pe_int pa_nil))) pe_int) pe_int))
      (pss_cons (ps_if (pt_val (pe_call GF hr1 rfl FF.m FF.F.kp FF.b .nil pass0 (pa_cons (pv 0) pa_nil))) (pss_cons (ps_asg (pe_call GA hr1 rfl FA.m FA.F.kp FA.b .nil pass0 (pa_cons (pe_call GR hr1 rfl FR.m FR.F.kp FR.b .nil pass0 (pa_cons (pv 0) (pa_cons pe_int pa_nil))) pa_nil)) (pg_tup rfl (pgs_cons (pg_name (i := 3) sc_law.nd rfl (Or.inl rfl)) (pgs_cons (pg_name (i := 4) sc_law.nd rfl (Or.inl rfl)) pgs_nil))))
      (pss_cons (ps_set (i := 7) sc_law.nd rfl (Or.inl rfl) (pe_op op_add (pe_callB call_abs rfl T_abs boot_abs (pa_cons (pv 3) pa_nil)) (pe_callB call_abs rfl T_abs boot_abs (pa_cons (pv 4) pa_nil))))
      (pss_cons (ps_set (i := 8) sc_law.nd rfl (Or.inl rfl) (pe_op op_add pe_int (pe_callB (call_min2 rfl) rfl T_min boot_min (pa_cons pe_int (pa_cons (pe_op op_fdiv pe_int (pv 7)) pa_nil)))))
      (pss_cons (ps_if (pt_cmpR op_lt (pv 7) pe_int (nomark _)) (pss_one (ps_set (i := 8) sc_law.nd rfl (Or.inl rfl) (pe_op op_add pe_int (pe_callB (call_max2 rfl) rfl T_max boot_max (pa_cons pe_int (pa_cons (pe_op op_fdiv pe_int (pv 7)) pa_nil)))))) pss_nil)
      (pss_cons (ps_set (i := 2) sc_law.nd rfl (Or.inl rfl) (pe_call GL hr2 rfl FL.m FL.F.kp FL.b .nil pass0 (pa_cons (pe_call GR hr1 rfl FR.m FR.F.kp FR.b .nil pass0 (pa_cons (pv 0) (pa_cons pe_int pa_nil))) (pa_cons (pe_callB call_len_seq rfl T.len PySem.boot_len (pa_cons (pe_ix ix_tup (pv 1) pe_int (fun _ _ => rfl)) pa_nil)) (pa_cons (pe_ix ix_list (pe_lst (pa_cons pe_int (pa_cons (pe_op op_sub (pe_op op_pow pe_int pe_int) pe_int) pa_nil))) (pe_callTy call_int1 rfl T.int boot_int (pa_cons (pe_cmpR op_lt (pv 7) pe_int (nomark _)) pa_nil)) (fun _ _ => rfl)) pa_nil)))))
      (pss_cons (ps_set (i := 5) sc_law.nd rfl (Or.inl rfl) (pe_op op_mod (pe_call GR hr1 rfl FR.m FR.F.kp FR.b .nil pass0 (pa_cons (pv 0) (pa_cons pe_int pa_nil))) (pv 8)))
      (pss_one (ps_set (i := 6) sc_law.nd rfl (Or.inl rfl) (pe_op op_mod (pe_op op_fdiv (pe_call GR hr1 rfl FR.m FR.F.kp FR.b .nil pass0 (pa_cons (pv 0) (pa_cons pe_int pa_nil))) (pv 8)) (pv 8)))))))))) pss_nil)
      (pss_cons (ps_set (i := 9) sc_law.nd rfl (Or.inl rfl) (pe_call GH hr4 rfl FH.m FH.F.kp FH.b .nil pass0 (pa_cons (pv 2) pa_nil)))
      (pss_cons (ps_set (i := 10) sc_law.nd rfl (Or.inl rfl) (pe_call GW hr9 rfl FW.m FW.kp FW.b .nil passE0 (pa_cons (pv 1) (pa_cons (pv 9) (pa_cons (pv 3) (pa_cons (pv 4) (pa_cons (pv 5) pa_nil)))))))
      (pss_cons (ps_set (i := 11) sc_law.nd rfl (Or.inl rfl) (pe_call GW hr9 rfl FW.m FW.kp FW.b .nil passE0 (pa_cons (pv 1) (pa_cons (pv 9) (pa_cons (pv 3) (pa_cons (pv 4) (pa_cons (pe_op op_add (pv 5) (pv 6)) pa_nil)))))))
      (pss_cons (ps_if (PW.pt (pw_or (pt_not (pt_val (pe_callB call_isinst rfl T.isin boot_isin (pa_cons (pv 10) (pa_cons (pe_bltn (v := .ty "tuple") rfl T.tuple boot_tuple rfl) pa_nil))))) (pw_or1 (pt_not (pt_val (pe_callB call_isinst rfl T.isin boot_isin (pa_cons (pv 11) (pa_cons (pe_bltn (v := .ty "tuple") rfl T.tuple boot_tuple rfl) pa_nil)))))))) (pss_one (ps_ret pe_bl)) pss_nil)
      (pss_cons (ps_if (pt_cmpR op_eq (pe_ix ix_tup (pv 10) pe_int (fun _ _ => rfl)) pe_str (nomark _)) (pss_cons (ps_set (i := 12) sc_law.nd rfl (Or.inl rfl) (pe_call GX hr2 rfl FX.m FX.F.kp FX.b .nil pass0 (pa_cons (pe_ix ix_tup (pv 10) pe_int (fun _ _ => rfl)) pa_nil)))
      (pss_one (ps_ret (pe_and (pe_cmpR op_notN (pv 12) pe_non (nomark _)) (pe_one (pe_call GI hr3 rfl FI.m FI.F.kp FI.b .nil pass0 (pa_cons (pv 11) (pa_cons (pe_ix ix_tup (pv 10) pe_int (fun _ _ => rfl)) (pa_cons (pe_ix ix_tup (pv 12) pe_int (fun _ _ => rfl)) (pa_cons (pe_ix ix_tup (pv 12) pe_int (fun _ _ => rfl)) pa_nil)))))))))) pss_nil)
      (pss_cons (ps_if (pt_not (pt_val (pe_call GT hr3 rfl FT.m FT.F.kp FT.b .nil pass0 (pa_cons (pv 10) (pa_cons (pe_ix ix_tup (pe_ix ix_tup (pv 10) pe_int (fun _ _ => rfl)) pe_int (fun _ _ => rfl)) (pa_cons (pv 2) pa_nil)))))) (pss_one (ps_ret pe_bl)) pss_nil)
      (pss_cons (ps_set (i := 13) sc_law.nd rfl (Or.inl rfl) (pe_call GW hr9 rfl FW.m FW.kp FW.b .nil passE0 (pa_cons (pv 1) (pa_cons (pe_ix ix_tup (pv 10) pe_int (fun _ _ => rfl)) (pa_cons (pv 3) (pa_cons (pv 4) (pa_cons (pv 6) pa_nil)))))))
      (pss_cons (ps_if (pt_not (pt_val (pe_callB call_isinst rfl T.isin boot_isin (pa_cons (pv 13) (pa_cons (pe_bltn (v := .ty "tuple") rfl T.tuple boot_tuple rfl) pa_nil))))) (pss_one (ps_ret pe_bl)) pss_nil)
      (pss_cons (ps_if (pt_cmpR op_eq (pe_ix ix_tup (pv 13) pe_int (fun _ _ => rfl)) pe_str (nomark _)) (pss_cons (ps_set (i := 12) sc_law.nd rfl (Or.inl rfl) (pe_call GX hr2 rfl FX.m FX.F.kp FX.b .nil pass0 (pa_cons (pe_ix ix_tup (pv 13) pe_int (fun _ _ => rfl)) pa_nil)))
      (pss_cons (ps_if (pt_cmpR op_isN (pv 12) pe_non (nomark _)) (pss_one (ps_ret pe_bl)) pss_nil)
      (pss_cons (ps_asg (pv 12) (pg_tup rfl (pgs_cons (pg_name (i := 14) sc_law.nd rfl (Or.inl rfl)) (pgs_cons (pg_name (i := 15) sc_law.nd rfl (Or.inl rfl)) pgs_nil))))
      (pss_one (ps_ret (pe_call GI hr3 rfl FI.m FI.F.kp FI.b .nil pass0 (pa_cons (pv 11) (pa_cons (pe_ix ix_tup (pv 13) pe_int (fun _ _ => rfl)) (pa_cons (pe_op op_add (pv 14) (pe_op op_mul (pv 5) (pv 15))) (pa_cons (pv 15) pa_nil)))))))))) pss_nil)
      (pss_cons (ps_if (PW.pt (pw_or (pt_not (pt_val (pe_call GT hr3 rfl FT.m FT.F.kp FT.b .nil pass0 (pa_cons (pv 13) (pa_cons (pe_ix ix_tup (pe_ix ix_tup (pv 13) pe_int (fun _ _ => rfl)) pe_int (fun _ _ => rfl)) (pa_cons (pv 2) pa_nil)))))) (pw_or1 (pt_not (pt_val (pe_call GT hr3 rfl FT.m FT.F.kp FT.b .nil pass0 (pa_cons (pv 11) (pa_cons (pe_ix ix_tup (pe_ix ix_tup (pv 13) pe_int (fun _ _ => rfl)) pe_int (fun _ _ => rfl)) (pa_cons (pv 2) pa_nil))))))))) (pss_one (ps_ret pe_bl)) pss_nil)
      (pss_one (ps_ret (pe_call GT hr3 rfl FT.m FT.F.kp FT.b .nil pass0 (pa_cons (pe_call GW hr9 rfl FW.m FW.kp FW.b .nil passE0 (pa_cons (pv 1) (pa_cons (pe_ix ix_tup (pv 11) pe_int (fun _ _ => rfl)) (pa_cons (pe_un un_neg (pv 3)) (pa_cons (pe_un un_neg (pv 4)) (pa_cons (pe_op op_add (pv 5) (pv 6)) pa_nil)))))) (pa_cons (pe_ix ix_tup (pv 2) pe_int (fun _ _ => rfl)) (pa_cons (pv 2) pa_nil)))))))))))))))))))))), ?_⟩
    have two : 2 ≤ sizeLine := by decide
    refine ⟨_, rfl, a, ns, 12, rfl, hS, by decide, by decide, fun H1 b n r u s1 hb hSh hm => ?_⟩
    obtain ⟨rp, up, hb1, hb2, hb3⟩ := id hb
    have rr := hSh.row
    have ru := hSh.col
    have hpos := hSh.pos
    refine ⟨_, rfl, _, rfl, b, _, 0, _, rfl, rfl, SqT.of hb1, atI_nat (j := 0) rfl, rp, _, rfl, .inr (SqT.of hb2), a, ns, 26, n, by rw [nv_len, rr.len]; rfl, s1.seq hS, by decide, by decide, hpos, fun H2 l sq tx bx ty by_ s2 hl hsq x0 x1 x2 y0 y1 y2 => ?_⟩
    have sA := s1.trans s2
    refine ⟨_, rfl, a, ns, 29, rfl, sA.seq hS, by decide, by decide, fun v => ?_⟩
    refine ⟨_, rfl, fun H3 x p q s3 hx hw => ?_⟩
    refine ⟨x, _, rfl, SqT.of hx, rfl, _, _, rfl, _, _, rfl, rfl, ?_⟩
    refine ⟨_, rfl, a, ns, 30, rfl, (sA.trans s3).seq hS, by decide, by decide, fun v1 => ?_⟩
    refine ⟨_, _, rfl, rfl, (by show (0 : Int) < 5; decide), ?_⟩
    refine ⟨_, rfl, a, ns, 30, rfl, (sA.trans s3).seq hS, by decide, by decide, fun v2 => ?_⟩
    refine ⟨_, _, rfl, rfl, ⟨by decide, by decide⟩, _, _, rfl, rfl, (by show (0 : Int) < 5; decide), ?_⟩
    dsimp only [gName]
    obtain ⟨few, hfew⟩ : ∃ x : Int, v1 % 5 = x := ⟨_, rfl⟩
    obtain ⟨more, hmore⟩ : ∃ x : Int, v2 / 5 % 5 = x := ⟨_, rfl⟩
    rw [hfew, hmore]
    have sB := sA.trans s3
    refine seq_by (fun σ H4 => ∃ (l : Addr) (sq : Nat) (tx bx ty by_ p q few more : Int) (o7 o8 : Option V), σ = [some (.ref a), some (.ref b), some (.ref l), some (.int p), some (.int q), some (.int few), some (.int more), o7, o8, none, none, none, none, none, none, none] ∧ Same H3 H4 ∧ Pl5 H4 l sq tx bx ty by_ ∧ sq < n ∧ 0 ≤ tx ∧ tx < bx ∧ bx < 1000000000000 ∧ 0 ≤ ty ∧ ty < by_ ∧ by_ < 1000000000000 ∧ Way p q ∧ 0 ≤ few ∧ few ≤ 31 ∧ 0 ≤ more ∧ more ≤ 31) (fun N hN => ?_) ?_
    · refine ⟨_, rfl, a, ns, rfl, sB.seq hS, fun bb => ⟨_, rfl, ?_⟩⟩
      cases bb with
      | false =>
        refine iteF ?_
        obtain ⟨px, py, g1, g2, g3⟩ := hl
        exact hN _ _ ⟨l, sq, tx, bx, ty, by_, p, q, few, more, none, none, rfl, Same.refl _, ⟨px, py, s3 _ _ g1, s3 _ _ g2, s3 _ _ g3⟩, hsq, x0, x1, by omega, y0, y1, by omega, hw, by omega, by omega, by omega, by omega⟩
      | true =>
        refine iteT ?_
        clear hfew hmore hw
        refine ⟨_, rfl, a, ns, 4, rfl, sB.seq hS, by decide, by decide, fun v3 => ?_⟩
        refine ⟨_, rfl, fun H4 x' p q s4 hx' hw => ?_⟩
        refine ⟨x', _, rfl, SqT.of hx', rfl, _, _, rfl, _, _, rfl, rfl, ?_⟩
        refine ⟨_, rfl, _, rfl, _, rfl, _, rfl, _, _, rfl, rfl, ?_⟩
        dsimp only
        obtain ⟨bo, hbo⟩ : ∃ x : Int, (if p < 0 then -p else p) + (if q < 0 then -q else q) = x := ⟨_, rfl⟩
        rw [hbo]
        obtain ⟨w1, w2, w3⟩ := id hw
        have bo1 : 1 ≤ bo := by rw [← hbo]; split <;> split <;> omega
        have bo2 : bo ≤ 120 := by rw [← hbo]; split <;> split <;> omega
        have d0 := Int.ediv_nonneg (show (0 : Int) ≤ 120 by decide) (show 0 ≤ bo by omega)
        have d1 := Int.ediv_nonneg (show (0 : Int) ≤ 20 by decide) (show 0 ≤ bo by omega)
        have d2 : 20 / bo ≤ 20 := Int.ediv_le_self _ (by decide)
        refine ⟨_, rfl, _, _, rfl, rfl, ⟨by omega, by omega⟩, _, _, rfl, _, _, rfl, rfl, ?_⟩
        dsimp only
        obtain ⟨mo, hmo⟩ : ∃ x : Int, 1 + (if 120 / bo < 30 then 120 / bo else 30) = x := ⟨_, rfl⟩
        rw [hmo]
        refine seq_by (fun σ H5 => ∃ mo : Int, σ = [some (.ref a), some (.ref b), some (.ref l), some (.int p), some (.int q), some (.int few), some (.int more), some (.int bo), some (.int mo), none, none, none, none, none, none, none] ∧ H5 = H4 ∧ 1 ≤ mo ∧ mo ≤ 31) (fun N hN => ?_) ?_
        · refine ⟨_, rfl, _, _, rfl, rfl, _, rfl, ?_⟩
          refine ite2 (fun _ => ?_) (fun _ => ?_)
          · refine ⟨_, rfl, _, _, rfl, rfl, ⟨by omega, by omega⟩, _, _, rfl, _, _, rfl, rfl, ?_⟩
            exact hN _ _ ⟨_, rfl, rfl, by split <;> omega, by split <;> omega⟩
          · exact hN _ _ ⟨mo, rfl, rfl, by rw [← hmo]; split <;> omega, by rw [← hmo]; split <;> omega⟩
        rintro σ H5 ⟨mo, rfl, rfl, mo1, mo2⟩
        have sC := sB.trans s4
        refine ⟨_, rfl, a, ns, 3, rfl, sC.seq hS, by decide, by decide, fun v5 => ?_⟩
        refine ⟨_, rfl, b, _, 0, _, rfl, rfl, SqT.of ((s2.trans (s3.trans s4)) _ _ hb1), atI_nat (j := 0) rfl, rp, _, rfl, .inr (SqT.of ((s2.trans (s3.trans s4)) _ _ hb2)), ?_⟩
        refine ⟨10, 12, rfl, rfl, ⟨by decide, by decide, by decide⟩, _, _, rfl, rfl, two, fun l6 hl6 => ?_⟩
        have s6 := same_upd (o := .lst [.int 60, .int (10 ^ Int.toNat 12 - 1)]) (Same.refl _) hl6
        obtain ⟨m, hat, m0, m1⟩ : ∃ m : Int, atI [V.int 60, V.int (10 ^ Int.toNat 12 - 1)] (if decide (bo < 25) = true then 1 else 0) = some (.int m) ∧ 0 < m ∧ m ≤ 999999999999 := by
          by_cases c : bo < 25
          · rw [if_pos (decide_eq_true c)]; exact ⟨10 ^ Int.toNat 12 - 1, rfl, by decide, by decide⟩
          · rw [if_neg (by rw [decide_eq_false c]; decide)]; exact ⟨60, rfl, by decide, by decide⟩
        refine ⟨_, rfl, _, _, rfl, rfl, .inr ⟨_, rfl, l6, _, _, _, rfl, rfl, SqL.of upd_same, hat, v5, m, n, by rw [nv_len, rr.len]; rfl, hpos, by omega, m0, m1, fun H7 l sq tx bx ty by_ s7 hP hsq x0 x1 x2 y0 y1 y2 => ?_⟩⟩
        have sD := sC.trans (s6.trans s7)
        refine ⟨_, rfl, a, ns, 5, rfl, sD.seq hS, by decide, by decide, fun v6 => ⟨_, rfl, _, _, rfl, rfl, (by show 0 < mo; omega), ?_⟩⟩
        refine ⟨_, rfl, a, ns, 5, rfl, sD.seq hS, by decide, by decide, fun v7 => ⟨_, rfl, _, _, rfl, rfl, ⟨by omega, by omega⟩, _, rfl, _, _, rfl, rfl, (by show 0 < mo; omega), ?_⟩⟩
        have e0 : ∀ v : Int, 0 ≤ v % mo ∧ v % mo ≤ 31 := fun v => ⟨Int.emod_nonneg v (by omega), by have := Int.emod_lt_of_pos v (show 0 < mo by omega); omega⟩
        exact hN _ _ ⟨l, sq, tx, bx, ty, by_, p, q, _, _, _, _, rfl, s4.trans (s6.trans s7), hP, hsq, x0, x1, by omega, y0, y1, by omega, hw, (e0 v6).1, (e0 v6).2, (e0 (v7 / mo)).1, (e0 (v7 / mo)).2⟩
    rintro σ H4 ⟨l, sq, tx, bx, ty, by_, p, q, few, more, o7, o8, rfl, s4, hP, hsq, x0, x1, x2, y0, y1, y2, hw, f0, f1, m0, m1⟩
    have hb4 := (hb.same s2).same (s3.trans s4)
    have pbx : 0 < bx := by omega
    have pby : 0 < by_ := by omega
    refine ⟨_, rfl, l, sq, tx, bx, ty, by_, rfl, hP, pbx, x2, pby, y2, fun H5 hd s5 hhd => ?_⟩
    obtain ⟨ax0, ax1, ax2, _⟩ := low_in pbx x0 x1
    obtain ⟨ay0, ay1, ay2, _⟩ := low_in pby y0 y1
    have o := unU_ok (p := p) (q := q) ax2 ay2 hw.2.2
    have hU : 0 < U6 tx bx ty by_ p q := o.u
    have bU : Bt 200 (U6 tx bx ty by_ p q) := unU_bt (low_b6 pbx x2) (low_b6 pby y2) hw.1 hw.2.1
    have hw' : Way (-p) (-q) := ⟨by have := hw.1; omega, by have := hw.2.1; omega, fun z => hw.2.2 ⟨by omega, by omega⟩⟩
    have pl := plain6 rr ru
    have inA : ∀ {s : Nat}, s < n → SIn n p q (U6 tx bx ty by_ p q) (A6 tx bx ty by_ p q s) := fun h => a6_in h x0 x1 y0 y1
    have wk : ∀ (p' q' : Int) (s' : Nat) (S' : Int) (H6 : Hp) (hd : Addr) (Q' : VK), Way p' q' → s' < n → 0 ≤ S' → S' ≤ 62 → Same H4 H6 → P3 C H6 hd s' (lowT tx bx) (lowB tx bx) (lowT ty by_) (lowB ty by_) →
        (∀ (H' : Hp) (t l' : Addr) (s2 : Nat), Same H6 H' → H' t = some (.tup [.str (Str.ofString "there"), .ref l']) → P3 C H' l' s2 (lowT tx bx) (lowB tx bx) (lowT ty by_) (lowB ty by_) → s2 < n → Run r u (roughs n (later r u)) p' q' (U6 tx bx ty by_ p' q') (A6 tx bx ty by_ p' q' s') (S' * U6 tx bx ty by_ p' q') (A6 tx bx ty by_ p' q' s2) → Q' (.ref t) H') →
        (∀ (H' : Hp) (t pt : Addr) (v : V) (T : Int) (b : Spt), Same H6 H' → H' t = some (.tup [.str (Str.ofString "corner"), v, .ref pt]) → LeastV n (later r u) b.s v → PtAt C H' pt (lowT T (U6 tx bx ty by_ p' q')) (lowB T (U6 tx bx ty by_ p' q')) → 0 ≤ T → T ≤ S' * U6 tx bx ty by_ p' q' → Hit r u (roughs n (later r u)) p' q' (U6 tx bx ty by_ p' q') (A6 tx bx ty by_ p' q' s') (S' * U6 tx bx ty by_ p' q') T b → Q' (.ref t) H') →
        spWk5 C CP CY [.ref b, .ref hd, .int p', .int q', .int S'] H6 Q' E0 := fun p' q' s' S' H6 hd Q' hw6 hs' a0 a1 s6 hp k1 k2 => by
      obtain ⟨qx, qy, g1, g2, g3⟩ := hp
      have good : Good5 n (s' : Int) (lowT tx bx) (lowB tx bx) (lowT ty by_) (lowB ty by_) := ⟨by omega, by omega, Int.ediv_eq_zero_of_lt ax0 ax1, Int.ediv_eq_zero_of_lt ay0 ay1⟩
      refine ⟨b, hd, qx, qy, n, (s' : Int), r, u, _, _, _, _, _, _, S', rfl, hb4.same s6, rr, ru, by omega, g1, g2, g3, ax2, ay2, low_b6 pbx x2, low_b6 pby y2, a0, by omega, fun z => absurd good z, fun _ z => absurd hw6 z, fun _ _ sq' e => ?_⟩
      have e : sq' = s' := by omega
      subst e
      exact end_run rr ru hs' a0 hw6 x0 x1 y0 y1 k1 k2
    have hPs : ∀ {H5 : Hp}, Same H4 H5 → Pl5 H5 l sq tx bx ty by_ := fun s5 => let ⟨p1, p2, g1, g2, g3⟩ := hP; ⟨p1, p2, s5 _ _ g1, s5 _ _ g2, s5 _ _ g3⟩
    have bt3 : ∀ {T S : Int}, S ≤ 100 → 0 ≤ S → 0 ≤ T → T ≤ S * U6 tx bx ty by_ p q → Bt 300 (lowT T (U6 tx bx ty by_ p q)) ∧ Bt 300 (lowB T (U6 tx bx ty by_ p q)) := fun a1 a2 a3 a4 => low_b4 hU bU a1 a2 a3 a4
    have sumU : (few + more) * U6 tx bx ty by_ p q = few * U6 tx bx ty by_ p q + more * U6 tx bx ty by_ p q := Int.add_mul _ _ _
    have M0 : 0 ≤ few * U6 tx bx ty by_ p q := Int.mul_nonneg f0 (by omega)
    have M1 : 0 ≤ more * U6 tx bx ty by_ p q := Int.mul_nonneg m0 (by omega)
    have pU : ∀ {T : Int}, 0 < lowB T (U6 tx bx ty by_ p q) := fun {T} => lowB_pos (by omega)
    have rl := later_row rr ru
    have ncr : decide (V.str (Str.ofString "there") = V.str (Str.ofString "corner")) = false := by decide +kernel
    refine ⟨_, rfl, _, rfl, _, rfl, _, rfl, _, rfl, wk p q sq few H5 hd _ hw hsq f0 (by omega) s5 hhd (fun H6 t6 l6 n6 s6 h6 q6 hn6 run6 => ?_) (fun H6 t6 pt6 v6 T6 b6 s6 h6 lv6 hp6 T60 T61 hit6 => ?_)⟩
    · refine ⟨_, rfl, _, rfl, _, rfl, _, rfl, _, rfl, _, rfl, _, _, rfl, rfl, wk p q sq (few + more) H6 hd _ hw hsq (by omega) (by omega) (s5.trans s6) (hhd.same s6) (fun H7 t7 l7 n7 s7 h7 q7 hn7 run7 => ?_) (fun H7 t7 pt7 v7 T7 b7 s7 h7 lv7 hp7 T70 T71 hit7 => ?_)⟩
      · have h67 := s7 _ _ h6
        refine ⟨_, rfl, _, _, _, _, rfl, .tup h67, kit_tup6 K, _, rfl, iteF ?_⟩
        refine ⟨_, rfl, _, _, _, _, rfl, .tup h7, kit_tup6 K, _, rfl, iteF ?_⟩
        refine ⟨_, rfl, t6, _, 0, _, rfl, rfl, SqT.of h67, atI_nat (j := 0) rfl, rfl, _, rfl, ?_⟩
        rw [ncr]
        refine iteF ?_
        have q67 := q6.same s7
        obtain ⟨qx6, qy6, g6, _, _⟩ := id q67
        refine ⟨_, rfl, _, rfl, t6, _, 1, _, rfl, rfl, SqT.of h67, atI_nat (j := 1) rfl, l6, _, 0, _, rfl, rfl, SqT.of g6, atI_nat (j := 0) rfl, _, rfl, ?_⟩
        refine ⟨t6, l, l6, n6, sq, tx, bx, ty, by_, _, _, _, _, rfl, h67, q67, ax2, ay2, hPs (s5.trans (s6.trans s7)), pbx, by omega, pby, by omega, x0, by omega, y0, by omega, low_cross, low_cross, fun H8 s8 => ?_⟩
        refine ⟨_, rfl, iteF ?_⟩
        have h68 := s8 _ _ h67
        refine ⟨_, rfl, _, rfl, t6, _, 1, _, rfl, rfl, SqT.of h68, atI_nat (j := 1) rfl, _, rfl, _, rfl, _, rfl, wk p q n6 more H8 l6 _ hw hn6 m0 (by omega) (s5.trans (s6.trans (s7.trans s8))) (q67.same s8) (fun H9 t9 l9 n9 s9 h9 q9 hn9 run9 => ?_) (fun H9 t9 pt9 v9 T9 b9 s9 h9 lv9 hp9 T90 T91 hit9 => ?_)⟩
        · have joined := run_join rr ru o run6 (inA hsq) M1 run9
          rw [← sumU] at joined
          have e97 := run_uniq joined run7
          obtain rfl : n9 = n7 := congrArg Spt.s e97
          have h79 := (s8.trans s9) _ _ h7
          have q79 := q7.same (s8.trans s9)
          refine ⟨_, rfl, _, _, _, _, rfl, .tup h9, kit_tup6 K, _, rfl, iteF ?_⟩
          refine ⟨_, rfl, t9, _, 0, _, rfl, rfl, SqT.of h9, atI_nat (j := 0) rfl, rfl, _, rfl, ?_⟩
          rw [ncr]
          refine iteF ?_
          obtain ⟨qx9, qy9, g9, _, _⟩ := id q9
          have sE := s5.trans (s6.trans (s7.trans (s8.trans s9)))
          refine ⟨_, rfl, _, rfl, t9, _, 1, _, rfl, rfl, SqT.of h9, atI_nat (j := 1) rfl, l9, _, 0, _, rfl, rfl, SqT.of g9, atI_nat (j := 0) rfl, _, rfl, ?_⟩
          refine ⟨t9, l, l9, n9, sq, tx, bx, ty, by_, _, _, _, _, rfl, h9, q9, ax2, ay2, hPs sE, pbx, by omega, pby, by omega, x0, by omega, y0, by omega, low_cross, low_cross, fun H10 s10 => ?_⟩
          refine ⟨_, rfl, iteF ?_⟩
          have h7a := s10 _ _ h79
          have q7a := q79.same s10
          refine ⟨_, rfl, _, rfl, t9, _, 1, _, rfl, rfl, SqT.of (s10 _ _ h9), atI_nat (j := 1) rfl, l9, _, 0, _, rfl, rfl, SqT.of (s10 _ _ g9), atI_nat (j := 0) rfl, _, rfl, ?_⟩
          refine ⟨t7, l, l7, n9, sq, tx, bx, ty, by_, _, _, _, _, rfl, h7a, q7a, ax2, ay2, hPs (sE.trans s10), pbx, by omega, pby, by omega, x0, by omega, y0, by omega, low_cross, low_cross, fun H11 s11 => ?_⟩
          refine ⟨_, rfl, iteF ?_⟩
          have h7b := s11 _ _ h7a
          have back := run_back rr ru o pl run7 (inA hsq) (by rw [sumU]; omega)
          refine ⟨_, rfl, _, rfl, t7, _, 1, _, rfl, rfl, SqT.of h7b, atI_nat (j := 1) rfl, _, rfl, _, rfl, _, rfl, _, rfl, _, rfl, _, rfl, _, _, rfl, rfl, wk (-p) (-q) n9 (few + more) H11 l7 _ hw' hn9 (by omega) (by omega) (sE.trans (s10.trans s11)) (q7a.same s11) (fun H12 t12 l12 n12 s12 h12 q12 hn12 run12 => ?_) (fun H12 t12 pt12 v12 T12 b12 s12 h12 lv12 hp12 T120 T121 hit12 => ?_)⟩
          · rw [u6_neg, a6_neg, a6_neg] at run12
            obtain rfl : n12 = sq := congrArg Spt.s (run_uniq run12 back)
            obtain ⟨p1, p2, g1, g2, g3⟩ := id hP
            have sF := sE.trans (s10.trans (s11.trans s12))
            refine ⟨_, rfl, l, _, 0, _, rfl, rfl, SqT.of (sF _ _ g1), atI_nat (j := 0) rfl, _, rfl, ?_⟩
            refine ⟨t12, l, l12, n12, _, tx, bx, ty, by_, _, _, _, _, rfl, h12, q12, ax2, ay2, hPs sF, pbx, by omega, pby, by omega, x0, by omega, y0, by omega, low_cross, low_cross, fun H13 _ => k H13⟩
          · rw [u6_neg, a6_neg] at hit12
            exact absurd back fun z => hit_run hit12 z
        · have joined := run_hit rr ru o run6 (inA hsq) M1 hit9
          rw [← sumU] at joined
          exact absurd run7 fun z => hit_run joined z
      · have h67 := s7 _ _ h6
        refine ⟨_, rfl, _, _, _, _, rfl, .tup h67, kit_tup6 K, _, rfl, iteF ?_⟩
        refine ⟨_, rfl, _, _, _, _, rfl, .tup h7, kit_tup6 K, _, rfl, iteF ?_⟩
        refine ⟨_, rfl, t6, _, 0, _, rfl, rfl, SqT.of h67, atI_nat (j := 0) rfl, rfl, _, rfl, ?_⟩
        rw [ncr]
        refine iteF ?_
        have q67 := q6.same s7
        obtain ⟨qx6, qy6, g6, _, _⟩ := id q67
        refine ⟨_, rfl, _, rfl, t6, _, 1, _, rfl, rfl, SqT.of h67, atI_nat (j := 1) rfl, l6, _, 0, _, rfl, rfl, SqT.of g6, atI_nat (j := 0) rfl, _, rfl, ?_⟩
        refine ⟨t6, l, l6, n6, sq, tx, bx, ty, by_, _, _, _, _, rfl, h67, q67, ax2, ay2, hPs (s5.trans (s6.trans s7)), pbx, by omega, pby, by omega, x0, by omega, y0, by omega, low_cross, low_cross, fun H8 s8 => ?_⟩
        refine ⟨_, rfl, iteF ?_⟩
        have h68 := s8 _ _ h67
        refine ⟨_, rfl, _, rfl, t6, _, 1, _, rfl, rfl, SqT.of h68, atI_nat (j := 1) rfl, _, rfl, _, rfl, _, rfl, wk p q n6 more H8 l6 _ hw hn6 m0 (by omega) (s5.trans (s6.trans (s7.trans s8))) (q67.same s8) (fun H9 t9 l9 n9 s9 h9 q9 hn9 run9 => ?_) (fun H9 t9 pt9 v9 T9 b9 s9 h9 lv9 hp9 T90 T91 hit9 => ?_)⟩
        · have joined := run_join rr ru o run6 (inA hsq) M1 run9
          rw [← sumU] at joined
          exact absurd joined fun z => hit_run hit7 z
        · have joined := run_hit rr ru o run6 (inA hsq) M1 hit9
          rw [← sumU] at joined
          obtain ⟨eT, eb⟩ := hit_uniq hit7 joined
          subst eb
          obtain rfl := least_uniq rl lv7 lv9
          obtain ⟨m9, rfl⟩ := least_int lv7
          have h79 := (s8.trans s9) _ _ h7
          have hp79 := hp7.same (s8.trans s9)
          refine ⟨_, rfl, _, _, _, _, rfl, .tup h9, kit_tup6 K, _, rfl, iteF ?_⟩
          refine ⟨_, rfl, t9, _, 0, _, rfl, rfl, SqT.of h9, atI_nat (j := 0) rfl, rfl, _, rfl, ?_⟩
          rw [decide_eq_true rfl]
          refine iteT ?_
          refine ⟨_, rfl, t9, _, 2, _, rfl, rfl, SqT.of h9, atI_nat (j := 2) rfl, pt9, _, _, rfl, hp9, pU, fun H10 a10 s10 _ ha10 => ?_⟩
          refine ⟨_, rfl, rfl, _, rfl, ?_⟩
          rw [decide_eq_false (fun z => by cases z)]
          refine iteF ?_
          refine ⟨_, rfl, a10, _, rfl, SqT.of ha10, rfl, _, _, rfl, _, _, rfl, rfl, ?_⟩
          have b9 := bt3 (show more ≤ 100 by omega) m0 T90 T91
          have b7 := bt3 (show few + more ≤ 100 by omega) (by omega) T70 T71
          refine ⟨_, rfl, _, rfl, t9, _, 1, _, rfl, rfl, SqT.of (s10 _ _ h9), atI_nat (j := 1) rfl, _, rfl, _, rfl, _, rfl, _, _, rfl, rfl, .inl ⟨by omega, by omega⟩, _, _, rfl, rfl, _, rfl, ?_⟩
          refine ⟨t7, pt7, m9, _, _, _, _, _, rfl, s10 _ _ h79, rfl, hp79.same s10, pU, b7.1.mono (by decide), b7.2.mono (by decide), ?_, b9.2.mono (by decide), ?_, fun H11 _ => k H11⟩
          · refine Bt.mono (Bt.add (n := 310) (b9.1.mono (by decide)) (Bt.mono (Bt.mul (n := 6) (m := 300) ?_ b9.2) (by decide))) (by decide)
            show few.natAbs < 2 ^ 6
            have : (2 : Nat) ^ 6 = 64 := by decide
            omega
          · rw [eT]
            exact low_plus6 hU
    · refine ⟨_, rfl, _, rfl, _, rfl, _, rfl, _, rfl, _, rfl, _, _, rfl, rfl, wk p q sq (few + more) H6 hd _ hw hsq (by omega) (by omega) (s5.trans s6) (hhd.same s6) (fun H7 t7 l7 n7 s7 h7 q7 hn7 run7 => ?_) (fun H7 t7 pt7 v7 T7 b7 s7 h7 lv7 hp7 T70 T71 hit7 => ?_)⟩
      · have more6 := hit_more rr ru o hit6 (M' := (few + more) * U6 tx bx ty by_ p q) (inA hsq) (by rw [sumU]; omega)
        exact absurd run7 fun z => hit_run more6 z
      · have more6 := hit_more rr ru o hit6 (M' := (few + more) * U6 tx bx ty by_ p q) (inA hsq) (by rw [sumU]; omega)
        obtain ⟨rfl, eb⟩ := hit_uniq more6 hit7
        subst eb
        obtain rfl := least_uniq rl lv7 lv6
        obtain ⟨m9, rfl⟩ := least_int lv7
        have h67 := s7 _ _ h6
        refine ⟨_, rfl, _, _, _, _, rfl, .tup h67, kit_tup6 K, _, rfl, iteF ?_⟩
        refine ⟨_, rfl, _, _, _, _, rfl, .tup h7, kit_tup6 K, _, rfl, iteF ?_⟩
        refine ⟨_, rfl, t6, _, 0, _, rfl, rfl, SqT.of h67, atI_nat (j := 0) rfl, rfl, _, rfl, ?_⟩
        rw [decide_eq_true rfl]
        refine iteT ?_
        refine ⟨_, rfl, t6, _, 2, _, rfl, rfl, SqT.of h67, atI_nat (j := 2) rfl, pt6, _, _, rfl, hp6.same s7, pU, fun H10 a10 s10 _ ha10 => ?_⟩
        refine ⟨_, rfl, rfl, true, congrArg V.bl (by rw [decide_eq_false (fun z => by cases z)]; rfl), ?_⟩
        refine iteT ?_
        have b6 := bt3 (show few ≤ 100 by omega) f0 T60 T61
        refine ⟨_, rfl, _, rfl, t6, _, 1, _, rfl, rfl, SqT.of (s10 _ _ h67), atI_nat (j := 1) rfl, _, rfl, a10, _, 0, _, rfl, rfl, SqT.of ha10, atI_nat (j := 0) rfl, _, rfl, a10, _, 1, _, rfl, rfl, SqT.of ha10, atI_nat (j := 1) rfl, ?_⟩
        exact ⟨t7, pt7, m9, _, _, _, _, _, rfl, s10 _ _ h7, rfl, hp7.same s10, pU, b6.1.mono (by decide), b6.2.mono (by decide), b6.1.mono (by decide), b6.2.mono (by decide), rfl, fun H11 _ => k H11⟩
end
end K1
def PySem.W.Fast.tw13565612684156676441 : Nat := 0
def PySem.W.Fast.tw4171972415344335661 : Nat := 0
def PySem.W.Fast.tw7649558878048564597 : Nat := 0
def PySem.W.Fast.tw7754385428438620590 : Nat := 0
def PySem.W.Fast.tw13279071231462295208 : Nat := 0
def PySem.W.Fast.tw10289309088428707111 : Nat := 0
def PySem.W.Fast.tw8314854850754896025 : Nat := 0
def PySem.W.Fast.tw15238849294112136663 : Nat := 0
def PySem.W.Fast.tw16499094271477698561 : Nat := 0
def PySem.W.Fast.tw10398608074859049372 : Nat := 0
def PySem.W.Fast.tw16636518707448278845 : Nat := 0
def PySem.W.Fast.tw18111969970162979242 : Nat := 0
namespace K1
open PySem L2 Sq
/-- a def as the top has left it -/
def Raw (K : PySem.W.Frag) (x : Str) (st : Stmt) : Prop := ∃ f fd, Fun K x x st f fd ∧ PySem.W.nsIn K mainGlobals x = some (some (.ref f)) ∧ ∃ kV doc pm an cdv ct, fd = PySem.W.fnOf x x (defArgs st) (defBody st) (defScope st) .none kV doc pm an cdv ct
theorem raw_mk {K : PySem.W.Frag} {x : Str} {st : Stmt} {f : Addr} {oc : Value} {od an : Option Addr} {osl : Array (Option Value)} {kV doc pm cdv ct : Value} (a : PySem.W.nsIn K mainGlobals x = some (some (.ref f)))
    (l : K.lookup f = some ⟨oc, od, .func (PySem.W.fnOf x x (defArgs st) (defBody st) (defScope st) .none kV doc pm an cdv ct), osl⟩) (c : PySem.W.codeIn K cdv x = true) (k : PySem.W.keepIn K (.ref f) = true) : Raw K x st :=
  ⟨f, _, fun_mk l c k, a, kV, doc, pm, an, cdv, ct, rfl⟩
theorem Raw.fn {K : PySem.W.Frag} {h : Heap} {mg : Str → Option Value} {x : Str} {st : Stmt} {ps : List Str} (X : K.In h) (G : h.Ns mainGlobals mg) (R : Raw K x st)
    (b : ∀ (kV doc pm : Value) (an : Option Addr) (cdv ct : Value) (us : List Value), us.length = ps.length → bindArgs (PySem.W.fnOf x x (defArgs st) (defBody st) (defScope st) .none kV doc pm an cdv ct) ⟨us, []⟩ = pure (ps.zip us)) : ∃ f fd, Fn K mg x st ps f fd := by
  obtain ⟨f, fd, F, a, _⟩ := R
  exact ⟨f, fd, F, F.binds b, PySem.W.mg_of X G a⟩
set_option maxHeartbeats 0 in
theorem all_mk {l : PySem.W.OpenLaw} {w : World} {K : PySem.W.Frag} {h : Heap} {mg : Str → Option Value} {fa : Addr} {t_FARTHEST : Tok} {CL : Addr} {CY : Addr} {CN : Addr} {CP f_CP : Addr} (X : K.In h) (G : h.Ns mainGlobals mg) (hfa : mg "law" = some (.ref fa))
    (R_size : Raw K "size" sSize)
    (R_back_row : Raw K "back_row" sBackRow)
    (R_is_whole : Raw K "is_whole" sIsWhole)
    (R_is_square : Raw K "is_square" sIsSq)
    (R_cycle_from : Raw K "cycle_from" sCycleFrom)
    (R_cycles : Raw K "cycles" sCycles)
    (R_corners : Raw K "corners" sCorners)
    (R_turn_row : Raw K "turn_row" sTurnRow)
    (R_rough_squares : Raw K "rough_squares" sRoughSquares)
    (R_common_divisor : Raw K "common_divisor" sCommonDivisor)
    (R_walk : RawD K "walk" sWalk ["sheet", "place", "p", "q", "steps"] (.int 1))
    (R_need_place : Raw K "need_place" sNeedPlace)
    (R_is_inside : Raw K "is_inside" sIsInside)
    (R_need_way : Raw K "need_way" sNeedWay)
    (R_walked : Raw K "walked" sWalked)
    (R_unit_of : Raw K "unit_of" sUnitOf)
    (R_in_units : Raw K "in_units" sInUnits)
    (R_is_at_corner : Raw K "is_at_corner" sIsAtCorner)
    (R_set_out : Raw K "set_out" sSetOut)
    (R_ticks_to_side : Raw K "ticks_to_side" sTicksToSide)
    (R_arrived : Raw K "arrived" sArrived)
    (R__law_cell : Raw K "_law_cell" sCell)
    (R__law_whole : Raw K "_law_whole" sWhole)
    (R__law_row : Raw K "_law_row" sLRow)
    (R__law_torus : Raw K "_law_torus" sLTorus)
    (R__law_exchanged : Raw K "_law_exchanged" sLExchanged)
    (R__law_together : Raw K "_law_together" sLTogether)
    (R__law_free : Raw K "_law_free" sLFree)
    (R__law_raw : Raw K "_law_raw" sLRaw)
    (R__law_digits : Raw K "_law_digits" sLDigits)
    (R__law_sheet : Raw K "_law_sheet" sSheet)
    (R__law_pair : Raw K "_law_pair" sLPair)
    (R__law_part : Raw K "_law_part" sLPart)
    (R__law_place : Raw K "_law_place" sLPlace)
    (R__law_any_part : Raw K "_law_any_part" sLAnyPart)
    (R__law_any_place : Raw K "_law_any_place" sLAnyPlace)
    (R__law_any_direction : Raw K "_law_any_direction" sLAnyDirection)
    (R__law_handed : Raw K "_law_handed" sHanded)
    (R__law_direction : Raw K "_law_direction" sLDirection)
    (R__law_is_there : Raw K "_law_is_there" sLIsThere)
    (R__law_is_corner : Raw K "_law_is_corner" sLIsCorner)
    (R_law : Raw K "law" sLaw)
    (c_FARTHEST : PySem.W.nsIn K mainGlobals "FARTHEST" = some (some (.int 60 t_FARTHEST)))
    (m_CL : PySem.W.nsIn K mainGlobals "NoPlace" = some (some (.ref CL))) (f_CL : ClsF K CL)
    (m_CY : PySem.W.nsIn K mainGlobals "NoWay" = some (some (.ref CY))) (f_CY : ClsF K CY)
    (m_CN : PySem.W.nsIn K mainGlobals "NoNumber" = some (some (.ref CN))) (f_CN : ClsF K CN)
    (e_CN : ExCls K CN)
    (e_CL : ExCls K CL)
    (e_CY : ExCls K CY)
    (m_CP : PySem.W.nsIn K mainGlobals "Part" = some (some (.ref CP))) (t_CP : PTx0 K CP) (i_CP : ∃ fd, PIn K CP f_CP fd)
    (q_whole : RawM K CP "whole" "Part.whole" sKPo)
    (z_len : PySem.W.nsIn K mainGlobals "len" = some none)
    (z_range : PySem.W.nsIn K mainGlobals "range" = some none)
    (z_list : PySem.W.nsIn K mainGlobals "list" = some none)
    (z_tuple : PySem.W.nsIn K mainGlobals "tuple" = some none)
    (z_isinstance : PySem.W.nsIn K mainGlobals "isinstance" = some none)
    (z_int : PySem.W.nsIn K mainGlobals "int" = some none)
    (z_bool : PySem.W.nsIn K mainGlobals "bool" = some none)
    (z_all : PySem.W.nsIn K mainGlobals "all" = some none)
    (z_set : PySem.W.nsIn K mainGlobals "set" = some none)
    (z_sorted : PySem.W.nsIn K mainGlobals "sorted" = some none)
    (z_enumerate : PySem.W.nsIn K mainGlobals "enumerate" = some none)
    (z_abs : PySem.W.nsIn K mainGlobals "abs" = some none)
    (z_max : PySem.W.nsIn K mainGlobals "max" = some none)
    (z_min : PySem.W.nsIn K mainGlobals "min" = some none)
    : ∃ fd : FuncData, (∀ (s : Shared) (v : Value), BindsTo s fd ⟨[v], []⟩ [("_law_script", v)]) ∧ ∀ base : Heap, K.In base → base.Ns mainGlobals mg → FnOk l.prog w K mg base CX0 10 fa fd ["_law_script"] (spLaw K) := by
  have T : Bi mg := ⟨PySem.W.mg_none_of X G z_len, PySem.W.mg_none_of X G z_range, PySem.W.mg_none_of X G z_list, PySem.W.mg_none_of X G z_tuple, PySem.W.mg_none_of X G z_isinstance, PySem.W.mg_none_of X G z_int, PySem.W.mg_none_of X G z_bool, PySem.W.mg_none_of X G z_all, PySem.W.mg_none_of X G z_set, PySem.W.mg_none_of X G z_sorted, PySem.W.mg_none_of X G z_enumerate⟩
  have T_abs : mg "abs" = none := PySem.W.mg_none_of X G z_abs
  have T_max : mg "max" = none := PySem.W.mg_none_of X G z_max
  have T_min : mg "min" = none := PySem.W.mg_none_of X G z_min
  have C_FARTHEST := PySem.W.mg_of X G c_FARTHEST
  have M_CL := PySem.W.mg_of X G m_CL
  have M_CY := PySem.W.mg_of X G m_CY
  have M_CN := PySem.W.mg_of X G m_CN
  have T_CP := t_CP.tx (PySem.W.mg_of X G m_CP)
  obtain ⟨d_CP, I_CP⟩ := i_CP
  obtain ⟨dV_CP, D_CP⟩ := I_CP.F
  obtain ⟨f_whole, d_whole, F_whole⟩ := q_whole.fn (ps := ["self"]) fun _ _ _ _ _ _ us hl => match us, hl with | [_], _ => rfl
  obtain ⟨f_size, d_size, F_size⟩ := R_size.fn (ps := ["sheet"]) X G fun _ _ _ _ _ _ us hl => match us, hl with | [_], _ => rfl
  obtain ⟨f_back_row, d_back_row, F_back_row⟩ := R_back_row.fn (ps := ["row"]) X G fun _ _ _ _ _ _ us hl => match us, hl with | [_], _ => rfl
  obtain ⟨f_is_whole, d_is_whole, F_is_whole⟩ := R_is_whole.fn (ps := ["thing"]) X G fun _ _ _ _ _ _ us hl => match us, hl with | [_], _ => rfl
  obtain ⟨f_is_square, d_is_square, F_is_square⟩ := R_is_square.fn (ps := ["thing", "squares"]) X G fun _ _ _ _ _ _ us hl => match us, hl with | [_, _], _ => rfl
  obtain ⟨f_cycle_from, d_cycle_from, F_cycle_from⟩ := R_cycle_from.fn (ps := ["row", "first"]) X G fun _ _ _ _ _ _ us hl => match us, hl with | [_, _], _ => rfl
  obtain ⟨f_cycles, d_cycles, F_cycles⟩ := R_cycles.fn (ps := ["row"]) X G fun _ _ _ _ _ _ us hl => match us, hl with | [_], _ => rfl
  obtain ⟨f_corners, d_corners, F_corners⟩ := R_corners.fn (ps := ["sheet"]) X G fun _ _ _ _ _ _ us hl => match us, hl with | [_], _ => rfl
  obtain ⟨f_turn_row, d_turn_row, F_turn_row⟩ := R_turn_row.fn (ps := ["sheet"]) X G fun _ _ _ _ _ _ us hl => match us, hl with | [_], _ => rfl
  obtain ⟨f_rough_squares, d_rough_squares, F_rough_squares⟩ := R_rough_squares.fn (ps := ["sheet"]) X G fun _ _ _ _ _ _ us hl => match us, hl with | [_], _ => rfl
  obtain ⟨f_common_divisor, d_common_divisor, F_common_divisor⟩ := R_common_divisor.fn (ps := ["one", "other"]) X G fun _ _ _ _ _ _ us hl => match us, hl with | [_, _], _ => rfl
  obtain ⟨f_walk, d_walk, v_walk, F_walk⟩ := R_walk.fn X G
  obtain ⟨f_need_place, d_need_place, F_need_place⟩ := R_need_place.fn (ps := ["sheet", "place"]) X G fun _ _ _ _ _ _ us hl => match us, hl with | [_, _], _ => rfl
  obtain ⟨f_is_inside, d_is_inside, F_is_inside⟩ := R_is_inside.fn (ps := ["part"]) X G fun _ _ _ _ _ _ us hl => match us, hl with | [_], _ => rfl
  obtain ⟨f_need_way, d_need_way, F_need_way⟩ := R_need_way.fn (ps := ["p", "q"]) X G fun _ _ _ _ _ _ us hl => match us, hl with | [_, _], _ => rfl
  obtain ⟨f_walked, d_walked, F_walked⟩ := R_walked.fn (ps := ["sheet", "place", "p", "q", "steps"]) X G fun _ _ _ _ _ _ us hl => match us, hl with | [_, _, _, _, _], _ => rfl
  obtain ⟨f_unit_of, d_unit_of, F_unit_of⟩ := R_unit_of.fn (ps := ["place", "p", "q"]) X G fun _ _ _ _ _ _ us hl => match us, hl with | [_, _, _], _ => rfl
  obtain ⟨f_in_units, d_in_units, F_in_units⟩ := R_in_units.fn (ps := ["part", "unit"]) X G fun _ _ _ _ _ _ us hl => match us, hl with | [_, _], _ => rfl
  obtain ⟨f_is_at_corner, d_is_at_corner, F_is_at_corner⟩ := R_is_at_corner.fn (ps := ["spot", "rough"]) X G fun _ _ _ _ _ _ us hl => match us, hl with | [_, _], _ => rfl
  obtain ⟨f_set_out, d_set_out, F_set_out⟩ := R_set_out.fn (ps := ["spot", "p", "q", "back", "unit"]) X G fun _ _ _ _ _ _ us hl => match us, hl with | [_, _, _, _, _], _ => rfl
  obtain ⟨f_ticks_to_side, d_ticks_to_side, F_ticks_to_side⟩ := R_ticks_to_side.fn (ps := ["at", "speed", "unit"]) X G fun _ _ _ _ _ _ us hl => match us, hl with | [_, _, _], _ => rfl
  obtain ⟨f_arrived, d_arrived, F_arrived⟩ := R_arrived.fn (ps := ["spot", "sheet", "unit"]) X G fun _ _ _ _ _ _ us hl => match us, hl with | [_, _, _], _ => rfl
  obtain ⟨f__law_cell, d__law_cell, F__law_cell⟩ := R__law_cell.fn (ps := ["_law_script", "_law_k"]) X G fun _ _ _ _ _ _ us hl => match us, hl with | [_, _], _ => rfl
  obtain ⟨f__law_whole, d__law_whole, F__law_whole⟩ := R__law_whole.fn (ps := ["_law_found"]) X G fun _ _ _ _ _ _ us hl => match us, hl with | [_], _ => rfl
  obtain ⟨f__law_row, d__law_row, F__law_row⟩ := R__law_row.fn (ps := ["_law_script", "_law_at", "_law_many"]) X G fun _ _ _ _ _ _ us hl => match us, hl with | [_, _, _], _ => rfl
  obtain ⟨f__law_torus, d__law_torus, F__law_torus⟩ := R__law_torus.fn (ps := ["_law_long", "_law_high", "_law_shift"]) X G fun _ _ _ _ _ _ us hl => match us, hl with | [_, _, _], _ => rfl
  obtain ⟨f__law_exchanged, d__law_exchanged, F__law_exchanged⟩ := R__law_exchanged.fn (ps := ["_law_row_here", "_law_script", "_law_at", "_law_times"]) X G fun _ _ _ _ _ _ us hl => match us, hl with | [_, _, _, _], _ => rfl
  obtain ⟨f__law_together, d__law_together, F__law_together⟩ := R__law_together.fn (ps := ["_law_first", "_law_second"]) X G fun _ _ _ _ _ _ us hl => match us, hl with | [_, _], _ => rfl
  obtain ⟨f__law_free, d__law_free, F__law_free⟩ := R__law_free.fn (ps := ["_law_script"]) X G fun _ _ _ _ _ _ us hl => match us, hl with | [_], _ => rfl
  obtain ⟨f__law_raw, d__law_raw, F__law_raw⟩ := R__law_raw.fn (ps := ["_law_script", "_law_k"]) X G fun _ _ _ _ _ _ us hl => match us, hl with | [_, _], _ => rfl
  obtain ⟨f__law_digits, d__law_digits, F__law_digits⟩ := R__law_digits.fn (ps := ["_law_cell_here", "_law_many"]) X G fun _ _ _ _ _ _ us hl => match us, hl with | [_, _], _ => rfl
  obtain ⟨f__law_sheet, d__law_sheet, F__law_sheet⟩ := R__law_sheet.fn (ps := ["_law_script", "_law_most"]) X G fun _ _ _ _ _ _ us hl => match us, hl with | [_, _], _ => rfl
  obtain ⟨f__law_pair, d__law_pair, F__law_pair⟩ := R__law_pair.fn (ps := ["_law_found"]) X G fun _ _ _ _ _ _ us hl => match us, hl with | [_], _ => rfl
  obtain ⟨f__law_part, d__law_part, F__law_part⟩ := R__law_part.fn (ps := ["_law_cell_here"]) X G fun _ _ _ _ _ _ us hl => match us, hl with | [_], _ => rfl
  obtain ⟨f__law_place, d__law_place, F__law_place⟩ := R__law_place.fn (ps := ["_law_script", "_law_at", "_law_many"]) X G fun _ _ _ _ _ _ us hl => match us, hl with | [_, _, _], _ => rfl
  obtain ⟨f__law_any_part, d__law_any_part, F__law_any_part⟩ := R__law_any_part.fn (ps := ["_law_cell_here", "_law_most"]) X G fun _ _ _ _ _ _ us hl => match us, hl with | [_, _], _ => rfl
  obtain ⟨f__law_any_place, d__law_any_place, F__law_any_place⟩ := R__law_any_place.fn (ps := ["_law_cell_here", "_law_many", "_law_most"]) X G fun _ _ _ _ _ _ us hl => match us, hl with | [_, _, _], _ => rfl
  obtain ⟨f__law_any_direction, d__law_any_direction, F__law_any_direction⟩ := R__law_any_direction.fn (ps := ["_law_cell_here"]) X G fun _ _ _ _ _ _ us hl => match us, hl with | [_], _ => rfl
  obtain ⟨f__law_handed, d__law_handed, F__law_handed⟩ := R__law_handed.fn (ps := ["_law_place_here"]) X G fun _ _ _ _ _ _ us hl => match us, hl with | [_], _ => rfl
  obtain ⟨f__law_direction, d__law_direction, F__law_direction⟩ := R__law_direction.fn (ps := ["_law_cell_here"]) X G fun _ _ _ _ _ _ us hl => match us, hl with | [_], _ => rfl
  obtain ⟨f__law_is_there, d__law_is_there, F__law_is_there⟩ := R__law_is_there.fn (ps := ["_law_found", "_law_square", "_law_place_here"]) X G fun _ _ _ _ _ _ us hl => match us, hl with | [_, _, _], _ => rfl
  obtain ⟨f__law_is_corner, d__law_is_corner, F__law_is_corner⟩ := R__law_is_corner.fn (ps := ["_law_found", "_law_square", "_law_top", "_law_bottom"]) X G fun _ _ _ _ _ _ us hl => match us, hl with | [_, _, _, _], _ => rfl
  obtain ⟨fL, dL, FL, aL, kV, doc, pm, an, cdv, ct, eL⟩ := R_law
  have bL := FL.binds (ps := ["_law_script"]) fun _ _ _ _ _ _ us hl => match us, hl with | [_], _ => rfl
  have e := hfa.symm.trans (PySem.W.mg_of X G aL)
  cases e
  refine ⟨dL, fun s v => ?_, fun base _ _ => ?_⟩
  · subst eL; exact .of_eq rfl
  · have F_law : Fn K mg "law" sLaw ["_law_script"] fa dL := ⟨FL, bL, PySem.W.mg_of X G aL⟩
    have G_cell := ok_cellA (P := l.prog) (w := w) (base := base) T F__law_cell
    have G_whole := ok_whole (P := l.prog) (w := w) (base := base) T F__law_whole
    have G_row := ok_row T F__law_row F__law_cell G_cell
    have G_tog := ok_tog (P := l.prog) (w := w) (base := base) T F__law_together
    have G_torus := ok_torus (P := l.prog) (w := w) (base := base) T F__law_torus
    have G_exch := ok_exch T F__law_exchanged F__law_cell G_cell
    have G_free := ok_fre (P := l.prog) (w := w) (base := base) T F__law_free
    have G_raw := ok_raw (P := l.prog) (w := w) (base := base) T F__law_raw
    have G_dig := ok_dig (P := l.prog) (w := w) (base := base) T F__law_digits
    have G_sheet := ok_sh5 F__law_sheet F__law_free G_free F__law_raw G_raw F__law_digits G_dig F__law_together G_tog F__law_cell G_cell F__law_row G_row F__law_torus G_torus F__law_exchanged G_exch
    have G_cd := ok_cd (P := l.prog) (w := w) (base := base) T_abs F_common_divisor
    have G_init := ok_init T_CP e_CN M_CN D_CP F_common_divisor G_cd
    have G_whl := ok_whl (P := l.prog) (w := w) (base := base) T_CP F_whole
    have G_back := ok_backRow (P := l.prog) (w := w) (base := base) T F_back_row
    have G_size := ok_size (P := l.prog) (w := w) (base := base) T F_size
    have G_isSq := ok_isSq (P := l.prog) (w := w) (base := base) T F_is_square F_is_whole
    have G_in := ok_in8 T_CP F_whole G_whl F_is_inside
    have G_np := ok_np8 e_CL M_CL F_need_place F_is_square G_isSq F_size G_size F_is_inside G_in
    have G_nw := ok_nw6 (P := l.prog) (w := w) (base := base) T_abs e_CY M_CY C_FARTHEST F_need_way
    have G_turn := ok_turn F_turn_row F_back_row G_back
    have G_cyc := ok_cycF (P := l.prog) (w := w) (base := base) F_cycle_from
    have G_cycles := ok_cycles T T_min F_cycles F_cycle_from G_cyc
    have G_corners := ok_corners F_corners F_turn_row G_turn F_cycles G_cycles
    have G_rough := ok_rough T F_rough_squares F_corners G_corners
    have G_uo := ok_uo5 (P := l.prog) (w := w) (base := base) T_CP T_abs T_max F_unit_of
    have G_iu := ok_iu5 (P := l.prog) (w := w) (base := base) T_CP F_in_units
    have G_ic := ok_ic5 (P := l.prog) (w := w) (base := base) F_is_at_corner
    have G_so := ok_so5 (P := l.prog) (w := w) (base := base) F_set_out
    have G_ts := ok_ts5 (P := l.prog) (w := w) (base := base) F_ticks_to_side
    have G_ar := ok_ar5 (P := l.prog) (w := w) (base := base) F_arrived
    have G_wd := ok_wd5 T T_CP T_min I_CP.M I_CP.b G_init F_walked F_unit_of G_uo F_rough_squares G_rough F_back_row G_back F_in_units G_iu F_is_at_corner G_ic F_set_out G_so F_ticks_to_side G_ts F_arrived G_ar
    have G_wk := ok_wk5 F_walk F_need_place G_np F_need_way G_nw F_walked G_wd
    have G_pr := ok_pair T T_CP F__law_pair F__law_whole G_whole
    have G_pa := ok_pa5 (P := l.prog) (w := w) (base := base) F__law_part
    have G_pl := ok_pl5 F__law_place F__law_cell G_cell F__law_part G_pa
    have G_ha := ok_ha5 T_CP I_CP.M I_CP.b G_init F__law_handed
    have G_it := ok_it5 T F__law_is_there F__law_whole G_whole F__law_pair G_pr
    have G_dr := ok_dr6 (P := l.prog) (w := w) (base := base) F__law_direction
    have G_ad := ok_ad6 (P := l.prog) (w := w) (base := base) F__law_any_direction
    have G_ap := ok_ap6 (P := l.prog) (w := w) (base := base) F__law_any_part
    have G_al := ok_al6 F__law_any_place F__law_any_part G_ap
    have G_isc := ok_is6 T F__law_is_corner F__law_whole G_whole F__law_pair G_pr
    exact ok_law T T_abs T_max T_min F_walk G_wk F_law F__law_sheet G_sheet F__law_place G_pl F__law_cell G_cell F__law_direction G_dr F__law_free G_free F__law_raw G_raw F__law_any_direction G_ad F__law_any_place G_al F__law_handed G_ha F__law_pair G_pr F__law_is_there G_it F__law_is_corner G_isc
theorem walk {l : PySem.W.OpenLaw} {q : Program} {loose : List Str} {XP : (Str → Option Value) → Heap → Prop} {YP : World → Heap → Prop} {d : DefRec} {K : Params → PySem.W.Frag} (hn : l.most = some 63) (hdf : d.params.defaults = [])
    (hY : ∀ (w : World) (h : Heap), YP w h → (K w.params).In h)
    (F : ∀ (w : World) (mg : Str → Option Value) (fa : Addr) (h : Heap), (K w.params).In h → h.Ns mainGlobals mg → mg d.name = some (.ref fa) →
      ∃ fd : FuncData, (∀ (s : Shared) (u : Value), BindsTo s fd ⟨[u], []⟩ [("_law_script", u)]) ∧ ∀ base : Heap, (K w.params).In base → base.Ns mainGlobals mg → FnOk l.prog w (K w.params) mg base CX0 10 fa fd ["_law_script"] (spLaw (K w.params))) :
    PySem.W.WalkO q loose XP YP l.row.toRowW d [] (fun f vs => PySem.call f vs) :=
  L2.walk_of (n := 63) (k := 10) (x := "_law_script") (CX := fun _ => CX0) (sp := fun w => spLaw (K w.params)) hn (by decide) hdf ⟨rfl, by decide, by decide⟩ hY F (fun _ _ a ns hl _ hS => ⟨a, ns, rfl, hS, fun _ => rfl⟩) fun _ _ _ _ _ z => z
end K1
open PySem PySem.W PyProof.Rows
set_option maxRecDepth 100000 in
set_option maxHeartbeats 0 in
theorem PySem.Challenge.cw_squaresheet_k36_whole_in_parts_and_back_holds : PySem.Challenge.rw_squaresheet_k36_whole_in_parts_and_back.Holds := by
  w_on; o_law; k_head; (case hw => w_witness2)
  k_fill
  refine K1.walk (l := PySem.Challenge.rw_squaresheet_k36_whole_in_parts_and_back) rfl rfl (fun w h Y => PySem.W.kIn_of Y) ?F
  case F =>
    intro w mg fa h KX G hmg
    have R_size : K1.Raw (L2.KOf KX) "size" K1.sSize := by
      dsimp only [L2.KOf]
      refine' K1.raw_mk ?a ?l ?c ?k
      (case a => k_is); (case l => k_is); (case c => k_is); (case k => k_is)
    have R_back_row : K1.Raw (L2.KOf KX) "back_row" K1.sBackRow := by
      dsimp only [L2.KOf]
      refine' K1.raw_mk ?a ?l ?c ?k
      (case a => k_is); (case l => k_is); (case c => k_is); (case k => k_is)
    have R_is_whole : K1.Raw (L2.KOf KX) "is_whole" K1.sIsWhole := by
      dsimp only [L2.KOf]
      refine' K1.raw_mk ?a ?l ?c ?k
      (case a => k_is); (case l => k_is); (case c => k_is); (case k => k_is)
    have R_is_square : K1.Raw (L2.KOf KX) "is_square" K1.sIsSq := by
      dsimp only [L2.KOf]
      refine' K1.raw_mk ?a ?l ?c ?k
      (case a => k_is); (case l => k_is); (case c => k_is); (case k => k_is)
    have R_cycle_from : K1.Raw (L2.KOf KX) "cycle_from" K1.sCycleFrom := by
      dsimp only [L2.KOf]
      refine' K1.raw_mk ?a ?l ?c ?k
      (case a => k_is); (case l => k_is); (case c => k_is); (case k => k_is)
    have R_cycles : K1.Raw (L2.KOf KX) "cycles" K1.sCycles := by
      dsimp only [L2.KOf]
      refine' K1.raw_mk ?a ?l ?c ?k
      (case a => k_is); (case l => k_is); (case c => k_is); (case k => k_is)
    have R_corners : K1.Raw (L2.KOf KX) "corners" K1.sCorners := by
      dsimp only [L2.KOf]
      refine' K1.raw_mk ?a ?l ?c ?k
      (case a => k_is); (case l => k_is); (case c => k_is); (case k => k_is)
    have R_turn_row : K1.Raw (L2.KOf KX) "turn_row" K1.sTurnRow := by
      dsimp only [L2.KOf]
      refine' K1.raw_mk ?a ?l ?c ?k
      (case a => k_is); (case l => k_is); (case c => k_is); (case k => k_is)
    have R_rough_squares : K1.Raw (L2.KOf KX) "rough_squares" K1.sRoughSquares := by
      dsimp only [L2.KOf]
      refine' K1.raw_mk ?a ?l ?c ?k
      (case a => k_is); (case l => k_is); (case c => k_is); (case k => k_is)
    have R_common_divisor : K1.Raw (L2.KOf KX) "common_divisor" K1.sCommonDivisor := by
      dsimp only [L2.KOf]
      refine' K1.raw_mk ?a ?l ?c ?k
      (case a => k_is); (case l => k_is); (case c => k_is); (case k => k_is)
    have R_walk : L2.RawD (L2.KOf KX) "walk" K1.sWalk ["sheet", "place", "p", "q", "steps"] (.int 1) := by
      dsimp only [L2.KOf]
      refine' L2.rawd_mk5 ?a ?l ?c ?k ?t ?r ?b2 ?b1
      (case a => k_is); (case l => k_is); (case c => k_is); (case k => k_is); (case t => k_is); (case r => exact ⟨_, rfl⟩)
      (case b2 => intro s hK y0 y1 y2 y3 y4; exact PySem.W.binds_K hK rfl (by k_is) rfl rfl rfl); (case b1 => intro s hK y0 y1 y2 y3; exact PySem.W.binds_K hK rfl (by k_is) rfl rfl rfl)
    have R_need_place : K1.Raw (L2.KOf KX) "need_place" K1.sNeedPlace := by
      dsimp only [L2.KOf]
      refine' K1.raw_mk ?a ?l ?c ?k
      (case a => k_is); (case l => k_is); (case c => k_is); (case k => k_is)
    have R_is_inside : K1.Raw (L2.KOf KX) "is_inside" K1.sIsInside := by
      dsimp only [L2.KOf]
      refine' K1.raw_mk ?a ?l ?c ?k
      (case a => k_is); (case l => k_is); (case c => k_is); (case k => k_is)
    have R_need_way : K1.Raw (L2.KOf KX) "need_way" K1.sNeedWay := by
      dsimp only [L2.KOf]
      refine' K1.raw_mk ?a ?l ?c ?k
      (case a => k_is); (case l => k_is); (case c => k_is); (case k => k_is)
    have R_walked : K1.Raw (L2.KOf KX) "walked" K1.sWalked := by
      dsimp only [L2.KOf]
      refine' K1.raw_mk ?a ?l ?c ?k
      (case a => k_is); (case l => k_is); (case c => k_is); (case k => k_is)
    have R_unit_of : K1.Raw (L2.KOf KX) "unit_of" K1.sUnitOf := by
      dsimp only [L2.KOf]
      refine' K1.raw_mk ?a ?l ?c ?k
      (case a => k_is); (case l => k_is); (case c => k_is); (case k => k_is)
    have R_in_units : K1.Raw (L2.KOf KX) "in_units" K1.sInUnits := by
      dsimp only [L2.KOf]
      refine' K1.raw_mk ?a ?l ?c ?k
      (case a => k_is); (case l => k_is); (case c => k_is); (case k => k_is)
    have R_is_at_corner : K1.Raw (L2.KOf KX) "is_at_corner" K1.sIsAtCorner := by
      dsimp only [L2.KOf]
      refine' K1.raw_mk ?a ?l ?c ?k
      (case a => k_is); (case l => k_is); (case c => k_is); (case k => k_is)
    have R_set_out : K1.Raw (L2.KOf KX) "set_out" K1.sSetOut := by
      dsimp only [L2.KOf]
      refine' K1.raw_mk ?a ?l ?c ?k
      (case a => k_is); (case l => k_is); (case c => k_is); (case k => k_is)
    have R_ticks_to_side : K1.Raw (L2.KOf KX) "ticks_to_side" K1.sTicksToSide := by
      dsimp only [L2.KOf]
      refine' K1.raw_mk ?a ?l ?c ?k
      (case a => k_is); (case l => k_is); (case c => k_is); (case k => k_is)
    have R_arrived : K1.Raw (L2.KOf KX) "arrived" K1.sArrived := by
      dsimp only [L2.KOf]
      refine' K1.raw_mk ?a ?l ?c ?k
      (case a => k_is); (case l => k_is); (case c => k_is); (case k => k_is)
    have R__law_cell : K1.Raw (L2.KOf KX) "_law_cell" K1.sCell := by
      dsimp only [L2.KOf]
      refine' K1.raw_mk ?a ?l ?c ?k
      (case a => k_is); (case l => k_is); (case c => k_is); (case k => k_is)
    have R__law_whole : K1.Raw (L2.KOf KX) "_law_whole" K1.sWhole := by
      dsimp only [L2.KOf]
      refine' K1.raw_mk ?a ?l ?c ?k
      (case a => k_is); (case l => k_is); (case c => k_is); (case k => k_is)
    have R__law_row : K1.Raw (L2.KOf KX) "_law_row" K1.sLRow := by
      dsimp only [L2.KOf]
      refine' K1.raw_mk ?a ?l ?c ?k
      (case a => k_is); (case l => k_is); (case c => k_is); (case k => k_is)
    have R__law_torus : K1.Raw (L2.KOf KX) "_law_torus" K1.sLTorus := by
      dsimp only [L2.KOf]
      refine' K1.raw_mk ?a ?l ?c ?k
      (case a => k_is); (case l => k_is); (case c => k_is); (case k => k_is)
    have R__law_exchanged : K1.Raw (L2.KOf KX) "_law_exchanged" K1.sLExchanged := by
      dsimp only [L2.KOf]
      refine' K1.raw_mk ?a ?l ?c ?k
      (case a => k_is); (case l => k_is); (case c => k_is); (case k => k_is)
    have R__law_together : K1.Raw (L2.KOf KX) "_law_together" K1.sLTogether := by
      dsimp only [L2.KOf]
      refine' K1.raw_mk ?a ?l ?c ?k
      (case a => k_is); (case l => k_is); (case c => k_is); (case k => k_is)
    have R__law_free : K1.Raw (L2.KOf KX) "_law_free" K1.sLFree := by
      dsimp only [L2.KOf]
      refine' K1.raw_mk ?a ?l ?c ?k
      (case a => k_is); (case l => k_is); (case c => k_is); (case k => k_is)
    have R__law_raw : K1.Raw (L2.KOf KX) "_law_raw" K1.sLRaw := by
      dsimp only [L2.KOf]
      refine' K1.raw_mk ?a ?l ?c ?k
      (case a => k_is); (case l => k_is); (case c => k_is); (case k => k_is)
    have R__law_digits : K1.Raw (L2.KOf KX) "_law_digits" K1.sLDigits := by
      dsimp only [L2.KOf]
      refine' K1.raw_mk ?a ?l ?c ?k
      (case a => k_is); (case l => k_is); (case c => k_is); (case k => k_is)
    have R__law_sheet : K1.Raw (L2.KOf KX) "_law_sheet" K1.sSheet := by
      dsimp only [L2.KOf]
      refine' K1.raw_mk ?a ?l ?c ?k
      (case a => k_is); (case l => k_is); (case c => k_is); (case k => k_is)
    have R__law_pair : K1.Raw (L2.KOf KX) "_law_pair" K1.sLPair := by
      dsimp only [L2.KOf]
      refine' K1.raw_mk ?a ?l ?c ?k
      (case a => k_is); (case l => k_is); (case c => k_is); (case k => k_is)
    have R__law_part : K1.Raw (L2.KOf KX) "_law_part" K1.sLPart := by
      dsimp only [L2.KOf]
      refine' K1.raw_mk ?a ?l ?c ?k
      (case a => k_is); (case l => k_is); (case c => k_is); (case k => k_is)
    have R__law_place : K1.Raw (L2.KOf KX) "_law_place" K1.sLPlace := by
      dsimp only [L2.KOf]
      refine' K1.raw_mk ?a ?l ?c ?k
      (case a => k_is); (case l => k_is); (case c => k_is); (case k => k_is)
    have R__law_any_part : K1.Raw (L2.KOf KX) "_law_any_part" K1.sLAnyPart := by
      dsimp only [L2.KOf]
      refine' K1.raw_mk ?a ?l ?c ?k
      (case a => k_is); (case l => k_is); (case c => k_is); (case k => k_is)
    have R__law_any_place : K1.Raw (L2.KOf KX) "_law_any_place" K1.sLAnyPlace := by
      dsimp only [L2.KOf]
      refine' K1.raw_mk ?a ?l ?c ?k
      (case a => k_is); (case l => k_is); (case c => k_is); (case k => k_is)
    have R__law_any_direction : K1.Raw (L2.KOf KX) "_law_any_direction" K1.sLAnyDirection := by
      dsimp only [L2.KOf]
      refine' K1.raw_mk ?a ?l ?c ?k
      (case a => k_is); (case l => k_is); (case c => k_is); (case k => k_is)
    have R__law_handed : K1.Raw (L2.KOf KX) "_law_handed" K1.sHanded := by
      dsimp only [L2.KOf]
      refine' K1.raw_mk ?a ?l ?c ?k
      (case a => k_is); (case l => k_is); (case c => k_is); (case k => k_is)
    have R__law_direction : K1.Raw (L2.KOf KX) "_law_direction" K1.sLDirection := by
      dsimp only [L2.KOf]
      refine' K1.raw_mk ?a ?l ?c ?k
      (case a => k_is); (case l => k_is); (case c => k_is); (case k => k_is)
    have R__law_is_there : K1.Raw (L2.KOf KX) "_law_is_there" K1.sLIsThere := by
      dsimp only [L2.KOf]
      refine' K1.raw_mk ?a ?l ?c ?k
      (case a => k_is); (case l => k_is); (case c => k_is); (case k => k_is)
    have R__law_is_corner : K1.Raw (L2.KOf KX) "_law_is_corner" K1.sLIsCorner := by
      dsimp only [L2.KOf]
      refine' K1.raw_mk ?a ?l ?c ?k
      (case a => k_is); (case l => k_is); (case c => k_is); (case k => k_is)
    have R_law : K1.Raw (L2.KOf KX) "law" K1.sLaw := by
      dsimp only [L2.KOf]
      refine' K1.raw_mk ?a ?l ?c ?k
      (case a => k_is); (case l => k_is); (case c => k_is); (case k => k_is)
    refine' K1.all_mk KX G hmg R_size R_back_row R_is_whole R_is_square R_cycle_from R_cycles R_corners R_turn_row R_rough_squares R_common_divisor R_walk R_need_place R_is_inside R_need_way R_walked R_unit_of R_in_units R_is_at_corner R_set_out R_ticks_to_side R_arrived R__law_cell R__law_whole R__law_row R__law_torus R__law_exchanged R__law_together R__law_free R__law_raw R__law_digits R__law_sheet R__law_pair R__law_part R__law_place R__law_any_part R__law_any_place R__law_any_direction R__law_handed R__law_direction R__law_is_there R__law_is_corner R_law ?c_FARTHEST ?m_CL ?f_CL ?m_CY ?f_CY ?m_CN ?f_CN ?e_CN ?e_CL ?e_CY ?m_CP ?t_CP ?i_CP ?q_whole ?z_len ?z_range ?z_list ?z_tuple ?z_isinstance ?z_int ?z_bool ?z_all ?z_set ?z_sorted ?z_enumerate ?z_abs ?z_max ?z_min
    (case c_FARTHEST => k_is); (case m_CL => k_is); (case f_CL => (refine' ⟨?_, ?_, ?_, ?_, ?_, ?_, ?_, ?_, ?_⟩ <;> k_is)); (case m_CY => k_is); (case f_CY => (refine' ⟨?_, ?_, ?_, ?_, ?_, ?_, ?_, ?_, ?_⟩ <;> k_is)); (case m_CN => k_is); (case f_CN => (refine' ⟨?_, ?_, ?_, ?_, ?_, ?_, ?_, ?_, ?_⟩ <;> k_is)); (case e_CN => (unfold L2.ExCls; k_exc)); (case e_CL => (unfold L2.ExCls; k_exc)); (case e_CY => (unfold L2.ExCls; k_exc)); (case m_CP => k_is); (case t_CP => (refine' ⟨?_, ?_, ?_, ?_, ?_, ?_, ?_, ?_, ?_, ?_⟩ <;> k_is)); (case i_CP => (refine' K1.pin_mk ?mk ?kc ?a ?i ?l ?c ?k ?t; (case mk => k_is); (case kc => k_is); (case a => k_is); (case i => k_is); (case l => k_is); (case c => k_is); (case k => k_is); (case t => k_is))); (case q_whole => (refine' K1.rawm_mk ?a ?i ?l ?c ?k; (case a => k_is); (case i => k_is); (case l => k_is); (case c => k_is); (case k => k_is))); (case z_len => k_is); (case z_range => k_is); (case z_list => k_is); (case z_tuple => k_is); (case z_isinstance => k_is); (case z_int => k_is); (case z_bool => k_is); (case z_all => k_is); (case z_set => k_is); (case z_sorted => k_is); (case z_enumerate => k_is); (case z_abs => k_is); (case z_max => k_is); (case z_min => k_is)
#print axioms PySem.Challenge.cw_squaresheet_k36_whole_in_parts_and_back_holds
