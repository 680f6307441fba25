import PyProof.Rows.All
import Wide.All
import OpenK.AllK
import Wide.FinOn
import Lean
import PyProof.EqAt
import PyProof.EqKinds
import PyProof.TupleCall
import PyProof.Draws
import PyProof.EnumMake
import PyProof.WalksEnum
import PyProof.TupleIter
import PyProof.NeData
import PyProof.WalksMore
import PyProof.Rows.StrJoin2
import PyProof.StrWalks
import PyProof.StrBlockH
import PyProof.StrLawsTight
import PyProof.Rows.StrItems
import OpenK.KOwn
import PyProof.NsDelKeeps
import PyProof.RulesAs
import PyProof.ExcAttrAll.ValueError
import PyProof.ZipIter
import PyProof.SumWalkG
import PyProof.CompUse
import PyProof.MinMaxWalk
import PyProof.WalkInts
import PyProof.StrLawsChain
import KE.KRevIter
import PyProof.SliceStr2
import PyProof.StrLawsIdx
import PyProof.StrOps2
import PyProof.EnumStmt
import PyProof.Rows.Range3
import PyProof.FitsBits
import PySem.Challenge.RW_squaresheet_k91_drawn_and_seen
set_option Elab.async false
set_option linter.all false
set_option maxRecDepth 100000
namespace L2
open PySem PySem.Spec PyProof.Rows

/-- a key: an int or a str -/
abbrev Key := Sum Int Str
def keyIs : Key → Value → Bool
  | .inl k, v => Value.isInt k v
  | .inr x, v => Value.isStrOf x v
def keyH (w : World) : Key → Int
  | .inl k => hashInt k
  | .inr x => hashStr w x
theorem keyIs_shape : ∀ {k : Key} {v : Value}, keyIs k v = true → (∃ i t, k = Sum.inl i ∧ v = Value.int i t) ∨ (∃ x t, k = Sum.inr x ∧ v = Value.str x t)
  | .inl i, v, h => by
    obtain ⟨t, e⟩ := Value.isInt_shape (k := i) (v := v) h
    exact .inl ⟨i, t, rfl, e⟩
  | .inr x, v, h => by
    obtain ⟨t, e⟩ := Value.isStrOf_shape (x := x) (v := v) h
    exact .inr ⟨x, t, rfl, e⟩
theorem keyIs_int (i : Int) (t : Tok) : keyIs (.inl i) (.int i t) = true := by simp [keyIs, Value.isInt]
theorem keyIs_str (x : Str) (t : Tok) : keyIs (.inr x) (.str x t) = true := by simp [keyIs, Value.isStrOf]
theorem key_ll (a b : Int) : decide ((Sum.inl a : Key) = Sum.inl b) = (a == b) := by
  by_cases e : a = b
  · subst e; simp
  · have h : ¬ (Sum.inl a : Key) = Sum.inl b := fun q => e (Sum.inl.inj q)
    rw [decide_eq_false h]
    exact (beq_eq_false_iff_ne.mpr e).symm
theorem key_rr (a b : Str) : decide ((Sum.inr a : Key) = Sum.inr b) = decide (a = b) := by
  by_cases e : a = b
  · subst e; simp
  · have h : ¬ (Sum.inr a : Key) = Sum.inr b := fun q => e (Sum.inr.inj q)
    rw [decide_eq_false h, decide_eq_false e]
theorem key_lr (a : Int) (b : Str) : decide ((Sum.inl a : Key) = Sum.inr b) = false := decide_eq_false (fun q => nomatch q)
theorem key_rl (a : Str) (b : Int) : decide ((Sum.inr a : Key) = Sum.inl b) = false := decide_eq_false (fun q => nomatch q)

def mixKind (prog : Program) (w : World) : PySem.KeyKind prog w Key where
  is := keyIs
  hash := keyH w
  inj := fun v a b ha hb => by
    rcases keyIs_shape ha with ⟨i, t, rfl, rfl⟩ | ⟨x, t, rfl, rfl⟩
    · rcases keyIs_shape hb with ⟨j, u, rfl, e⟩ | ⟨y, u, rfl, e⟩
      · injection e with e1 _; rw [e1]
      · exact nomatch e
    · rcases keyIs_shape hb with ⟨j, u, rfl, e⟩ | ⟨y, u, rfl, e⟩
      · exact nomatch e
      · injection e with e1 _; rw [e1]
  byValue := fun k v h => by
    rcases keyIs_shape h with ⟨i, t, rfl, rfl⟩ | ⟨x, t, rfl, rfl⟩ <;> rfl
  pyHash := fun hv h => by
    rcases keyIs_shape hv with ⟨i, t, rfl, rfl⟩ | ⟨x, t, rfl, rfl⟩
    · exact wpAny_pyHash_int h
    · exact wpAny_pyHash_str h
  eqBool := fun hu hv h => by
    rcases keyIs_shape hu with ⟨i, t, rfl, rfl⟩ | ⟨x, t, rfl, rfl⟩
    · rcases keyIs_shape hv with ⟨j, u, rfl, rfl⟩ | ⟨y, u, rfl, rfl⟩
      · rw [key_ll] at h; exact wpAny_eqBool_int h
      · rw [key_lr] at h; exact SeqAt.EqAt.int_str i t y u _ _ _ _ h
    · rcases keyIs_shape hv with ⟨j, u, rfl, rfl⟩ | ⟨y, u, rfl, rfl⟩
      · rw [key_rl] at h; exact SeqAt.EqAt.str_int x t j u _ _ _ _ h
      · rw [key_rr] at h; exact wpAny_eqBool_str h
  «strs» := fun k x t v h => by
    rcases keyIs_shape h with ⟨i, u, rfl, e⟩ | ⟨y, u, rfl, e⟩
    · exact nomatch e
    · injection e with e1 _
      subst e1
      cases v <;> rfl

theorem mixKind_int (prog : Program) (w : World) (i : Int) (t : Tok) : (mixKind prog w).is (.inl i) (.int i t) = true := keyIs_int i t
theorem mixKind_str (prog : Program) (w : World) (x : Str) (t : Tok) : (mixKind prog w).is (.inr x) (.str x t) = true := keyIs_str x t
end L2

namespace L2
open PySem PySem.Spec PyProof.Rows

/-- a value, without the heap -/
inductive V where
  | non | bl (b : Bool) | int (i : Int) | str (x : Str) | byt (b : Array UInt8) | flt (b : UInt64) | ref (a : Addr) | ty (n : String)
  deriving DecidableEq

def RelV : V → Value → Prop
  | .non, u => u = Value.none
  | .bl b, u => u = Value.bool b
  | .int i, u => ∃ t, u = Value.int i t
  | .str x, u => ∃ t, u = Value.str x t
  | .byt b, u => ∃ t, u = Value.bytes b t
  | .flt b, u => ∃ t, u = Value.float b t
  | .ref a, u => u = Value.ref a
  | .ty n, u => u = Value.type n

abbrev Vals : List V → List Value → Prop := Paired RelV
theorem Vals.length {xs : List V} {us : List Value} (r : Vals xs us) : xs.length = us.length := Paired.length r
theorem Vals.get : ∀ {xs : List V} {us : List Value} {i : Nat} {x : V}, Vals xs us → xs[i]? = some x → ∃ u, us[i]? = some u ∧ RelV x u
  | _, _, _, _, .nil, e => by simp at e
  | _, _, 0, _, .cons r _, e => by simp at e; subst e; exact ⟨_, rfl, r⟩
  | _, _, i + 1, x, .cons _ t, e => by
    obtain ⟨u, h1, h2⟩ := Vals.get (i := i) (x := x) t (by simpa using e)
    exact ⟨u, by simpa using h1, h2⟩
theorem Vals.set {x : V} {u : Value} (r : RelV x u) : ∀ {xs : List V} {us : List Value} (i : Nat), Vals xs us → Vals (xs.set i x) (us.set i u)
  | _, _, _, .nil => .nil
  | _, _, 0, .cons _ t => .cons r t
  | _, _, i + 1, .cons q t => .cons q (Vals.set r i t)
theorem Vals.append : ∀ {xs ys : List V} {us ws : List Value}, Vals xs us → Vals ys ws → Vals (xs ++ ys) (us ++ ws)
  | _, _, _, _, .nil, s => s
  | _, _, _, _, .cons r t, s => .cons r (Vals.append t s)
def RelO : Option V → Option Value → Prop
  | some v, some u => RelV v u
  | none, none => True
  | _, _ => False
def KV {κ : Type} : List (κ × V) → List (κ × Value) → Prop := Paired fun (p : κ × V) (q : κ × Value) => p.1 = q.1 ∧ RelV p.2 q.2

/-- a key of a dict (00_mix): an int or a text -/
def kV : Key → V
  | .inl i => .int i
  | .inr x => .str x

/-- what stands at a tracked address -/
inductive HO where
  /-- a list -/
  | lst (xs : List V)
  /-- a tuple (never changes) -/
  | tup (xs : List V)
  /-- a dict whose keys are ints and texts; one whose keys are tuples of ints and texts (the empty one is both) -/
  | dK (kvs : List (Key × V)) | dT (kvs : List (List Key × V))
  /-- a set of ints: its members, its size -/
  | set (S : Int → Bool) (n : Nat)
  /-- an instance of the class at C, its dict at dx, its attributes -/
  | ins (C dx : Addr) (fs : List (Str × V))
  /-- the dict of the instance at x -/
  | own (x : Addr)
  /-- the dict of an exception -/
  | xd (fs : List (Str × V))
  /-- a bound method, f of x -/
  | met (f x : Addr)
  /-- a range object lo, lo + 1, .. below hi -/
  | rng (lo hi : Int)
  /-- a thing that is known to the object (the script; a dict while a loop walks it): read, never written while it is so -/
  | frz (o : Obj) (u : HO)
  /-- a code object's table -/
  | tbl (ps : Array Value)
  /-- any other thing, by what is true of its one object (a def of one's own: SetO a S n := HO.ext fun h => ..) -/
  | ext (φ : Heap → Prop)

abbrev Hp := Addr → Option HO
def upd (H : Hp) (a : Addr) (o : HO) : Hp := fun b => if b = a then some o else H b
theorem upd_same {H : Hp} {a : Addr} {o : HO} : upd H a o a = some o := by unfold upd; rw [if_pos rfl]
theorem upd_ne {H : Hp} {a b : Addr} {o : HO} (h : b ≠ a) : upd H a o b = H b := by unfold upd; rw [if_neg h]
/-- two objects of different content stand apart -/
theorem ne_of {H : Hp} {a b : Addr} {o u : HO} (h : H a = some o) (h' : H b = some u) (d : o ≠ u) : a ≠ b := by
  intro e; subst e; rw [h] at h'; exact d (Option.some.inj h')
theorem ne_of_none {H : Hp} {a b : Addr} {o : HO} (h : H a = some o) (h' : H b = none) : a ≠ b := by
  intro e; subst e; rw [h] at h'; cases h'

section
variable (P : Program) (w : World)
/-- the object has no dict -/
def NoD (h : Heap) (a : Addr) : Prop := ∃ o, h.get? a = some o ∧ o.dict = none
def ObjOk (H : Hp) (h : Heap) (a : Addr) : HO → Prop
  | .lst xs => xs.length ≤ sizeLine ∧ ∃ (its : List Value) (n : Nat), Vals xs its ∧ h.get? a = some { cls := .type "list", data := .seq its.toArray n }
  | .tup xs => (xs.length ≤ sizeLine ∧ NoD h a) ∧ ∃ its : List Value, Vals xs its ∧ IsTup h a its.toArray
  | .dK kvs => kvs.length ≤ sizeLine ∧ (a == sysModules) = false ∧ ∃ vs, KV kvs vs ∧ h.DictOf (mixKind P w) a vs
  | .dT kvs => kvs.length ≤ sizeLine ∧ (a == sysModules) = false ∧ ∃ xs : List (List Key × Addr × Value),
      Paired (fun (p : List Key × V) (q : List Key × Addr × Value) => p.1 = q.1 ∧ H q.2.1 = some (.tup (p.1.map kV)) ∧ RelV p.2 q.2.2) kvs xs ∧
      ∃ o es ep, h.get? a = some o ∧ o.ExactDict ∧ o.data = .dict es ep ∧ es.toList = xs.map (entryOfKey (tupleKind (mixKind P w))) ∧ (xs.map (·.1)).Nodup
  | .set S n => h.SetOf (intKind P w) a S n
  | .ins C dx fs => H dx = some (.own a) ∧ fs.length ≤ 1000 ∧ dx ≠ a ∧ h.get? a = some (PySem.W.instObj C dx) ∧
      ∃ mA, h.Ns1 dx mA ∧ (∀ f, RelO (fs.lookup f) (mA f)) ∧ PySem.Within mA (fs.map (·.1))
  | .own _ => ∃ o, h.get? a = some o
  | .xd fs => ∃ mA, h.Ns1 a mA ∧ ∀ f, RelO (fs.lookup f) (mA f)
  | .rng lo hi => ∃ t u v, h.get? a = some { cls := .type "range", data := .fields #[.int lo t, .int hi u, .int 1 v] }
  | .frz o u => h.get? a = some o ∧ ObjOk H h a u
  | .tbl ps => h.get? a = some { cls := .none, data := .fields ps }
  | .met f x => h.get? a = some (PySem.W.methodObj (.ref f) (.ref x))
  | .ext φ => φ h ∧ (∃ o, h.get? a = some o) ∧ ∀ h1 h2 : Heap, φ h1 → (∀ o, h1.get? a = some o → h2.get? a = some o) → φ h2
/-- the abstract heap is held -/
def HOk (H : Hp) (h : Heap) : Prop := ∀ a o, H a = some o → ObjOk P w H h a o
end

section
variable {P : Program} {w : World} {H H' : Hp} {h h' : Heap} {a : Addr} {o : HO}
theorem ObjOk.lt (x : ObjOk P w H h a o) : a < h.objs.size := by
  cases o with
  | lst xs => obtain ⟨_, _, _, _, e⟩ := x; exact Heap.lt_size e
  | tup xs => obtain ⟨_, _, _, p⟩ := x; exact p.lt
  | dK kvs => obtain ⟨_, _, _, _, o, _, _, e, _⟩ := x; exact Heap.lt_size e
  | dT kvs => obtain ⟨_, _, _, _, o, _, _, e, _⟩ := x; exact Heap.lt_size e
  | set S n => obtain ⟨o, _, _, _, e, _⟩ := x; exact Heap.lt_size e
  | ins C dx fs => obtain ⟨_, _, _, e, _⟩ := x; exact Heap.lt_size e
  | own y => obtain ⟨_, e⟩ := x; exact Heap.lt_size e
  | xd fs => obtain ⟨_, ⟨_, _, _, e, _⟩, _⟩ := x; exact Heap.lt_size e
  | rng lo hi => obtain ⟨_, _, _, e⟩ := x; exact Heap.lt_size e
  | frz ob u => obtain ⟨e, _⟩ := x; exact Heap.lt_size e
  | tbl ps => exact Heap.lt_size (show h.get? a = some _ from x)
  | met f y => exact Heap.lt_size (show h.get? a = some _ from x)
  | ext φ => obtain ⟨_, ⟨_, e⟩, _⟩ := x; exact Heap.lt_size e
theorem Paired.mapP {α β : Type} {F G : α → β → Prop} : ∀ {l₁ : List α} {l₂ : List β}, Paired F l₁ l₂ → (∀ a b, F a b → G a b) → Paired G l₁ l₂
  | _, _, .nil, _ => .nil
  | _, _, .cons r t, f => .cons (f _ _ r) (Paired.mapP t f)
/-- what an object's description leans on: its own object, its own dict, the tuples -/
theorem ObjOk.stay (x : ObjOk P w H h a o) (k : ∀ b u, (b = a ∨ H b = some (.own a)) → h.get? b = some u → h'.get? b = some u)
    (ho : ∀ b, H b = some (.own a) → H' b = some (.own a)) (ht : ∀ b xs, H b = some (.tup xs) → H' b = some (.tup xs)) : ObjOk P w H' h' a o := by
  induction o with
  | lst xs => obtain ⟨z, its, n, r, e⟩ := x; exact ⟨z, its, n, r, k _ _ (.inl rfl) e⟩
  | tup xs => obtain ⟨z, its, r, ob, e, c⟩ := x; exact ⟨⟨z.1, z.2.imp fun _ q => ⟨k _ _ (.inl rfl) q.1, q.2⟩⟩, its, r, ob, k _ _ (.inl rfl) e, c⟩
  | dK kvs => obtain ⟨z, y, vs, r, ob, es, ep, e, c⟩ := x; exact ⟨z, y, vs, r, ob, es, ep, k _ _ (.inl rfl) e, c⟩
  | dT kvs =>
    obtain ⟨z, y, xs, r, ob, es, ep, e, c⟩ := x
    exact ⟨z, y, xs, Paired.mapP r fun p q z => ⟨z.1, ht _ _ z.2.1, z.2.2⟩, ob, es, ep, k _ _ (.inl rfl) e, c⟩
  | set S n => obtain ⟨ob, es, ep, t, e, c⟩ := x; exact ⟨ob, es, ep, t, k _ _ (.inl rfl) e, c⟩
  | ins C dx fs =>
    obtain ⟨d, z, ne, e, mA, ⟨od, es, ep, e2, c⟩, r⟩ := x
    exact ⟨ho _ d, z, ne, k _ _ (.inl rfl) e, mA, ⟨od, es, ep, k _ _ (.inr d) e2, c⟩, r⟩
  | own y => obtain ⟨ob, e⟩ := x; exact ⟨ob, k _ _ (.inl rfl) e⟩
  | xd fs => obtain ⟨mA, ⟨od, es, ep, e, c⟩, r⟩ := x; exact ⟨mA, ⟨od, es, ep, k _ _ (.inl rfl) e, c⟩, r⟩
  | rng lo hi => obtain ⟨t, u, v, e⟩ := x; exact ⟨t, u, v, k _ _ (.inl rfl) e⟩
  | frz ob u ih => obtain ⟨e, q⟩ := x; exact ⟨k _ _ (.inl rfl) e, ih q⟩
  | tbl ps =>
    have e : h.get? a = some { cls := .none, data := .fields ps } := x
    show h'.get? a = some { cls := .none, data := .fields ps }
    exact k a _ (.inl rfl) e
  | met f y =>
    have e : h.get? a = some (PySem.W.methodObj (.ref f) (.ref y)) := x
    show h'.get? a = some (PySem.W.methodObj (.ref f) (.ref y))
    exact k a _ (.inl rfl) e
  | ext φ => obtain ⟨p, ⟨o, e⟩, st⟩ := x; exact ⟨st _ _ p fun o q => k _ _ (.inl rfl) q, ⟨o, k _ _ (.inl rfl) e⟩, st⟩
theorem HOk.lt (x : HOk P w H h) (e : H a = some o) : a < h.objs.size := (x a o e).lt
theorem HOk.fresh (x : HOk P w H h) (e : h.objs.size ≤ a) : H a = none := by
  cases q : H a with
  | none => rfl
  | some u => exact absurd (Nat.lt_of_lt_of_le (x.lt q) e) (Nat.lt_irrefl _)
/-- every object of the heap is kept -/
theorem HOk.kept (x : HOk P w H h) (k : ∀ b u, h.get? b = some u → h'.get? b = some u) : HOk P w H h' := fun a o e =>
  (x a o e).stay (fun b u _ q => k b u q) (fun _ q => q) fun _ _ q => q
/-- a new object is laid and tracked -/
theorem HOk.laid (x : HOk P w H h) (k : ∀ b u, h.get? b = some u → h'.get? b = some u) (hp : h.objs.size ≤ a) (new : ObjOk P w (upd H a o) h' a o) : HOk P w (upd H a o) h' := fun b u e => by
  have hn := x.fresh hp
  by_cases hb : b = a
  · subst hb; rw [upd_same] at e; cases e; exact new
  · rw [upd_ne hb] at e
    exact (x b u e).stay (fun c v _ q => k c v q) (fun c q => by rw [upd_ne (ne_of_none q hn)]; exact q) fun c xs q => by rw [upd_ne (ne_of_none q hn)]; exact q
end

/-- what may be read as u: it is u, or a known u -/
def Rd (H : Hp) (a : Addr) (u : HO) : Prop := H a = some u ∨ ∃ o, H a = some (.frz o u)
theorem Rd.ok {P : Program} {w : World} {H : Hp} {h : Heap} {a : Addr} {u : HO} (r : Rd H a u) (x : HOk P w H h) : ObjOk P w H h a u := by
  rcases r with r | ⟨o, r⟩
  · exact x a u r
  · obtain ⟨_, q⟩ := x a _ r
    exact q
/-- what may be written -/
def Mut : Option HO → Prop
  | some (.lst _) => True
  | some (.dK _) => True
  | some (.dT _) => True
  | some (.set _ _) => True
  | some (.ins _ _ _) => True
  | some (.ext _) => True
  | _ => False
section
variable {P : Program} {w : World} {H : Hp} {h h' : Heap} {x e : Addr} {o' : HO}
/-- the object at e is changed: x itself, or the dict of the instance x -/
theorem HOk.write (ok : HOk P w H h) (mu : Mut (H x)) (he : e = x ∨ H e = some (.own x)) (k : ∀ b u, b ≠ e → h.get? b = some u → h'.get? b = some u) (heo : ∃ u, h'.get? e = some u)
    (new : ObjOk P w (upd H x o') h' x o') : HOk P w (upd H x o') h' := fun b u q => by
  have nown : ∀ c y, H c = some (.own y) → c ≠ x := fun c y r z => by subst z; rw [r] at mu; exact mu
  have ntup : ∀ c xs, H c = some (.tup xs) → c ≠ x := fun c xs r z => by subst z; rw [r] at mu; exact mu
  by_cases hb : b = x
  · subst hb; rw [upd_same] at q; cases q; exact new
  · rw [upd_ne hb] at q
    by_cases hbe : b = e
    · have q' : H b = some (.own x) := by
        rcases he with z | z
        · exact absurd (hbe.trans z) hb
        · rw [hbe]; exact z
      rw [q] at q'; cases q'
      obtain ⟨v, hv⟩ := heo
      exact ⟨v, by rw [hbe]; exact hv⟩
    · refine (ok b u q).stay (fun c v hc r => k c v ?_ r) (fun c r => by rw [upd_ne (nown c b r)]; exact r) fun c xs r => by rw [upd_ne (ntup c xs r)]; exact r
      rcases hc with rfl | hc
      · exact hbe
      · rintro rfl
        rcases he with z | z
        · exact nown c b hc z
        · rw [hc] at z; cases z; exact hb rfl
end

structure Un (fs ex : List Addr) (H H' : Hp) (h h' : Heap) : Prop where
  keep : ∀ b o, h.get? b = some o → H b = none → b ∉ fs → b ∉ ex → h'.get? b = some o
  slot : ∀ b o, h.get? b = some o → H b = none → b ∈ fs → b ∉ ex → ∃ sl, h'.get? b = some { o with slots := sl }
  free : ∀ b o, h.get? b = some o → H b = none → b ∉ ex → H' b = none
  there : ∀ b o, h.get? b = some o → b ∉ ex → ∃ o', h'.get? b = some o'
  tups : ∀ b xs, H b = some (.tup xs) → H' b = some (.tup xs)
  frzs : ∀ b o u, H b = some (.frz o u) → H' b = some (.frz o u)
  tbls : ∀ b ps, H b = some (.tbl ps) → ∃ more, H' b = some (.tbl (ps ++ more))
section
variable {fs fs' ex ex' : List Addr} {H H1 H2 : Hp} {h h1 h2 h' : Heap} {a x e : Addr} {o : HO}
theorem Un.any (u : Un fs ex H H1 h h1) {b : Addr} {ob : Obj} (q : h.get? b = some ob) (n : H b = none) (hx : b ∉ ex) : ∃ sl, h1.get? b = some { ob with slots := sl } := by
  by_cases hb : b ∈ fs
  · exact u.slot b ob q n hb hx
  · exact ⟨ob.slots, u.keep b ob q n hb hx⟩
theorem Un.kept (k : ∀ b u, h.get? b = some u → h'.get? b = some u) : Un fs ex H H h h' :=
  ⟨fun b ob q _ _ _ => k b ob q, fun b ob q _ _ _ => ⟨ob.slots, k b ob q⟩, fun _ _ _ n _ => n, fun b ob q _ => ⟨ob, k b ob q⟩, fun _ _ q => q, fun _ _ _ q => q, fun _ ps q => ⟨#[], by rw [q]; simp⟩⟩
theorem Un.refl : Un fs ex H H h h := Un.kept fun _ _ q => q
theorem Un.laid (k : ∀ b u, h.get? b = some u → h'.get? b = some u) (hp : h.objs.size ≤ a) (hn : H a = none) : Un fs ex H (upd H a o) h h' where
  keep := fun b u q _ _ _ => k b u q
  slot := fun b u q _ _ _ => ⟨u.slots, k b u q⟩
  free := fun b u q n _ => by rw [upd_ne (Nat.ne_of_lt (Nat.lt_of_lt_of_le (Heap.lt_size q) hp))]; exact n
  there := fun b u q _ => ⟨u, k b u q⟩
  tups := fun b xs q => by rw [upd_ne (ne_of_none q hn)]; exact q
  frzs := fun b u xs q => by rw [upd_ne (ne_of_none q hn)]; exact q
  tbls := fun b ps q => ⟨#[], by rw [upd_ne (ne_of_none q hn), q]; simp⟩
theorem Un.write (mu : Mut (H x)) (he : e = x ∨ H e = some (.own x)) (k : ∀ b u, b ≠ e → h.get? b = some u → h'.get? b = some u) (heo : ∃ u, h'.get? e = some u) : Un fs ex H (upd H x o) h h' := by
  have hx : ∀ b, H b = none → b ≠ x := fun b n z => by subst z; rw [n] at mu; exact mu
  have hb : ∀ b, H b = none → b ≠ e := fun b n z => by
    subst z
    rcases he with r | r
    · exact hx b n r
    · rw [n] at r; cases r
  have hm : ∀ b u, H b = some u → ¬ Mut (some u) → b ≠ x := fun b u q nm z => by subst z; rw [q] at mu; exact nm mu
  refine ⟨fun b u q n _ _ => k b u (hb b n) q, fun b u q n _ _ => ⟨u.slots, k b u (hb b n) q⟩, fun b u q n _ => by rw [upd_ne (hx b n)]; exact n, fun b u q _ => ?_,
    fun b xs q => by rw [upd_ne (hm b _ q fun z => z)]; exact q, fun b u xs q => by rw [upd_ne (hm b _ q fun z => z)]; exact q, fun b ps q => ⟨#[], by rw [upd_ne (hm b _ q fun z => z), q]; simp⟩⟩
  by_cases hbe : b = e
  · subst hbe; exact heo
  · exact ⟨u, k b u hbe q⟩
end

def trk (h : Heap) (H : Hp) : List Addr := (List.range h.objs.size).filter fun a => (H a).isSome
def hidT (h : Heap) (H : Hp) : Heap := PySem.W.hideAll h (trk h H)
theorem hidT_size (h : Heap) (H : Hp) : (hidT h H).objs.size = h.objs.size := PySem.W.hideAll_size _ _
theorem hidT_get {h : Heap} {H : Hp} {b : Addr} {o : Obj} (e : h.get? b = some o) (n : H b = none) : (hidT h H).get? b = some o :=
  PySem.W.hideAll_get _ e fun hm => by
    have q : (H b).isSome = true := (List.mem_filter.mp hm).2
    rw [n] at q; simp at q
theorem of_hidT {h : Heap} {H : Hp} {b : Addr} {o : Obj} (e : (hidT h H).get? b = some o) : h.get? b = some o ∧ H b = none := by
  have e' : h.get? b = some o := PySem.W.of_hideAll (trk h H) e
  refine ⟨e', ?_⟩
  cases q : H b with
  | none => rfl
  | some x =>
    have hm : b ∈ trk h H := List.mem_filter.mpr ⟨List.mem_range.mpr (Heap.lt_size e'), by simp [q]⟩
    have z : (hidT h H).get? b = none := PySem.W.hideAll_none (trk h H) hm
    rw [z] at e; cases e

end L2

namespace L2
open PySem PySem.Spec PyProof.Rows

/-- the module's facts, over the base: the heap at the law's entry without what is tracked there -/
structure Mod (K : PySem.W.Frag) (mg : Str → Option Value) (base : Heap) : Prop where
  kin : K.In base
  glob : base.Ns mainGlobals mg
  blt : ∃ mb, base.Ns builtinsNs mb ∧ ∀ x : Str, x ≠ "__name__" → mb x = bootBuiltins x
  nolimit : base.NoLimit

/-- the context: a def's body (or a comprehension's block) running. base: fixed through the whole law; s₀, H₀: the entry; outer: the frames whose slots others may change (a def's callers); stack: all frames that run;
   ex: iterators that were made ahead of the entry and are walked here (a comprehension's); fn: the names whose cells were made at the entry (a def: all; a comprehension's block: its own); calm: not within an except suite; pn: pins that every state bears; xe: what is wanted of an exception that leaves the code -/
structure Cx where
  prog : Program
  w : World
  K : PySem.W.Frag
  mg : Str → Option Value
  base : Heap
  A : Around
  N : List Str
  s₀ : Shared
  H₀ : Hp
  env : Env
  outer : List Env
  stack : List Env
  ex : List Addr
  fn : Str → Bool
  calm : Bool
  pn : List (Addr × Obj)
  xe : Value → Shared → Prop
/-- the callers' frames -/
def frs (l : List Env) : List Addr := l.filterMap (·.frame)
abbrev Cx.fs (X : Cx) : List Addr := frs X.outer

def Vis (sc : Scope) (x : Str) : Prop := sc.names.lookup x = some .local ∨ sc.names.lookup x = some .cell ∨ sc.names.lookup x = some .free
def Loc (sc : Scope) (x : Str) : Prop := sc.names.lookup x = some .local ∨ sc.names.lookup x = some .cell
def Look (env : Env) (h : Heap) (m : Str → Option Value) (x : Str) (u : Value) : Prop :=
  (env.kindOf x = some .local ∧ m x = some u) ∨ ((env.kindOf x = some .cell ∨ env.kindOf x = some .free) ∧ ∃ c, env.cells.lookup x = some c ∧ h.IsCell c (some u))

structure Cx.Ok (X : Cx) : Prop where
  mod : Mod X.K X.mg X.base
  kind : X.env.scope.kind = .function
  glob : X.env.globals = mainGlobals
  blt : X.env.builtins = builtinsNs
  above : X.s₀.heap.objs.size ≤ X.env.locals
  inj : ∀ x y c, X.env.cells.lookup x = some c → X.env.cells.lookup y = some c → x = y
  has : ∀ x, (X.env.kindOf x = some .cell ∨ X.env.kindOf x = some .free) → ∃ c, X.env.cells.lookup x = some c
  cab : ∀ x c, X.fn x = true → X.env.cells.lookup x = some c → X.s₀.heap.objs.size ≤ c
  hd : X.calm = true → X.A.handled = none
  frames : X.A.frames = some X.stack
  stk : X.stack = X.outer ∨ (X.stack = X.env :: X.outer ∧ X.env.frame = some X.env.locals)
  exf : ∀ b ∈ X.ex, b ≠ X.env.locals ∧ ∀ x c, X.env.cells.lookup x = some c → c ≠ b
  bs : ∀ b o, X.base.get? b = some o → X.s₀.heap.get? b = some o ∧ X.H₀ b = none
  bsz : X.base.objs.size ≤ X.s₀.heap.objs.size
  noex : ∀ b o, X.base.get? b = some o → b ∉ X.ex
  exfs : ∀ b ∈ X.ex, b ∉ X.fs
  funs : X.s₀.heap.FunFrames X.base X.outer
  frf : ∀ b ∈ X.fs, X.H₀ b = none

structure Inv (X : Cx) (pins : List (Addr × Obj)) (σ : List (Option V)) (H : Hp) (s : Shared) : Prop where
  ok : X.Ok
  os : s.os = X.s₀.os
  bare : AllBare s.gens
  base : Un X.fs X.ex X.H₀ H X.s₀.heap s.heap
  loc : ∃ m, s.heap.Ns X.env.locals m ∧ ∀ (i : Nat) (x : Str) (v : V), X.N[i]? = some x → σ[i]? = some (some v) → Vis X.env.scope x → ∃ u, RelV v u ∧ Look X.env s.heap m x u
  cell : ∀ x c, X.env.cells.lookup x = some c → ∃ v, s.heap.IsCell c v
  free : H X.env.locals = none
  freeC : ∀ x c, X.env.cells.lookup x = some c → H c = none
  pin : ∀ p ∈ X.pn ++ pins, s.heap.get? p.1 = some p.2 ∧ H p.1 = none ∧ p.1 ≠ X.env.locals ∧ p.1 ∉ X.fs ∧ ∀ v, p.2.data ≠ .cell v
  hok : HOk X.prog X.w H s.heap
  len : σ.length = X.N.length

section
variable {X : Cx} {pins : List (Addr × Obj)} {σ : List (Option V)} {H H' : Hp} {s : Shared} {h' : Heap}

theorem Cx.Ok.nofr (ok : X.Ok) {b : Addr} {o : Obj} (e : X.base.get? b = some o) : b ∉ X.fs := fun hb => by
  have := (ok.funs.mem hb).1
  rw [e] at this; cases this
theorem Inv.bs (I : Inv X pins σ H s) : ∀ b o, X.base.get? b = some o → s.heap.get? b = some o ∧ H b = none := fun b o e =>
  ⟨I.base.keep b o (I.ok.bs b o e).1 (I.ok.bs b o e).2 (I.ok.nofr e) (I.ok.noex b o e), I.base.free b o (I.ok.bs b o e).1 (I.ok.bs b o e).2 (I.ok.noex b o e)⟩
theorem Inv.bk (I : Inv X pins σ H s) : ∀ b o, X.base.get? b = some o → s.heap.get? b = some o := fun b o e => (I.bs b o e).1
theorem Inv.mod (I : Inv X pins σ H s) : Mod X.K X.mg X.base := I.ok.mod
theorem Inv.kIn (I : Inv X pins σ H s) : X.K.In s.heap := I.ok.mod.kin.keeps I.bk
theorem Inv.lt (I : Inv X pins σ H s) : X.env.locals < s.heap.objs.size := let ⟨_, hn, _⟩ := I.loc; hn.lt
theorem Inv.sz (I : Inv X pins σ H s) : X.s₀.heap.objs.size ≤ s.heap.objs.size := Nat.le_trans I.ok.above (Nat.le_of_lt I.lt)
theorem Inv.nofs (I : Inv X pins σ H s) {a : Addr} (h : s.heap.objs.size ≤ a) : a ∉ X.fs := fun hb => by
  obtain ⟨_, o, ho, _⟩ := I.ok.funs.mem hb
  exact absurd (Nat.lt_of_lt_of_le (Heap.lt_size ho) (Nat.le_trans I.sz h)) (Nat.lt_irrefl _)
theorem Inv.cne (I : Inv X pins σ H s) : ∀ x c, X.env.cells.lookup x = some c → c ≠ X.env.locals := fun x c e z => by
  obtain ⟨v, o, ho, hd⟩ := I.cell x c e
  obtain ⟨m, ⟨o', es, ep, ho', hd', _⟩, _⟩ := I.loc
  rw [z, ho'] at ho; cases ho; rw [hd'] at hd; cases hd
theorem Inv.funs (I : Inv X pins σ H s) : s.heap.FunFrames X.base X.outer := by
  have all : ∀ (l : List Env), (∀ b ∈ frs l, b ∈ X.fs) → X.s₀.heap.FunFrames X.base l → s.heap.FunFrames X.base l := by
    intro l
    induction l with
    | nil => intro _ _; trivial
    | cons env r ih =>
      intro hs hl
      obtain ⟨hk, ⟨L, o, hf, hn, ho, hd⟩, hr⟩ := hl
      have hL : L ∈ X.fs := hs L (by unfold frs; rw [List.filterMap_cons, hf]; exact List.mem_cons_self)
      obtain ⟨sl, e⟩ := I.base.slot L o ho (I.ok.frf L hL) hL fun z => I.ok.exfs L z hL
      exact ⟨hk, ⟨L, _, hf, hn, e, hd⟩, ih (fun b hb => hs b (by unfold frs; rw [List.filterMap_cons, hf]; exact List.mem_cons_of_mem _ hb)) hr⟩
  exact all X.outer (fun _ hb => hb) I.ok.funs

/-- the frames that run, for a call -/
theorem Inv.stack (I : Inv X pins σ H s) : s.heap.FunFrames X.base X.stack := by
  rcases I.ok.stk with e | ⟨e, hf⟩
  · rw [e]; exact I.funs
  · rw [e]
    obtain ⟨m, hn, _⟩ := I.loc
    refine .cons (by rw [I.ok.kind]; decide) hf hn ?_ I.funs
    exact Heap.get?_none_of_le (Nat.le_trans I.ok.bsz I.ok.above)
theorem Inv.stkSub (I : Inv X pins σ H s) : ∀ b ∈ frs X.stack, b ∈ X.env.locals :: X.fs := fun b hb => by
  rcases I.ok.stk with e | ⟨e, hf⟩
  · rw [e] at hb; exact List.mem_cons_of_mem _ hb
  · rw [e] at hb
    unfold frs at hb
    rw [List.filterMap_cons, hf] at hb
    exact hb
theorem Inv.stkFree (I : Inv X pins σ H s) : ∀ b ∈ frs X.stack, H b = none := fun b hb => by
  rcases List.mem_cons.mp (I.stkSub b hb) with e | hb
  · rw [e]; exact I.free
  · obtain ⟨_, o, ho, _⟩ := I.ok.funs.mem hb
    exact I.base.free b o ho (I.ok.frf b hb) fun z => I.ok.exfs b z hb

/-- THE STEP: the untracked objects but the frame and the records at ch are kept (the callers' frames up to slots), the frame's map is kept, the new abstract heap is held -/
theorem Inv.step {g' : Array GenState} {t' : Nat} {d' : Drawn} {ch : List Addr} (I : Inv X pins σ H s)
    (hch : ∀ b ∈ ch, (b ∈ X.ex ∨ X.s₀.heap.objs.size ≤ b) ∧ b ≠ X.env.locals ∧ (∀ x c, X.env.cells.lookup x = some c → c ≠ b) ∧ ∀ p ∈ X.pn ++ pins, p.1 ≠ b)
    (keep : ∀ b o, b ≠ X.env.locals → b ∉ X.fs → b ∉ ch → s.heap.get? b = some o → H b = none → h'.get? b = some o)
    (slot : ∀ b o, b ≠ X.env.locals → b ∈ X.fs → b ∉ ch → s.heap.get? b = some o → H b = none → ∃ sl, h'.get? b = some { o with slots := sl }) (free : ∀ b o, b ∉ ch → s.heap.get? b = some o → H b = none → H' b = none)
    (there : ∀ b o, b ∉ ch → s.heap.get? b = some o → ∃ o', h'.get? b = some o')
    (tups : ∀ b xs, H b = some (.tup xs) → H' b = some (.tup xs)) (frzs : ∀ b o u, H b = some (.frz o u) → H' b = some (.frz o u)) (tbls : ∀ b ps, H b = some (.tbl ps) → ∃ more, H' b = some (.tbl (ps ++ more)))
    (ns : ∀ m, s.heap.Ns X.env.locals m → h'.Ns X.env.locals m) (hok : HOk X.prog X.w H' h') (hg : AllBare g') :
    Inv X pins σ H' { s with heap := h', gens := g', drawn := d', toks := t' } := by
  have neL : ∀ b o, X.s₀.heap.get? b = some o → b ≠ X.env.locals := fun b o e => Nat.ne_of_lt (Nat.lt_of_lt_of_le (Heap.lt_size e) I.ok.above)
  have neC : ∀ b o, X.s₀.heap.get? b = some o → b ∉ X.ex → b ∉ ch := fun b o e hx hb => by
    rcases (hch b hb).1 with z | z
    · exact hx z
    · exact absurd (Nat.lt_of_lt_of_le (Heap.lt_size e) z) (Nat.lt_irrefl _)
  have cellK : ∀ x c, X.env.cells.lookup x = some c → ∀ v, s.heap.IsCell c v → h'.IsCell c v := fun x c e v ⟨o, ho, hd⟩ => by
    have nch : c ∉ ch := fun z => (hch c z).2.2.1 x c e rfl
    by_cases hc : c ∈ X.fs
    · obtain ⟨sl, q⟩ := slot c o (I.cne x c e) hc nch ho (I.freeC x c e)
      exact ⟨_, q, hd⟩
    · exact ⟨o, keep c o (I.cne x c e) hc nch ho (I.freeC x c e), hd⟩
  refine ⟨I.ok, I.os, hg, ⟨fun b o e n hb hx => ?_, fun b o e n hb hx => ?_, fun b o e n hx => ?_, fun b o e hx => ?_, fun b xs e => tups b xs (I.base.tups b xs e), fun b o xs e => frzs b o xs (I.base.frzs b o xs e), fun b ps e => ?_⟩, ?_, fun x c e => ?_, ?_, fun x c e => ?_, fun p hp => ?_, hok, I.len⟩
  · exact keep b o (neL b o e) hb (neC b o e hx) (I.base.keep b o e n hb hx) (I.base.free b o e n hx)
  · obtain ⟨sl, e1⟩ := I.base.slot b o e n hb hx
    obtain ⟨sl', e2⟩ := slot b _ (neL b o e) hb (neC b o e hx) e1 (I.base.free b o e n hx)
    exact ⟨sl', e2⟩
  · obtain ⟨o', e1⟩ := I.base.there b o e hx
    exact free b o' (neC b o e hx) e1 (I.base.free b o e n hx)
  · obtain ⟨o', e1⟩ := I.base.there b o e hx
    exact there b o' (neC b o e hx) e1
  · obtain ⟨m1, e1⟩ := I.base.tbls b ps e
    obtain ⟨m2, e2⟩ := tbls b _ e1
    exact ⟨m1 ++ m2, by rw [e2, Array.append_assoc]⟩
  · obtain ⟨m, hn, hl⟩ := I.loc
    refine ⟨m, ns m hn, fun i x v e1 e2 e3 => ?_⟩
    obtain ⟨u, r, l⟩ := hl i x v e1 e2 e3
    refine ⟨u, r, ?_⟩
    rcases l with l | ⟨k, c, e, z⟩
    · exact .inl l
    · exact .inr ⟨k, c, e, cellK x c e _ z⟩
  · obtain ⟨v, z⟩ := I.cell x c e
    exact ⟨v, cellK x c e v z⟩
  · obtain ⟨m, ⟨o, _, _, ho, _⟩, _⟩ := I.loc
    exact free _ o (fun z => (hch _ z).2.1 rfl) ho I.free
  · obtain ⟨v, o, ho, hd⟩ := I.cell x c e
    exact free c o (fun z => (hch c z).2.2.1 x c e rfl) ho (I.freeC x c e)
  · obtain ⟨e, n, ne, nf, d⟩ := I.pin p hp
    have nch : p.1 ∉ ch := fun z => (hch p.1 z).2.2.2 p hp rfl
    exact ⟨keep p.1 p.2 ne nf nch e n, free p.1 p.2 nch e n, ne, nf, d⟩
/-- .. where the frame's own object is kept too -/
theorem Inv.un {t' : Nat} (I : Inv X pins σ H s) (u : Un X.fs [] H H' s.heap h') (hok : HOk X.prog X.w H' h') : Inv X pins σ H' { s with heap := h', toks := t' } := by
  obtain ⟨m, ⟨o, es, ep, ho, r⟩, _⟩ := id I.loc
  obtain ⟨sl, hL⟩ := u.any ho I.free (by simp)
  exact I.step (g' := s.gens) (d' := s.drawn) (ch := []) (fun _ z => nomatch z) (fun b o _ hb _ e n => u.keep b o e n hb (by simp)) (fun b o _ hb _ e n => u.slot b o e n hb (by simp)) (fun b o _ e n => u.free b o e n (by simp)) (fun b o _ e => u.there b o e (by simp)) u.tups u.frzs u.tbls (fun m' hm => by
    obtain ⟨o', es', ep', ho', r'⟩ := hm
    rw [ho] at ho'; cases ho'
    exact ⟨_, es', ep', hL, r'⟩) hok I.bare
/-- behind a call (or a comprehension's block): the slots of this frame may have changed too, the records at ch may have turned -/
theorem Inv.call {g' : Array GenState} {t' : Nat} {d' : Drawn} {ch : List Addr} (I : Inv X pins σ H s) (u : Un (frs X.stack) ch H H' s.heap h') (hok : HOk X.prog X.w H' h') (hg : AllBare g')
    (hch : ∀ b ∈ ch, (b ∈ X.ex ∨ X.s₀.heap.objs.size ≤ b) ∧ b ≠ X.env.locals ∧ (∀ x c, X.env.cells.lookup x = some c → c ≠ b) ∧ ∀ p ∈ X.pn ++ pins, p.1 ≠ b) :
    Inv X pins σ H' { s with heap := h', gens := g', drawn := d', toks := t' } := by
  obtain ⟨m, ⟨o, es, ep, ho, r⟩, _⟩ := id I.loc
  obtain ⟨sl, hL⟩ := u.any ho I.free fun z => (hch _ z).2.1 rfl
  exact I.step (ch := ch) hch (fun b o hL hb hc e n => u.keep b o e n (fun z => (List.mem_cons.mp (I.stkSub b z)).elim hL hb) hc) (fun b o _ _ hc e n => u.any e n hc) (fun b o hc e n => u.free b o e n hc) (fun b o hc e => u.there b o e hc) u.tups u.frzs u.tbls (fun m' hm => by
    obtain ⟨o', es', ep', ho', r'⟩ := hm
    rw [ho] at ho'; cases ho'
    exact ⟨_, es', ep', hL, r'⟩) hok hg
/-- an untracked record of ours (an iterator) has turned -/
theorem Inv.turned {t' : Nat} {it : Addr} (I : Inv X pins σ H s) (k : ∀ b o, b ≠ it → s.heap.get? b = some o → h'.get? b = some o) (hn : H it = none) (hL : it ≠ X.env.locals)
    (h1 : it ∈ X.ex ∨ X.s₀.heap.objs.size ≤ it) (h2 : ∀ x c, X.env.cells.lookup x = some c → c ≠ it) (h3 : ∀ p ∈ X.pn ++ pins, p.1 ≠ it) : Inv X pins σ H { s with heap := h', toks := t' } := by
  have nit : ∀ b u, H b = some u → b ≠ it := fun b u e z => by rw [z, hn] at e; cases e
  refine I.step (g' := s.gens) (d' := s.drawn) (ch := [it]) (fun b hb => ?_) (fun b o _ _ hc e _ => k b o (fun z => hc (by simp [z])) e) (fun b o _ _ hc e _ => ⟨o.slots, k b o (fun z => hc (by simp [z])) e⟩) (fun _ _ _ _ n => n)
    (fun b o hc e => ⟨o, k b o (fun z => hc (by simp [z])) e⟩) (fun _ _ e => e) (fun _ _ _ e => e) (fun b ps e => ⟨#[], by rw [e]; simp⟩) (fun m hm => ?_) (fun b u e => ?_) I.bare
  · have e : b = it := by simpa using hb
    subst e
    exact ⟨h1, hL, h2, h3⟩
  · obtain ⟨o, es, ep, ho, r⟩ := hm
    exact ⟨o, es, ep, k _ o (Ne.symm hL) ho, r⟩
  · refine (I.hok b u e).stay (fun c v hc q => k c v ?_ q) (fun _ q => q) fun _ _ q => q
    rcases hc with z | z
    · rw [z]; exact nit b u e
    · exact nit c _ z
theorem Inv.tok (I : Inv X pins σ H s) (t : Nat) : Inv X pins σ H { s with toks := t } := I.un (h' := s.heap) (t' := t) Un.refl I.hok
/-- all objects kept -/
theorem Inv.kept {t' : Nat} (I : Inv X pins σ H s) (k : ∀ b u, s.heap.get? b = some u → h'.get? b = some u) : Inv X pins σ H { s with heap := h', toks := t' } := I.un (Un.kept k) (I.hok.kept k)
/-- a new object laid and tracked -/
theorem Inv.laid {a : Addr} {o : HO} {t' : Nat} (I : Inv X pins σ H s) (k : ∀ b u, s.heap.get? b = some u → h'.get? b = some u) (hp : s.heap.objs.size ≤ a) (new : ObjOk X.prog X.w (upd H a o) h' a o) :
    Inv X pins σ (upd H a o) { s with heap := h', toks := t' } := I.un (Un.laid k hp (I.hok.fresh hp)) (I.hok.laid k hp new)
/-- an object written -/
theorem Inv.write {x e : Addr} {o : HO} {t' : Nat} (I : Inv X pins σ H s) (mu : Mut (H x)) (he : e = x ∨ H e = some (.own x)) (k : ∀ b u, b ≠ e → s.heap.get? b = some u → h'.get? b = some u) (heo : ∃ u, h'.get? e = some u)
    (new : ObjOk X.prog X.w (upd H x o) h' x o) : Inv X pins σ (upd H x o) { s with heap := h', toks := t' } := I.un (Un.write mu he k heo) (I.hok.write mu he k heo new)
theorem Inv.pins_of {pins' : List (Addr × Obj)} (I : Inv X pins σ H s) (h : ∀ p ∈ pins', s.heap.get? p.1 = some p.2 ∧ H p.1 = none ∧ p.1 ≠ X.env.locals ∧ p.1 ∉ X.fs ∧ ∀ v, p.2.data ≠ .cell v) : Inv X pins' σ H s :=
  ⟨I.ok, I.os, I.bare, I.base, I.loc, I.cell, I.free, I.freeC, fun p hp => (List.mem_append.mp hp).elim (fun z => I.pin p (List.mem_append_left _ z)) (h p), I.hok, I.len⟩

theorem nodup_ix {N : List Str} (hN : N.Nodup) {i j : Nat} {x : Str} (a : N[i]? = some x) (b : N[j]? = some x) : i = j := by
  obtain ⟨h1, e1⟩ := List.getElem?_eq_some_iff.mp a
  obtain ⟨h2, e2⟩ := List.getElem?_eq_some_iff.mp b
  exact (List.getElem_inj hN).mp (e1.trans e2.symm)

/-- a name is stored; what changed -/
theorem store_ok2 {M : Model} {A : Around} {E : Value → Shared → Prop} {i : Nat} {x : Str} {v : V} {u : Value} {Q : Unit → Shared → Prop} (I : Inv X pins σ H s) (hN : X.N.Nodup) (hi : X.N[i]? = some x) (hx : Loc X.env.scope x) (r : RelV v u)
    (h : ∀ s', Inv X pins (σ.set i (some v)) H s' → (∃ a, Heap.SameBut a s.heap s'.heap ∧ (a = X.env.locals ∨ X.env.cells.lookup x = some a)) → Q () s') (hf : X.fn x = true ∨ X.env.scope.names.lookup x = some .local := by first | exact .inl rfl | exact .inr rfl | assumption) : wpAny M A (storeName X.env x u) Q E s := by
  obtain ⟨m, hn, hl⟩ := id I.loc
  have hcls : (X.env.scope.kind == .class || (X.env.scope.kind == .module && X.env.locals != X.env.globals)) = false := by rw [I.ok.kind]; rfl
  have hiσ : i < σ.length := by rw [I.len]; exact (List.getElem?_eq_some_iff.mp hi).1
  have cne := I.cne
  have tracked : ∀ {a : Addr} {h' : Heap}, (∃ o, s.heap.get? a = some o ∧ H a = none) → Heap.SameBut a s.heap h' → HOk X.prog X.w H h' := fun {a h'} ha hs b ob e => by
    obtain ⟨_, _, hfree⟩ := ha
    refine (I.hok b ob e).stay (fun c w' hc q => (hs.2 c ?_).trans q) (fun _ q => q) fun _ _ q => q
    rintro rfl
    rcases hc with rfl | hc
    · rw [hfree] at e; cases e
    · rw [hfree] at hc; cases hc
  rcases hx with hk | hk
  · refine wpAny_storeName_local hk hn (fun h' hn' hs => ?_) hcls
    obtain ⟨oL, _, _, hoL, _⟩ := id hn
    refine h _ ⟨I.ok, I.os, I.bare, ⟨fun b o e n hb hx => ?_, fun b o e n hb hx => ?_, I.base.free, fun b o e hx => ?_, I.base.tups, I.base.frzs, I.base.tbls⟩, ⟨_, hn', fun j y v' e1 e2 e3 => ?_⟩, fun y c e => ?_, I.free, I.freeC, fun p hp => ?_, tracked ⟨oL, hoL, I.free⟩ hs, by simpa using I.len⟩ ⟨_, hs, .inl rfl⟩
    · exact (hs.2 b (Nat.ne_of_lt (Nat.lt_of_lt_of_le (Heap.lt_size e) I.ok.above))).trans (I.base.keep b o e n hb hx)
    · obtain ⟨sl, e1⟩ := I.base.slot b o e n hb hx
      exact ⟨sl, (hs.2 b (Nat.ne_of_lt (Nat.lt_of_lt_of_le (Heap.lt_size e) I.ok.above))).trans e1⟩
    · obtain ⟨o', e1⟩ := I.base.there b o e hx
      exact ⟨o', (hs.2 b (Nat.ne_of_lt (Nat.lt_of_lt_of_le (Heap.lt_size e) I.ok.above))).trans e1⟩
    · by_cases hj : j = i
      · subst hj
        rw [hi] at e1; cases e1
        rw [List.getElem?_set_self hiσ] at e2
        cases e2
        exact ⟨u, r, .inl ⟨hk, by simp⟩⟩
      · rw [List.getElem?_set_ne (Ne.symm hj)] at e2
        obtain ⟨u', r', q⟩ := hl j y v' e1 e2 e3
        refine ⟨u', r', ?_⟩
        rcases q with ⟨k, e⟩ | ⟨k, c, e, z⟩
        · refine .inl ⟨k, ?_⟩
          have : y ≠ x := fun e => hj (nodup_ix hN e1 (e ▸ hi))
          simp [this, e]
        · exact .inr ⟨k, c, e, z.sameBut hs (cne y c e)⟩
    · obtain ⟨w', z⟩ := I.cell y c e
      exact ⟨w', z.sameBut hs (cne y c e)⟩
    · obtain ⟨e, n, ne, nf, d⟩ := I.pin p hp
      exact ⟨(hs.2 p.1 ne).trans e, n, ne, nf, d⟩
  · have hfn : X.fn x = true := by
      rcases hf with z | z
      · exact z
      · rw [z] at hk; cases hk
    obtain ⟨c, hc⟩ := I.ok.has x (.inl hk)
    obtain ⟨w', z⟩ := I.cell x c hc
    refine wpAny_storeName_cell I.ok.kind hk hc z (fun h' hc' hs => ?_)
    obtain ⟨oc, hoc, hocd⟩ := id z
    refine h { s with heap := h' } ⟨I.ok, I.os, I.bare, ⟨fun b o e n hb hx => ?_, fun b o e n hb hx => ?_, I.base.free, fun b o e hx => ?_, I.base.tups, I.base.frzs, I.base.tbls⟩, ⟨m, hn.sameBut hs (Ne.symm (cne x c hc)), fun j y v' e1 e2 e3 => ?_⟩, fun y c' e => ?_, I.free, I.freeC, fun p hp => ?_, tracked ⟨oc, hoc, I.freeC x c hc⟩ hs, by simpa using I.len⟩ ⟨c, hs, .inr hc⟩
    · exact (hs.2 b (Nat.ne_of_lt (Nat.lt_of_lt_of_le (Heap.lt_size e) (I.ok.cab x c hfn hc)))).trans (I.base.keep b o e n hb hx)
    · obtain ⟨sl, e1⟩ := I.base.slot b o e n hb hx
      exact ⟨sl, (hs.2 b (Nat.ne_of_lt (Nat.lt_of_lt_of_le (Heap.lt_size e) (I.ok.cab x c hfn hc)))).trans e1⟩
    · obtain ⟨o', e1⟩ := I.base.there b o e hx
      exact ⟨o', (hs.2 b (Nat.ne_of_lt (Nat.lt_of_lt_of_le (Heap.lt_size e) (I.ok.cab x c hfn hc)))).trans e1⟩
    · by_cases hj : j = i
      · subst hj
        rw [hi] at e1; cases e1
        rw [List.getElem?_set_self hiσ] at e2
        cases e2
        exact ⟨u, r, .inr ⟨.inl hk, c, hc, hc'⟩⟩
      · rw [List.getElem?_set_ne (Ne.symm hj)] at e2
        obtain ⟨u', r', q⟩ := hl j y v' e1 e2 e3
        refine ⟨u', r', ?_⟩
        rcases q with q | ⟨k, c', e, z'⟩
        · exact .inl q
        · refine .inr ⟨k, c', e, z'.sameBut hs ?_⟩
          rintro rfl
          exact hj (nodup_ix hN e1 (I.ok.inj _ _ _ e hc ▸ hi))
    · by_cases hcc : c' = c
      · subst hcc; exact ⟨_, hc'⟩
      · obtain ⟨w2, z2⟩ := I.cell y c' e
        exact ⟨w2, z2.sameBut hs hcc⟩
    · obtain ⟨e, n, ne, nf, d⟩ := I.pin p hp
      refine ⟨(hs.2 p.1 ?_).trans e, n, ne, nf, d⟩
      intro q
      rw [q, hoc] at e
      have q' : oc = p.2 := Option.some.inj e
      exact d w' (by rw [← q']; exact hocd)
theorem store_ok {M : Model} {A : Around} {E : Value → Shared → Prop} {i : Nat} {x : Str} {v : V} {u : Value} {Q : Unit → Shared → Prop} (I : Inv X pins σ H s) (hN : X.N.Nodup) (hi : X.N[i]? = some x) (hx : Loc X.env.scope x) (r : RelV v u)
    (h : ∀ s', Inv X pins (σ.set i (some v)) H s' → Q () s') (hf : X.fn x = true ∨ X.env.scope.names.lookup x = some .local := by first | exact .inl rfl | exact .inr rfl | assumption) : wpAny M A (storeName X.env x u) Q E s :=
  store_ok2 I hN hi hx r (fun s' I' _ => h s' I') hf
/-- behind a call or a block, the state as it is -/
theorem Inv.call' {s' : Shared} {ch : List Addr} (I : Inv X pins σ H s) (ho : s'.os = s.os) (u : Un (frs X.stack) ch H H' s.heap s'.heap) (hok : HOk X.prog X.w H' s'.heap) (hg : AllBare s'.gens)
    (hch : ∀ b ∈ ch, (b ∈ X.ex ∨ X.s₀.heap.objs.size ≤ b) ∧ b ≠ X.env.locals ∧ (∀ x c, X.env.cells.lookup x = some c → c ≠ b) ∧ ∀ p ∈ X.pn ++ pins, p.1 ≠ b) : Inv X pins σ H' s' := by
  obtain ⟨h', g', d', t', o'⟩ := s'
  have e : o' = s.os := ho
  subst e
  exact I.call (g' := g') (t' := t') (d' := d') u hok hg hch
end

/-- an exception: its class, its own dict's address (where it has one), the abstract heap behind it -/
abbrev XK := Value → Option Addr → Hp → Prop
abbrev St := List (Option V)
abbrev VK := V → Hp → Prop
/-- an expression's reading; a test's; an argument list's -/
abbrev TE := St → Hp → VK → Prop
abbrev TT := St → Hp → (Bool → Hp → Prop) → Prop
abbrev TA := St → Hp → (List V → Hp → Prop) → Prop
/-- what is wanted behind a statement -/
structure Ends where
  nx : St → Hp → Prop
  rt : VK
  bk : St → Hp → Prop := fun _ _ => False
  ct : St → Hp → Prop := fun _ _ => False
abbrev TS := Ends → St → Hp → Prop

def EP (X : Cx) (pins : List (Addr × Obj)) (σ : St) (Q : VK) (u : Value) (s' : Shared) : Prop := ∃ v H', Inv X pins σ H' s' ∧ RelV v u ∧ Q v H'
def TP (X : Cx) (pins : List (Addr × Obj)) (σ : St) (Q : Bool → Hp → Prop) (b : Bool) (s' : Shared) : Prop := ∃ H', Inv X pins σ H' s' ∧ Q b H'
def AP (X : Cx) (pins : List (Addr × Obj)) (σ : St) (Q : List V → Hp → Prop) (us : List Value) (s' : Shared) : Prop := ∃ vs H', Inv X pins σ H' s' ∧ Vals vs us ∧ Q vs H'
def SP (X : Cx) (pins : List (Addr × Obj)) (D : Ends) (f : Flow) (s' : Shared) : Prop :=
  match f with
  | .next => ∃ σ' H', Inv X pins σ' H' s' ∧ D.nx σ' H'
  | .brk => ∃ σ' H', Inv X pins σ' H' s' ∧ D.bk σ' H'
  | .cont => ∃ σ' H', Inv X pins σ' H' s' ∧ D.ct σ' H'
  | .ret u => ∃ v σ' H', Inv X pins σ' H' s' ∧ RelV v u ∧ D.rt v H'

def PE (X : Cx) (e : Expr) (t : TE) : Prop :=
  ∀ (pins : List (Addr × Obj)) (s : Shared) (σ : St) (H : Hp) (Q : VK), Inv X pins σ H s → t σ H Q → wpAny (model X.prog X.w) X.A (eval e X.env) (EP X pins σ Q) X.xe s
def PT (X : Cx) (e : Expr) (t : TT) : Prop :=
  ∀ (pins : List (Addr × Obj)) (s : Shared) (σ : St) (H : Hp) (Q : Bool → Hp → Prop), Inv X pins σ H s → t σ H Q → wpAny (model X.prog X.w) X.A (isTrue e X.env (eval e X.env)) (TP X pins σ Q) X.xe s
/-- a test whatever its 'whole' is (and, or) -/
def PW (X : Cx) (e : Expr) (t : TT) : Prop :=
  ∀ (whole : Sem Value) (pins : List (Addr × Obj)) (s : Shared) (σ : St) (H : Hp) (Q : Bool → Hp → Prop), Inv X pins σ H s → t σ H Q → wpAny (model X.prog X.w) X.A (isTrue e X.env whole) (TP X pins σ Q) X.xe s
theorem PW.pt {X : Cx} {e : Expr} {t : TT} (h : PW X e t) : PT X e t := h _
/-- an argument list (no star), from the left -/
def PA (X : Cx) (es : List Expr) (t : TA) : Prop :=
  ∀ (pos : Pos) (pins : List (Addr × Obj)) (s : Shared) (σ : St) (H : Hp) (Q : List V → Hp → Prop), Inv X pins σ H s → t σ H Q → wpAny (model X.prog X.w) X.A (spliced (backTo pos (starEach es X.env))) (AP X pins σ Q) X.xe s
def PS (X : Cx) (st : Stmt) (t : TS) : Prop :=
  ∀ (pins : List (Addr × Obj)) (s : Shared) (σ : St) (H : Hp) (D : Ends), Inv X pins σ H s → t D σ H → wpAny (model X.prog X.w) X.A (exec st X.env) (SP X pins D) X.xe s
def PSs (X : Cx) (st : List Stmt) (t : TS) : Prop :=
  ∀ (pins : List (Addr × Obj)) (s : Shared) (σ : St) (H : Hp) (D : Ends), Inv X pins σ H s → t D σ H → wpAny (model X.prog X.w) X.A (execs st X.env) (SP X pins D) X.xe s
/-- weaken the end -/
theorem thn {α : Type} {t : Sem α} {Q Q' : α → Shared → Prop} {M : Model} {A : Around} {E : Value → Shared → Prop} {s : Shared} (h : wpAny M A t Q E s) (hQ : ∀ a s, Q a s → Q' a s) : wpAny M A t Q' E s := wpAny_mono h hQ fun _ _ x => x
end L2

namespace L2
open PySem PySem.Spec PyProof.Rows
section
variable {X : Cx}

def tVar (i : Nat) : TE := fun σ H Q => ∃ v, σ[i]? = some (some v) ∧ Q v H
def tC (v : V) : TE := fun _ H Q => Q v H
theorem pe_var {i : Nat} {x : Str} {pos : Pos} (hN : X.N[i]? = some x) (hv : Vis X.env.scope x) (hd : (x == ("__debug__" : Str)) = false := by decide) (hcd : (x == ("__classdict__" : Str)) = false := by decide) : PE X (.Name x pos) (tVar i) := by
  intro pins s σ H Q I h
  obtain ⟨v, e, h⟩ := h
  obtain ⟨m, hn, hl⟩ := I.loc
  obtain ⟨u, r, l⟩ := hl i x v hN e hv
  have fin : EP X pins σ Q u s := ⟨v, H, I, r, h⟩
  rcases l with ⟨hk, hm⟩ | ⟨hk, c, hc, hcell⟩
  · exact wpAny_Name (wpAny_loadName_local I.ok.kind hk hn hm fin) hd
  · rcases hk with hk | hk
    · exact wpAny_Name (wpAny_loadName_cell I.ok.kind hk hc hcell fin) hd
    · exact wpAny_Name (wpAny_loadName_free I.ok.kind hk hc hcell fin hcd) hd
theorem pe_int {i j pos} : PE X (.Constant (.int i) j pos) (tC (.int i)) := fun _ _ _ H _ I h => wpAny_Constant_int ⟨.int i, H, I.tok _, ⟨_, rfl⟩, h⟩
theorem pe_bl {b j pos} : PE X (.Constant (.bool b) j pos) (tC (.bl b)) := fun _ _ _ H _ I h => Constant_bool ⟨.bl b, H, I, rfl, h⟩
theorem pe_non {j pos} : PE X (.Constant .none j pos) (tC .non) := fun _ _ _ H _ I h => Constant_none ⟨.non, H, I, rfl, h⟩
theorem pe_str {x j pos} : PE X (.Constant (.str x) j pos) (tC (.str x)) := fun _ _ _ H _ I h => Calls.Constant_str ⟨.str x, H, I.tok _, ⟨_, rfl⟩, h⟩

/-- a global name of the def -/
def Gl (X : Cx) (x : Str) : Prop := X.env.kindOf x = some .globalImplicit
theorem ld_glob {E : Value → Shared → Prop} {pins : List (Addr × Obj)} {s : Shared} {σ : St} {H : Hp} {x : Str} {u : Value} {pos : Pos} {Q : Value → Shared → Prop} (I : Inv X pins σ H s) (hg : Gl X x) (hm : X.mg x = some u) (h : Q u s)
    (hd : (x == ("__debug__" : Str)) = false := by decide) : wpAny (model X.prog X.w) X.A (eval (.Name x pos) X.env) Q E s :=
  Calls.Name_function_global I.ok.kind hg (Calls.loadGlobal_global (by rw [I.ok.glob]; exact I.mod.glob.keeps I.bk) hm h) hd
theorem ld_blt {E : Value → Shared → Prop} {pins : List (Addr × Obj)} {s : Shared} {σ : St} {H : Hp} {x : Str} {u : Value} {pos : Pos} {Q : Value → Shared → Prop} (I : Inv X pins σ H s) (hg : Gl X x) (hm : X.mg x = none) (hv : bootBuiltins x = some u) (h : Q u s)
    (hn : x ≠ "__name__" := by decide) (hd : (x == ("__debug__" : Str)) = false := by decide) : wpAny (model X.prog X.w) X.A (eval (.Name x pos) X.env) Q E s := by
  obtain ⟨mb, h1, h2⟩ := I.mod.blt
  exact Calls.Name_function_global I.ok.kind hg (Calls.loadGlobal_builtin (by rw [I.ok.glob]; exact I.mod.glob.keeps I.bk) hm (by rw [I.ok.blt]; exact h1.keeps I.bk) ((h2 x hn).trans hv) h) hd
/-- a module's constant, a class, a function, as a value -/
theorem pe_glob {x : Str} {v : V} {u : Value} {pos : Pos} (hg : Gl X x) (hm : X.mg x = some u) (r : RelV v u) (hd : (x == ("__debug__" : Str)) = false := by decide) : PE X (.Name x pos) (tC v) :=
  fun _ _ _ H _ I h => ld_glob I hg hm ⟨v, H, I, r, h⟩ hd
theorem pe_bltn {x : Str} {v : V} {u : Value} {pos : Pos} (hg : Gl X x) (hm : X.mg x = none) (hv : bootBuiltins x = some u) (r : RelV v u) (hn : x ≠ "__name__" := by decide) (hd : (x == ("__debug__" : Str)) = false := by decide) : PE X (.Name x pos) (tC v) :=
  fun _ _ _ H _ I h => ld_blt I hg hm hv ⟨v, H, I, r, h⟩ hn hd

variable {a b : Expr} {ta tb : TE} {pos : Pos}
def PC (X : Cx) (op : CmpOp) (a b : Expr) (t : TE) : Prop :=
  ∀ (pins : List (Addr × Obj)) (s : Shared) (σ : St) (H : Hp) (Q : VK), Inv X pins σ H s → t σ H Q →
    wpAny (model X.prog X.w) X.A (eval a X.env) (fun v s₁ => wpAny (model X.prog X.w) X.A (eval b X.env) (fun u s₂ => wpAny (model X.prog X.w) X.A (compareOp op v u) (EP X pins σ Q) X.xe s₂) X.xe s₁) X.xe s
/-- a comparison as a value, as a test -/
def tB (t : TE) : TT := fun σ H Q => t σ H fun x H1 => ∃ c, x = .bl c ∧ Q c H1
theorem pt_cmp {op : CmpOp} {t : TE} (h : PC X op a b t) (h1 : behindInMarks op b = false := by first | exact nobehind _ (by decide) (by decide) | rfl) : PT X (.Compare a [op] [b] pos) (tB t) := by
  intro pins s σ H Q I hw
  refine wpAny_isTrue_Compare1 (thn (h pins s σ H _ I hw) fun v s1 h1 => thn h1 fun u s2 h2 => thn h2 fun c s3 ⟨x, H1, I1, r1, q1⟩ => ?_) h1
  obtain ⟨d, rfl, q⟩ := q1
  cases r1
  exact wpAny_truthy_bool ⟨H1, I1, q⟩
/-- an expression whose value is a bool, as a test -/
theorem pt_val {e : Expr} {t : TE} (h : PE X e t) (he : ∀ whole, isTrue e X.env whole = (do let v ← whole; standAt e.pos; holding [v] (truthy v)) := by intro _; rfl) : PT X e (tB t) := by
  intro pins s σ H Q I hw
  refine isTrue_plain (thn (h pins s σ H _ I hw) fun v s1 ⟨x, H1, I1, r1, q1⟩ => ?_) (he _)
  obtain ⟨d, rfl, q⟩ := q1
  cases r1
  exact wpAny_truthy_bool ⟨H1, I1, q⟩

variable {tA tB' : TT} {rest : List Expr}
def tAnd (t u : TT) : TT := fun σ H Q => t σ H fun c H1 => if c = true then u σ H1 Q else Q false H1
def tOr (t u : TT) : TT := fun σ H Q => t σ H fun c H1 => if c = true then Q true H1 else u σ H1 Q
def tNot (t : TT) : TT := fun σ H Q => t σ H fun c H1 => Q (!c) H1
theorem pw_and1 (ha : PT X a tA) : PW X (.BoolOp .And [a] pos) tA := by
  intro wh pins s σ H Q I h
  refine isTrue_and (thn (ha pins s σ H Q I h) fun c s1 e => ?_)
  cases c with
  | true => exact isTrue_and_nil e
  | false => exact e
theorem pw_or1 (ha : PT X a tA) : PW X (.BoolOp .Or [a] pos) tA := by
  intro wh pins s σ H Q I h
  refine isTrue_or (thn (ha pins s σ H Q I h) fun c s1 e => ?_)
  cases c with
  | false => exact isTrue_or_nil e
  | true => exact e
theorem pw_and (ha : PT X a tA) (hb : PW X (.BoolOp .And (b :: rest) pos) tB') : PW X (.BoolOp .And (a :: b :: rest) pos) (tAnd tA tB') := by
  intro wh pins s σ H Q I h
  refine isTrue_and (thn (ha pins s σ H _ I h) fun c s1 ⟨H1, I1, q1⟩ => ?_)
  cases c with
  | true => exact hb wh pins s1 σ H1 Q I1 q1
  | false => exact ⟨H1, I1, q1⟩
theorem pw_or (ha : PT X a tA) (hb : PW X (.BoolOp .Or (b :: rest) pos) tB') : PW X (.BoolOp .Or (a :: b :: rest) pos) (tOr tA tB') := by
  intro wh pins s σ H Q I h
  refine isTrue_or (thn (ha pins s σ H _ I h) fun c s1 ⟨H1, I1, q1⟩ => ?_)
  cases c with
  | true => exact ⟨H1, I1, q1⟩
  | false => exact hb wh pins s1 σ H1 Q I1 q1
theorem pt_not (ha : PT X a tA) : PT X (.UnaryOp .Not a pos) (tNot tA) := by
  intro pins s σ H Q I h
  exact isTrue_not (ha pins s σ H (fun c H1 => Q (!c) H1) I h)
/-- .. as values (bools) -/
def tAndV (ta tb : TE) : TE := fun σ H Q => ta σ H fun x H1 => ∃ c, x = .bl c ∧ if c = true then tb σ H1 Q else Q (.bl false) H1
def tNotV (ta : TE) : TE := fun σ H Q => ta σ H fun x H1 => ∃ c, x = .bl c ∧ Q (.bl (!c)) H1
theorem pe_one {op} {t : TE} (h : PE X a t) : PE X (.BoolOp op [a] pos) t := fun pins s σ H Q I hw => BoolOp_one (h pins s σ H Q I hw)
theorem pe_and (ha : PE X a ta) (hb : PE X (.BoolOp .And (b :: rest) pos) tb) : PE X (.BoolOp .And (a :: b :: rest) pos) (tAndV ta tb) := by
  intro pins s σ H Q I h
  refine BoolOp_and (thn (ha pins s σ H _ I h) fun v s1 ⟨x, H1, I1, r1, q1⟩ => ?_)
  obtain ⟨c, rfl, q1⟩ := q1
  cases r1
  refine wpAny_truthy_bool ?_
  cases c with
  | true => exact hb pins s1 σ H1 Q I1 q1
  | false => exact ⟨.bl false, H1, I1, rfl, q1⟩
theorem pe_not (ha : PE X a ta) : PE X (.UnaryOp .Not a pos) (tNotV ta) := by
  intro pins s σ H Q I h
  refine UnaryOp_ (thn (ha pins s σ H _ I h) fun v s1 ⟨x, H1, I1, r1, q1⟩ => ?_)
  obtain ⟨c, rfl, q1⟩ := q1
  cases r1
  exact not_of (wpAny_truthy_bool ⟨.bl (!c), H1, I1, rfl, q1⟩)
end
end L2

namespace L2
open PySem PySem.Spec PyProof.Rows

def SqL (K : PySem.W.Frag) (H : Hp) (a : Addr) (xs : List V) : Prop :=
  Rd H a (.lst xs) ∨
    ∃ (o : Obj) (its : Array Value) (n : Nat), K.lookup a = some o ∧ o.cls = .type "list" ∧ o.dict = none ∧ o.data = .seq its n ∧ its.size ≤ sizeLine ∧ Vals xs its.toList
def SqT (K : PySem.W.Frag) (H : Hp) (a : Addr) (xs : List V) : Prop :=
  Rd H a (.tup xs) ∨
    ∃ (o : Obj) (its : Array Value) (n : Nat), K.lookup a = some o ∧ o.cls = .type "tuple" ∧ o.data = .seq its n ∧ its.size ≤ sizeLine ∧ Vals xs its.toList
def absV : Value → Option V
  | .none => some .non
  | .bool b => some (.bl b)
  | .int i _ => some (.int i)
  | .str x _ => some (.str x)
  | .bytes b _ => some (.byt b)
  | .float b _ => some (.flt b)
  | .ref a => some (.ref a)
  | .type n => some (.ty n)
  | _ => none
theorem RelV.abs {x : V} {u : Value} (r : RelV x u) : absV u = some x := by
  cases x with
  | non => cases r; rfl
  | bl _ => cases r; rfl
  | int _ => obtain ⟨t, rfl⟩ := r; rfl
  | str _ => obtain ⟨t, rfl⟩ := r; rfl
  | byt _ => obtain ⟨t, rfl⟩ := r; rfl
  | flt _ => obtain ⟨t, rfl⟩ := r; rfl
  | ref _ => cases r; rfl
  | ty _ => cases r; rfl
theorem RelV.inj {x y : V} {u : Value} (r : RelV x u) (q : RelV y u) : x = y := Option.some.inj (r.abs.symm.trans q.abs)
theorem Vals.inj : ∀ {xs ys : List V} {us : List Value}, Vals xs us → Vals ys us → xs = ys
  | _, _, _, .nil, .nil => rfl
  | _, _, _, .cons r t, .cons r' t' => by rw [r.inj r', Vals.inj t t']
section
variable {X : Cx} {pins : List (Addr × Obj)} {σ : St} {H : Hp} {s : Shared} {a : Addr} {xs ys : List V}
theorem SqL.of {K : PySem.W.Frag} (h : H a = some (.lst xs)) : SqL K H a xs := .inl (.inl h)
theorem SqT.of {K : PySem.W.Frag} (h : H a = some (.tup xs)) : SqT K H a xs := .inl (.inl h)
theorem Inv.list (I : Inv X pins σ H s) (h : SqL X.K H a xs) : ∃ its : List Value, Vals xs its ∧ PlainL s.heap a its.toArray ∧ xs.length ≤ sizeLine := by
  rcases h with h | ⟨o, its, n, hk, hc, hd, hs, hz, r⟩
  · obtain ⟨z, its, n, r, e⟩ := h.ok I.hok
    exact ⟨its, r, ⟨_, n, e, rfl, rfl, rfl⟩, z⟩
  · refine ⟨its.toList, r, ⟨o, n, I.kIn a o hk, hc, hd, by simpa using hs⟩, ?_⟩
    have e := r.length
    simp only [Array.length_toList] at e
    omega
theorem Inv.tuple (I : Inv X pins σ H s) (h : SqT X.K H a xs) : ∃ its : List Value, Vals xs its ∧ IsTup s.heap a its.toArray ∧ xs.length ≤ sizeLine := by
  rcases h with h | ⟨o, its, n, hk, hc, hs, hz, r⟩
  · obtain ⟨z, its, r, p⟩ := h.ok I.hok
    exact ⟨its, r, p, z.1⟩
  · refine ⟨its.toList, r, ⟨o, I.kIn a o hk, hc, n, by simpa using hs⟩, ?_⟩
    have e := r.length
    simp only [Array.length_toList] at e
    omega
theorem Inv.list_inj (I : Inv X pins σ H s) (h : SqL X.K H a xs) (h' : SqL X.K H a ys) : xs = ys := by
  obtain ⟨its, r, ⟨o, n, e, _, _, d⟩, _⟩ := I.list h
  obtain ⟨its', r', ⟨o', n', e', _, _, d'⟩, _⟩ := I.list h'
  rw [e] at e'; cases e'
  rw [d] at d'
  injection d' with d1 _
  have : its = its' := by simpa using congrArg Array.toList d1
  subst this
  exact r.inj r'
theorem Inv.tuple_inj (I : Inv X pins σ H s) (h : SqT X.K H a xs) (h' : SqT X.K H a ys) : xs = ys := by
  obtain ⟨its, r, ⟨o, e, _, n, d⟩, _⟩ := I.tuple h
  obtain ⟨its', r', ⟨o', e', _, n', d'⟩, _⟩ := I.tuple h'
  rw [e] at e'; cases e'
  rw [d] at d'
  injection d' with d1 _
  have : its = its' := by simpa using congrArg Array.toList d1
  subst this
  exact r.inj r'
end

abbrev Cx.wish (X : Cx) (E : Value → Shared → Prop) : Cx := { X with xe := E }
/-- no exception leaves -/
abbrev Cx.nox (X : Cx) : Cx := X.wish fun _ _ => False
theorem Cx.Ok.wish {X : Cx} (ok : X.Ok) (E : Value → Shared → Prop) : (X.wish E).Ok :=
  ⟨ok.mod, ok.kind, ok.glob, ok.blt, ok.above, ok.inj, ok.has, ok.cab, ok.hd, ok.frames, ok.stk, ok.exf, ok.bs, ok.bsz, ok.noex, ok.exfs, ok.funs, ok.frf⟩
theorem Cx.Ok.unwish {X : Cx} {E : Value → Shared → Prop} (ok : (X.wish E).Ok) : X.Ok :=
  ⟨ok.mod, ok.kind, ok.glob, ok.blt, ok.above, ok.inj, ok.has, ok.cab, ok.hd, ok.frames, ok.stk, ok.exf, ok.bs, ok.bsz, ok.noex, ok.exfs, ok.funs, ok.frf⟩
section
variable {X : Cx} {pins : List (Addr × Obj)} {σ : St} {H : Hp} {s : Shared} {E : Value → Shared → Prop}
theorem Inv.wish (I : Inv X pins σ H s) (E : Value → Shared → Prop) : Inv (X.wish E) pins σ H s := ⟨I.ok.wish E, I.os, I.bare, I.base, I.loc, I.cell, I.free, I.freeC, I.pin, I.hok, I.len⟩
theorem Inv.unwish (I : Inv (X.wish E) pins σ H s) : Inv X pins σ H s := ⟨I.ok.unwish, I.os, I.bare, I.base, I.loc, I.cell, I.free, I.freeC, I.pin, I.hok, I.len⟩
theorem SP.unwish {D : Ends} {f : Flow} {s' : Shared} (h : SP (X.wish E) pins D f s') : SP X pins D f s' := by
  cases f with
  | next => obtain ⟨σ', H', I, q⟩ := h; exact ⟨σ', H', I.unwish, q⟩
  | brk => obtain ⟨σ', H', I, q⟩ := h; exact ⟨σ', H', I.unwish, q⟩
  | cont => obtain ⟨σ', H', I, q⟩ := h; exact ⟨σ', H', I.unwish, q⟩
  | ret u => obtain ⟨v, σ', H', I, r, q⟩ := h; exact ⟨v, σ', H', I.unwish, r, q⟩
theorem PSs.nox {st : List Stmt} {t : TS} (h : PSs X.nox st t) : PSs X st t := fun pins s σ H D I hw =>
  wpAny_mono (h pins s σ H D (I.wish _) hw) (fun _ _ q => q.unwish) fun _ _ z => False.elim z
end

section
variable {X : Cx} {st : Stmt} {rest : List Stmt} {t u : TS} {e : Expr} {te : TE} {pos : Pos}
def tNext : TS := fun D σ H => D.nx σ H
def tSeq (t u : TS) : TS := fun D σ H => t { D with nx := u D } σ H
theorem pss_nil : PSs X [] tNext := fun _ _ σ H _ I h => wpAny_execs_nil ⟨σ, H, I, h⟩
theorem pss_cons (h1 : PS X st t) (h2 : PSs X rest u) : PSs X (st :: rest) (tSeq t u) := by
  intro pins s σ H D I h
  refine wpAny_execs_cons (thn (h1 pins s σ H { D with nx := u D } I h) fun f s1 q => ?_)
  cases f with
  | next =>
    obtain ⟨σ', H', I', q⟩ := q
    exact h2 pins s1 σ' H' D I' q
  | ret v => exact q
  | brk => exact q
  | cont => exact q
theorem pss_one (h1 : PS X st t) : PSs X [st] t := by
  intro pins s σ H D I h
  refine wpAny_execs_cons (thn (h1 pins s σ H D I h) fun f s1 q => ?_)
  cases f with
  | next => exact wpAny_execs_nil q
  | ret v => exact q
  | brk => exact q
  | cont => exact q
/-- in a def's body nothing is shown -/
theorem Inv.quiet {pins : List (Addr × Obj)} {σ : St} {H : Hp} {s : Shared} (I : Inv X pins σ H s) : interactive X.env = false := by simp [interactive, I.ok.kind]
/-- an expression whose value is dropped -/
def tDrop (te : TE) : TS := fun D σ H => te σ H fun _ H1 => D.nx σ H1
theorem ps_expr (he : PE X e te) (hs : swapsWith e none pos.line X.env = pure false := by rfl) : PS X (.Expr e pos) (tDrop te) := by
  intro pins s σ H D I h
  exact wpAny_Expr_any (thn (he pins s σ H _ I h) fun v s1 ⟨x, H1, I1, r1, q1⟩ => ⟨σ, H1, I1, q1⟩) I.quiet hs
def tRet (te : TE) : TS := fun D σ H => te σ H D.rt
theorem ps_ret (he : PE X e te) : PS X (.Return (some e) pos) (tRet te) := by
  intro pins s σ H D I h
  exact wpAny_Return_some (thn (he pins s σ H _ I h) fun v s1 ⟨x, H1, I1, r1, q1⟩ => ⟨x, σ, H1, I1, r1, q1⟩)
def tIfS (c : TT) (t u : TS) : TS := fun D σ H => c σ H fun b H1 => if b = true then t D σ H1 else u D σ H1
theorem ps_if {c : Expr} {a b : List Stmt} {tc : TT} (hc : PT X c tc) (ha : PSs X a t) (hb : PSs X b u) : PS X (.If c a b pos) (tIfS tc t u) := by
  intro pins s σ H D I h
  refine wpAny_If (thn (hc pins s σ H _ I h) fun d s1 ⟨H1, I1, q1⟩ => ?_)
  cases d with
  | true => exact ha pins s1 σ H1 D I1 q1
  | false => exact hb pins s1 σ H1 D I1 q1
/-- code that the proof never comes to -/
def tNever : TS := fun _ _ _ => False
theorem pss_never {sts : List Stmt} : PSs X sts tNever := fun _ _ _ _ _ _ h => h.elim
end

abbrev TG := V → St → Hp → (St → Hp → Prop) → Prop
abbrev TGs := List V → St → Hp → (St → Hp → Prop) → Prop
def PG (X : Cx) (target : Expr) (t : TG) : Prop :=
  ∀ (pins : List (Addr × Obj)) (s : Shared) (σ : St) (H : Hp) (v : V) (u : Value) (Q : St → Hp → Prop), Inv X pins σ H s → RelV v u → t v σ H Q →
    wpAny (model X.prog X.w) X.A (assign target X.env u) (fun _ s' => ∃ σ' H', Inv X pins σ' H' s' ∧ Q σ' H') X.xe s
/-- several targets, one after another -/
def PGs (X : Cx) (ts : List Expr) (t : TGs) : Prop :=
  ∀ (pins : List (Addr × Obj)) (s : Shared) (σ : St) (H : Hp) (vs : List V) (us : List Value) (Q : St → Hp → Prop), Inv X pins σ H s → Vals vs us → t vs σ H Q →
    wpAny (model X.prog X.w) X.A (assignInOrder ((assignEach ts X.env).map (·.2)) us) (fun _ s' => ∃ σ' H', Inv X pins σ' H' s' ∧ Q σ' H') X.xe s
/-- o[i] = v, by values -/
abbrev TSet := V → V → V → Hp → (Hp → Prop) → Prop
def PSet (X : Cx) (t : TSet) : Prop :=
  ∀ (pins : List (Addr × Obj)) (s : Shared) (σ : St) (H : Hp) (o i v : V) (ov iv u : Value) (Q : Hp → Prop), Inv X pins σ H s → RelV o ov → RelV i iv → RelV v u → t o i v H Q →
    wpAny (model X.prog X.w) X.A (setItem ov iv u) (fun _ s' => ∃ H', Inv X pins σ H' s' ∧ Q H') X.xe s
/-- a op= b, by values -/
abbrev TIp := V → V → Hp → VK → Prop
def PIp (X : Cx) (op : Operator) (t : TIp) : Prop :=
  ∀ (pins : List (Addr × Obj)) (s : Shared) (σ : St) (H : Hp) (x y : V) (v u : Value) (Q : VK), Inv X pins σ H s → RelV x v → RelV y u → t x y H Q →
    wpAny (model X.prog X.w) X.A (inplaceOp op v u) (EP X pins σ Q) X.xe s
section
variable {X : Cx} {pos : Pos}
def gName (i : Nat) : TG := fun v σ H Q => Q (σ.set i (some v)) H
theorem pg_name {i : Nat} {x : Str} (hN : X.N.Nodup) (hi : X.N[i]? = some x) (hx : Loc X.env.scope x) (hf : X.fn x = true ∨ X.env.scope.names.lookup x = some .local := by first | exact .inl rfl | exact .inr rfl | assumption) : PG X (.Name x pos) (gName i) := by
  intro pins s σ H v u Q I r h
  exact wpAny_assign_Name (store_ok I hN hi hx r (fun s' I' => ⟨_, H, I', h⟩) hf)
def gNil : TGs := fun vs σ H Q => vs = [] ∧ Q σ H
def gCons (t : TG) (u : TGs) : TGs := fun vs σ H Q => ∃ v r, vs = v :: r ∧ t v σ H fun σ' H' => u r σ' H' Q
theorem pgs_nil : PGs X [] gNil := by
  intro pins s σ H vs us Q I r h
  obtain ⟨e, h⟩ := h
  subst e
  cases r
  exact assignInOrder_nil ⟨σ, H, I, h⟩
theorem pgs_cons {e : Expr} {es : List Expr} {t : TG} {u : TGs} (h1 : PG X e t) (h2 : PGs X es u)
    (hs : (assignEach (e :: es) X.env).map (·.2) = assign e X.env :: (assignEach es X.env).map (·.2) := by rfl) : PGs X (e :: es) (gCons t u) := by
  intro pins s σ H vs us Q I r h
  obtain ⟨v, vr, e1, h⟩ := h
  subst e1
  cases r with
  | cons r rr =>
    rw [hs]
    refine assignInOrder_cons (thn (h1 pins s σ H _ _ _ I r h) fun _ s1 ⟨σ1, H1, I1, q1⟩ => ?_)
    exact h2 pins s1 σ1 H1 _ _ Q I1 rr q1
/-- (a, b, ..) = a tuple of that length -/
def gTup (K : PySem.W.Frag) (n : Nat) (t : TGs) : TG := fun v σ H Q => ∃ a xs, v = .ref a ∧ SqT K H a xs ∧ xs.length = n ∧ t xs σ H Q
theorem pg_tup {es : List Expr} {k : Nat} {t : TGs} {n : Nat} (hc : X.calm = true) (h : PGs X es t)
    (hn : (assignEach es X.env).length = n := by rfl) (hst : (assignEach es X.env).findIdx? (·.1) = none := by rfl) : PG X (.Tuple es k pos) (gTup X.K n t) := by
  intro pins s σ H v u Q I r hw
  obtain ⟨a, xs, e1, hq, hl, hw⟩ := hw
  subst e1
  cases r
  obtain ⟨its, rv, ht, hz⟩ := I.tuple hq
  refine assign_Tuple_tuple (I.ok.hd hc) ht (by simp [hn, ← hl, rv.length]) hst fun h' hx => ?_
  have I1 : Inv X pins σ H { s with heap := h' } := I.kept (t' := s.toks) fun b o e => hx b o (Nat.ne_of_lt (Heap.lt_size e)) e
  exact h pins _ σ H xs _ Q I1 (by simpa using rv) hw
/-- target = value -/
def tAsg (te : TE) (g : TG) : TS := fun D σ H => te σ H fun x H1 => g x σ H1 D.nx
theorem ps_asg {tg e : Expr} {te : TE} {g : TG} (he : PE X e te) (hg : PG X tg g) (hs : swapsWithSole [tg] e pos.line X.env = pure false := by rfl) (hw : swappedStores [tg] e X.env = pure none := by rfl)
    (h1 : (assignEach [tg] X.env).map (·.2) = [assign tg X.env] := by rfl) : PS X (.Assign [tg] e pos) (tAsg te g) := by
  intro pins s σ H D I h
  refine wpAny_Assign_stores (thn (he pins s σ H _ I h) fun v s1 ⟨x, H1, I1, r1, q1⟩ => ?_) hs hw
  rw [h1]
  exact thn (hg pins s1 σ H1 x v _ I1 r1 q1) fun _ s2 q => q
/-- name = value -/
theorem ps_set {i : Nat} {x : Str} {e : Expr} {te : TE} {pos' : Pos} (hN : X.N.Nodup) (hi : X.N[i]? = some x) (hx : Loc X.env.scope x) (he : PE X e te) (hs : swapsWith e (some (.Name x pos')) pos.line X.env = pure false := by rfl) (hf : X.fn x = true ∨ X.env.scope.names.lookup x = some .local := by first | exact .inl rfl | exact .inr rfl | assumption) :
    PS X (.Assign [.Name x pos'] e pos) (tAsg te (gName i)) := by
  intro pins s σ H D I h
  refine wpAny_Assign_Name (thn (he pins s σ H _ I h) fun v s1 ⟨y, H1, I1, r1, q1⟩ => ?_) hs
  exact store_ok I1 hN hi hx r1 (fun s2 I2 => ⟨_, H1, I2, q1⟩) hf
/-- name op= e -/
def tAug (i : Nat) (te : TE) (ti : TIp) : TS := fun D σ H => ∃ x, σ[i]? = some (some x) ∧ te σ H fun y H1 => ti x y H1 fun z H2 => D.nx (σ.set i (some z)) H2
theorem ps_aug {i : Nat} {x : Str} {e : Expr} {te : TE} {op : Operator} {ti : TIp} {pos' : Pos} (hN : X.N.Nodup) (hi : X.N[i]? = some x) (hx : Loc X.env.scope x) (he : PE X e te) (ho : PIp X op ti) (hf : X.fn x = true ∨ X.env.scope.names.lookup x = some .local := by first | exact .inl rfl | exact .inr rfl | assumption) :
    PS X (.AugAssign (.Name x pos') op e pos) (tAug i te ti) := by
  intro pins s σ H D I h
  obtain ⟨v, e1, h⟩ := h
  obtain ⟨m, hn, hl⟩ := I.loc
  have vis : Vis X.env.scope x := by rcases hx with k | k; exact .inl k; exact .inr (.inl k)
  obtain ⟨u, r, l⟩ := hl i x v hi e1 vis
  refine wpAny_AugAssign_Name ?_
  have go : wpAny (model X.prog X.w) X.A (eval e X.env) (fun w s₂ => wpAny (model X.prog X.w) X.A (inplaceOp op u w) (fun r s₃ => wpAny (model X.prog X.w) X.A (storeName X.env x r) (fun _ => SP X pins D .next) X.xe s₃) X.xe s₂) X.xe s := by
    refine thn (he pins s σ H _ I h) fun w s1 ⟨y, H1, I1, r1, q1⟩ => ?_
    refine thn (ho pins s1 σ H1 v y u w _ I1 r r1 q1) fun z s2 ⟨zv, H2, I2, r2, q2⟩ => ?_
    exact store_ok I2 hN hi hx r2 (fun s3 I3 => ⟨_, H2, I3, q2⟩) hf
  rcases l with ⟨hk, hm⟩ | ⟨hk, c, hc, hcell⟩
  · exact wpAny_loadName_local I.ok.kind hk hn hm go
  · rcases hk with hk | hk
    · exact wpAny_loadName_cell I.ok.kind hk hc hcell go
    · rcases hx with k | k
      · have : X.env.scope.names.lookup x = some .free := hk
        rw [k] at this; cases this
      · have : X.env.scope.names.lookup x = some .free := hk
        rw [k] at this; cases this
/-- ints -/
def ipI (f : Int → Int → Int) : TIp := fun x y H Q => ∃ i j, x = .int i ∧ y = .int j ∧ Q (.int (f i j)) H
theorem ip_add : PIp X .Add (ipI fun i j => i + j) := by
  intro pins s σ H x y v u Q I r1 r2 h
  obtain ⟨i, j, e1, e2, q⟩ := h
  subst e1; subst e2
  obtain ⟨t, rfl⟩ := r1
  obtain ⟨t', rfl⟩ := r2
  exact iadd_int ⟨.int _, H, I.tok _, ⟨_, rfl⟩, q⟩
end

section
variable {X : Cx} {pos : Pos}
/-- the invariant W with its measure -/
def tWhile (c : TT) (tb : TS) : TS := fun D σ H => ∃ W : Nat → St → Hp → Prop, (∃ m, W m σ H) ∧ ∀ m σ H, W m σ H →
  c σ H fun b H1 => if b = true then ∃ N : St → Hp → Prop, (∀ σ' H', N σ' H' → ∃ m', m' < m ∧ W m' σ' H') ∧ tb { D with nx := N, ct := N, bk := D.nx } σ H1 else D.nx σ H1
theorem ps_while {c : Expr} {body : List Stmt} {tc : TT} {tb : TS} (hp : PassesOwn (model X.prog X.w) X.A X.env X.xe) (hc : PT X c tc) (hb : PSs X body tb) : PS X (.While c body [] pos) (tWhile tc tb) := by
  intro pins s σ H D I h
  obtain ⟨W, ⟨m0, w0⟩, turn⟩ := h
  refine wpAny_While (codeAny_whileLoop (fun n s' => ∃ σ' H', Inv X pins σ' H' s' ∧ W n σ' H') ?_ m0 ⟨σ, H, I, w0⟩)
  rintro n s1 ⟨σ1, H1, I1, w1⟩
  refine wpAny_passesOwn hp (thn (hc pins s1 σ1 H1 _ I1 (turn n σ1 H1 w1)) fun b s2 ⟨H2, I2, q2⟩ => ?_)
  cases b with
  | true =>
    obtain ⟨N, hN, q2⟩ := q2
    rw [if_pos rfl]
    refine wpAny_passesOwn hp (thn (hb pins s2 σ1 H2 _ I2 q2) fun f s3 q3 => ?_)
    cases f with
    | next =>
      obtain ⟨σ3, H3, I3, n3⟩ := q3
      obtain ⟨m', hm, w3⟩ := hN σ3 H3 n3
      exact ⟨m', hm, σ3, H3, I3, w3⟩
    | cont =>
      obtain ⟨σ3, H3, I3, n3⟩ := q3
      obtain ⟨m', hm, w3⟩ := hN σ3 H3 n3
      exact ⟨m', hm, σ3, H3, I3, w3⟩
    | brk => exact q3
    | ret v => exact q3
  | false =>
    rw [if_neg Bool.false_ne_true]
    exact wpAny_execs_nil ⟨σ1, H2, I2, q2⟩
end

/-- at turn i: it yields x (the heap may grow), or it stops -/
structure It where
  go : Nat → Hp → Prop
  yld : Nat → Hp → V → Hp → Prop
  stop : Nat → Hp → Prop
/-- the iterator's own objects may turn: they are not the frame's, not pinned, younger than the entry (or a comprehension's own) -/
def FpOk (X : Cx) (pins : List (Addr × Obj)) (H : Hp) (b : Addr) : Prop :=
  H b = none ∧ b ≠ X.env.locals ∧ b ∉ X.fs ∧ (b ∈ X.ex ∨ X.s₀.heap.objs.size ≤ b) ∧ (∀ x c, X.env.cells.lookup x = some c → c ≠ b) ∧ ∀ p ∈ X.pn ++ pins, p.1 ≠ b
theorem Inv.fpOk {X : Cx} {pins : List (Addr × Obj)} {σ : St} {H H' : Hp} {s : Shared} {b : Addr} (I : Inv X pins σ H s) (hb : s.heap.objs.size ≤ b) (hn : H' b = none) : FpOk X pins H' b := by
  refine ⟨hn, Nat.ne_of_gt (Nat.lt_of_lt_of_le I.lt hb), I.nofs hb, .inr (Nat.le_trans I.sz hb), fun x c e z => ?_, fun p hp z => ?_⟩
  · obtain ⟨v, q⟩ := I.cell x c e
    exact absurd (Nat.lt_of_lt_of_le q.lt (by rw [z]; exact hb)) (Nat.lt_irrefl _)
  · exact absurd (Nat.lt_of_lt_of_le (Heap.lt_size (I.pin p hp).1) (by rw [z]; exact hb)) (Nat.lt_irrefl _)
structure Turn (P : Program) (w : World) (K : PySem.W.Frag) (tg : Expr) (J : It) (fp : List Addr) (it : Addr) (tn : Nat → Heap → Prop) : Prop where
  mem : it ∈ fp
  obj : ∀ i h, tn i h → ∀ b ∈ fp, ∃ o, h.get? b = some o ∧ ∀ v, o.data ≠ .cell v
  keep : ∀ i h h', tn i h → (∀ b ∈ fp, ∀ o, h.get? b = some o → h'.get? b = some o) → tn i h'
  item : ∀ (X : Cx), X.prog = P → X.w = w → X.K = K → X.calm = true → ∀ (i : Nat) (pins : List (Addr × Obj)) (s : Shared) (σ : St) (H : Hp) (E : Value → Shared → Prop), Inv X pins σ H s → (∀ b ∈ fp, FpOk X pins H b) → tn i s.heap → J.go i H →
    wpAny (model P w) X.A (pyNext (.ref it)) (fun r s1 => ∃ u, r = some u ∧
      wpAny (model P w) X.A (letOwnedTupleGo tg (.ref it) u) (fun _ s2 => ∃ x H', Inv X pins σ H' s2 ∧ RelV x u ∧ J.yld i H x H' ∧ tn (i + 1) s2.heap ∧ ∀ b ∈ fp, H' b = none) E s1) E s
  done : ∀ (X : Cx), X.prog = P → X.w = w → X.K = K → X.calm = true → ∀ (i : Nat) (pins : List (Addr × Obj)) (s : Shared) (σ : St) (H : Hp) (E : Value → Shared → Prop), Inv X pins σ H s → (∀ b ∈ fp, FpOk X pins H b) → tn i s.heap → J.stop i H →
    wpAny (model P w) X.A (pyNext (.ref it)) (fun r s1 => r = none ∧ Inv X pins σ H s1) E s
  self : ∀ (A : Around) (i : Nat) (s : Shared) (Q : Value → Shared → Prop) (E : Value → Shared → Prop), tn i s.heap → Q (.ref it) s → wpAny (model P w) A (pyIter (.ref it)) Q E s
abbrev TI := St → Hp → (It → Hp → Prop) → Prop
/-- an iterator has come -/
def PIE (X : Cx) (pins : List (Addr × Obj)) (σ : St) (tg : Expr) (R : It → Hp → Prop) (itv : Value) (s2 : Shared) : Prop :=
  ∃ (it : Addr) (fp : List Addr) (tn : Nat → Heap → Prop) (J : It) (H' : Hp), itv = .ref it ∧ Inv X pins σ H' s2 ∧ Turn X.prog X.w X.K tg J fp it tn ∧ tn 0 s2.heap ∧ (∀ b ∈ fp, FpOk X pins H' b) ∧ R J H'
def PI (X : Cx) (tg iter : Expr) (wi : TI) : Prop :=
  ∀ (pins : List (Addr × Obj)) (s : Shared) (σ : St) (H : Hp) (R : It → Hp → Prop), Inv X pins σ H s → wi σ H R →
    wpAny (model X.prog X.w) X.A (eval iter X.env) (fun v s1 => wpAny (model X.prog X.w) X.A (pyIter v) (PIE X pins σ tg R) X.xe s1) X.xe s

/-- the step ahead of the store is nothing for an iterator that keeps no tuple -/
theorem go_of {M : Model} {A : Around} {E : Value → Shared → Prop} {s : Shared} {tg : Expr} {it : Addr} {u : Value} {o : Obj} {n : String} {vs : Array Value} {Q : Unit → Shared → Prop} (ho : s.heap.get? it = some o) (hc : o.cls = .type n) (hd : o.data = .fields vs)
    (hn : ["enumerate", "zip", "dict_itemiterator", "dict_reverseitemiterator", "odict_iterator", "itertools.zip_longest", "itertools.pairwise"].contains n = false) (hQ : Q () s) : wpAny M A (letOwnedTupleGo tg (.ref it) u) Q E s := by
  unfold letOwnedTupleGo
  cases tg <;> first
    | exact wpAny_pure hQ
    | (cases u <;> first
        | exact wpAny_pure hQ
        | (refine wpAny_bind (wpAny_load ho ?_)
           rw [hc, hd]
           show wpAny M A (if (["enumerate", "zip", "dict_itemiterator", "dict_reverseitemiterator", "odict_iterator", "itertools.zip_longest", "itertools.pairwise"].contains n && vs[0]? == some (rawInt _)) = true then _ else _) Q E s
           rw [if_neg (by intro h; rw [hn, Bool.false_and] at h; cases h)]
           exact wpAny_pure hQ))

/-- the list at a, as it stands at each turn (a loop may append to it) -/
def Itl (K : PySem.W.Frag) (a : Addr) : It :=
  ⟨fun i H => ∃ xs x, SqL K H a xs ∧ xs[i]? = some x, fun i H x H' => H' = H ∧ ∀ xs, SqL K H a xs → xs[i]? = some x, fun i H => ∃ xs, SqL K H a xs ∧ xs.length ≤ i⟩
def Itt (K : PySem.W.Frag) (a : Addr) : It :=
  ⟨fun i H => ∃ xs x, SqT K H a xs ∧ xs[i]? = some x, fun i H x H' => H' = H ∧ ∀ xs, SqT K H a xs → xs[i]? = some x, fun i H => ∃ xs, SqT K H a xs ∧ xs.length ≤ i⟩
/-- lo, lo + 1, .. (n of them) -/
def Itr (lo : Int) (n : Nat) : It := ⟨fun i _ => i < n, fun i H x H' => H' = H ∧ x = .int (lo + i), fun i _ => n ≤ i⟩
theorem turn_list {P : Program} {w : World} {K : PySem.W.Frag} {tg : Expr} (a it : Addr) : Turn P w K tg (Itl K a) [it] it (fun i h => h.IsListIter it a i) where
  mem := by simp
  obj := fun i h st b hb => by
    have e : b = it := by simpa using hb
    subst e
    obtain ⟨o, e, c, d⟩ := st
    exact ⟨o, e, fun v z => by rw [d] at z; cases z⟩
  keep := fun i h h' st k => st.at fun o e => k it (by simp) o e
  item := by
    intro X hP hw hK hc i pins s σ H E I hf st hg
    subst hP hw hK
    obtain ⟨xs, x, hq, hx⟩ := hg
    obtain ⟨its, rv, p, hz⟩ := I.list hq
    obtain ⟨u, hu, ru⟩ := rv.get hx
    obtain ⟨f0, f1, f2, f3, f4, f5⟩ := hf it (by simp)
    refine wpAny_pyNext_list_item st p.isList (x := u) (by simpa using hu) fun h' st' sb => ?_
    have I1 : Inv X pins σ H { s with heap := h' } := I.turned (t' := s.toks) (fun b o hb e => (sb.2 b hb).trans e) f0 f1 f3 f4 f5
    obtain ⟨o, e, c, d⟩ := id st'
    exact ⟨u, rfl, go_of (s := { s with heap := h' }) e c d (by decide) ⟨x, H, I1, ru, ⟨rfl, fun ys hy => by rw [I.list_inj hy hq]; exact hx⟩, st', fun b hb => (hf b hb).1⟩⟩
  done := by
    intro X hP hw hK hc i pins s σ H E I hf st hg
    subst hP hw hK
    obtain ⟨xs, hq, hx⟩ := hg
    obtain ⟨its, rv, p, hz⟩ := I.list hq
    obtain ⟨f0, f1, f2, f3, f4, f5⟩ := hf it (by simp)
    have hl := rv.length
    exact wpAny_pyNext_list_end (I.ok.hd hc) st p.isList (by simp; omega) fun h' eb => ⟨rfl, I.turned (t' := s.toks) (fun b o hb e => eb b o hb e) f0 f1 f3 f4 f5⟩
  self := fun _ _ _ _ _ st h => wpAny_pyIter_listiter st h
theorem turn_tuple {P : Program} {w : World} {K : PySem.W.Frag} {tg : Expr} (a it : Addr) : Turn P w K tg (Itt K a) [it] it (fun i h => h.IsTupleIter it a i) where
  mem := by simp
  obj := fun i h st b hb => by
    have e : b = it := by simpa using hb
    subst e
    obtain ⟨o, e, c, d⟩ := st
    exact ⟨o, e, fun v z => by rw [d] at z; cases z⟩
  keep := fun i h h' st k => st.at fun o e => k it (by simp) o e
  item := by
    intro X hP hw hK hc i pins s σ H E I hf st hg
    subst hP hw hK
    obtain ⟨xs, x, hq, hx⟩ := hg
    obtain ⟨its, rv, p, hz⟩ := I.tuple hq
    obtain ⟨u, hu, ru⟩ := rv.get hx
    obtain ⟨f0, f1, f2, f3, f4, f5⟩ := hf it (by simp)
    refine wpAny_pyNext_tuple_item st (show s.heap.IsTuple a its.toArray from p) (x := u) (by simpa using hu) fun h' st' sb => ?_
    have I1 : Inv X pins σ H { s with heap := h' } := I.turned (t' := s.toks) (fun b o hb e => (sb.2 b hb).trans e) f0 f1 f3 f4 f5
    obtain ⟨o, e, c, d⟩ := id st'
    exact ⟨u, rfl, go_of (s := { s with heap := h' }) e c d (by decide) ⟨x, H, I1, ru, ⟨rfl, fun ys hy => by rw [I.tuple_inj hy hq]; exact hx⟩, st', fun b hb => (hf b hb).1⟩⟩
  done := by
    intro X hP hw hK hc i pins s σ H E I hf st hg
    subst hP hw hK
    obtain ⟨xs, hq, hx⟩ := hg
    obtain ⟨its, rv, p, hz⟩ := I.tuple hq
    obtain ⟨f0, f1, f2, f3, f4, f5⟩ := hf it (by simp)
    have hl := rv.length
    exact wpAny_pyNext_tuple_end (I.ok.hd hc) st (show s.heap.IsTuple a its.toArray from p) (by simp; omega) fun h' eb => ⟨rfl, I.turned (t' := s.toks) (fun b o hb e => eb b o hb e) f0 f1 f3 f4 f5⟩
  self := fun _ _ _ _ _ st h => wpAny_pyIter_tupleiter st h
theorem turn_range {P : Program} {w : World} {K : PySem.W.Frag} {tg : Expr} (it : Addr) (lo : Int) (n : Nat) : Turn P w K tg (Itr lo n) [it] it (fun i h => IsRangeIter h it (lo + (i : Nat) * 1) ((n : Int) - (i : Nat)) 1) where
  mem := by simp
  obj := fun i h st b hb => by
    have e : b = it := by simpa using hb
    subst e
    exact ⟨_, st, fun v z => by
      have z' : Data.fields _ = Data.cell v := z
      cases z'⟩
  keep := fun i h h' st k => k it (by simp) _ st
  item := by
    intro X hP hw hK hc i pins s σ H E I hf st hg
    subst hP hw hK
    obtain ⟨f0, f1, f2, f3, f4, f5⟩ := hf it (by simp)
    have W := Walks.range (prog := X.prog) (w := X.w) (I.ok.hd hc) it lo 1 n
    refine W.item i s _ _ hg st fun v h' tk hv st' kk => ?_
    obtain ⟨t, rfl⟩ := hv
    have I1 : Inv X pins σ H { s with heap := h', toks := tk } := I.turned (fun b o hb e => kk b o (by simpa using hb) e) f0 f1 f3 f4 f5
    refine ⟨_, rfl, go_of (s := { s with heap := h', toks := tk }) (n := "range_iterator") st' rfl rfl (by decide) ⟨.int (lo + i), H, I1, ⟨t, ?_⟩, ⟨rfl, rfl⟩, st', fun b hb => (hf b hb).1⟩⟩
    rw [Int.mul_one]
  done := by
    intro X hP hw hK hc i pins s σ H E I hf st hg
    subst hP hw hK
    obtain ⟨f0, f1, f2, f3, f4, f5⟩ := hf it (by simp)
    exact wpAny_pyNext_range_end (I.ok.hd hc) st (by have : n ≤ i := hg; omega) fun h' eb => ⟨rfl, I.turned (t' := s.toks) (fun b o hb e => eb b o hb e) f0 f1 f3 f4 f5⟩
  self := fun _ _ _ _ _ st h => wpAny_pyIter_rangeiter st h
end L2

namespace L2
open PySem PySem.Spec PyProof.Rows
section
variable {X : Cx} {tg : Expr}
def iList (K : PySem.W.Frag) (tl : TE) : TI := fun σ H R => tl σ H fun x H1 => ∃ a, x = .ref a ∧ (∃ xs, SqL K H1 a xs) ∧ R (Itl K a) H1
def iTup (K : PySem.W.Frag) (tl : TE) : TI := fun σ H R => tl σ H fun x H1 => ∃ a, x = .ref a ∧ (∃ xs, SqT K H1 a xs) ∧ R (Itt K a) H1
theorem pi_list {l : Expr} {tl : TE} (hl : PE X l tl) : PI X tg l (iList X.K tl) := by
  intro pins s σ H R I h
  refine thn (hl pins s σ H _ I h) fun v s1 ⟨x, H1, I1, r1, q1⟩ => ?_
  obtain ⟨a, e, ⟨xs, hq⟩, q⟩ := q1
  subst e
  cases r1
  obtain ⟨its, rv, p, hz⟩ := I1.list hq
  refine wpAny_pyIter_list p.isList ?_
  refine ⟨s1.heap.objs.size, [s1.heap.objs.size], _, _, H1, rfl, I1.kept (t' := s1.toks) fun b o e => Heap.get?_push_of_some _ e, turn_list a _, ⟨_, Heap.get?_push_size _ rfl, rfl, rfl⟩, fun b hb => ?_, q⟩
  have e : b = s1.heap.objs.size := by simpa using hb
  subst e
  exact I1.fpOk (Nat.le_refl _) (I1.hok.fresh (Nat.le_refl _))
theorem pi_tup {l : Expr} {tl : TE} (hl : PE X l tl) : PI X tg l (iTup X.K tl) := by
  intro pins s σ H R I h
  refine thn (hl pins s σ H _ I h) fun v s1 ⟨x, H1, I1, r1, q1⟩ => ?_
  obtain ⟨a, e, ⟨xs, hq⟩, q⟩ := q1
  subst e
  cases r1
  obtain ⟨its, rv, p, hz⟩ := I1.tuple hq
  refine wpAny_pyIter_tuple (show s1.heap.IsTuple a its.toArray from p) ?_
  refine ⟨s1.heap.objs.size, [s1.heap.objs.size], _, _, H1, rfl, I1.kept (t' := s1.toks) fun b o e => Heap.get?_push_of_some _ e, turn_tuple a _, ⟨_, Heap.get?_push_size _ rfl, rfl, rfl⟩, fun b hb => ?_, q⟩
  have e : b = s1.heap.objs.size := by simpa using hb
  subst e
  exact I1.fpOk (Nat.le_refl _) (I1.hok.fresh (Nat.le_refl _))
/-- a range object just made, walked -/
theorem range_it {pins : List (Addr × Obj)} {σ : St} {H : Hp} {s : Shared} {R : It → Hp → Prop} {E : Value → Shared → Prop} {lo hi : Int} {t u v : Tok} {tk : Nat} (I : Inv X pins σ H s) (h1 : -(2 ^ 62) ≤ lo) (h2 : lo < 2 ^ 62) (h3 : -(2 ^ 62) ≤ hi) (h4 : hi < 2 ^ 62)
    (q : R (Itr lo (hi - lo).toNat) H) : wpAny (model X.prog X.w) X.A (pyIter (.ref s.heap.objs.size)) (PIE X pins σ tg R) E { s with heap := s.heap.push { cls := .type "range", data := .fields #[.int lo t, .int hi u, .int 1 v] }, toks := tk } := by
  refine wpAny_pyIter_range (IsRange.new ..) (small_one h1 h2 h3 h4) ?_
  have I1 : Inv X pins σ H { s with heap := s.heap.push { cls := .type "range", data := .fields #[.int lo t, .int hi u, .int 1 v] }, toks := tk } := I.kept fun b o e => Heap.get?_push_of_some _ e
  refine ⟨(s.heap.push { cls := .type "range", data := .fields #[.int lo t, .int hi u, .int 1 v] }).objs.size, [(s.heap.push { cls := .type "range", data := .fields #[.int lo t, .int hi u, .int 1 v] }).objs.size], _, _, H, rfl,
    I1.kept (t' := tk) fun b o e => Heap.get?_push_of_some _ e, turn_range _ lo (hi - lo).toNat, ?_, fun b hb => ?_, q⟩
  · have e1 : lo + ((0 : Nat) : Int) * 1 = lo := by simp
    have e2 : (((hi - lo).toNat : Nat) : Int) - ((0 : Nat) : Int) = Builtin.Range.rangeSize lo hi 1 := by rw [rangeSize_one]; split <;> omega
    show IsRangeIter _ _ (lo + ((0 : Nat) : Int) * 1) ((((hi - lo).toNat : Nat) : Int) - ((0 : Nat) : Int)) 1
    rw [e1, e2]
    exact Heap.get?_push_size _ rfl
  · have e : b = (s.heap.push { cls := .type "range", data := .fields #[.int lo t, .int hi u, .int 1 v] }).objs.size := by simpa using hb
    subst e
    exact I1.fpOk (Nat.le_refl _) (I1.hok.fresh (Nat.le_refl _))
def iRng1 (ta : TA) : TI := fun σ H R => ta σ H fun vs H1 => ∃ j : Int, vs = [.int j] ∧ -(2 ^ 62) ≤ j ∧ j < 2 ^ 62 ∧ R (Itr 0 j.toNat) H1
theorem pi_range1 {a : Expr} {ta : TA} {p pos : Pos} (hg : Gl X "range") (hm : X.mg "range" = none) (ha : PA X [a] ta) (hs : starEach [a] X.env = [(false, eval a X.env)] := by rfl) : PI X tg (.Call (.Name "range" p) [a] [] pos) (iRng1 ta) := by
  intro pins s σ H R I h
  refine Call_ (ld_blt I hg hm boot_range (PyProof.Rows.callWith_type1 (thn (ha pos pins s σ H _ I h) fun us s1 ⟨vs, H1, I1, r1, q1⟩ => ?_) hs rfl))
  obtain ⟨j, e, q1, q2, q⟩ := q1
  subst e
  cases r1 with
  | cons r rr =>
    cases rr
    obtain ⟨t, rfl⟩ := r
    exact call_range_1 (range_it I1 (by omega) (by omega) q1 q2 (by simpa using q))
/-- W: the invariant by the turn and a measure; N: what the body is to reach -/
def tFor (wi : TI) (g : TG) (tb : TS) : TS := fun D σ H => wi σ H fun J H1 => ∃ W : Nat → Nat → St → Hp → Prop, (∃ m, W 0 m σ H1) ∧ ∀ i m σ H, W i m σ H →
  (J.stop i H ∧ D.nx σ H) ∨ (J.go i H ∧ ∃ N : St → Hp → Prop, (∀ σ' H', N σ' H' → ∃ m', m' < m ∧ W (i + 1) m' σ' H') ∧ ∀ x H', J.yld i H x H' → g x σ H' fun σ2 H2 => tb { D with nx := N, ct := N, bk := D.nx } σ2 H2)
/-- the records at fp as they stand -/
def pinsAt (fp : List Addr) (h : Heap) : List (Addr × Obj) := fp.filterMap fun b => (h.get? b).map fun o => (b, o)
theorem mem_pinsAt {fp : List Addr} {h : Heap} {b : Addr} {o : Obj} (hb : b ∈ fp) (e : h.get? b = some o) : (b, o) ∈ pinsAt fp h := List.mem_filterMap.mpr ⟨b, hb, by rw [e]; rfl⟩
theorem of_pinsAt {fp : List Addr} {h : Heap} {p : Addr × Obj} (hp : p ∈ pinsAt fp h) : p.1 ∈ fp ∧ h.get? p.1 = some p.2 := by
  obtain ⟨b, hb, e⟩ := List.mem_filterMap.mp hp
  cases q : h.get? b with
  | none => rw [q] at e; cases e
  | some o =>
    rw [q] at e
    have e' : (b, o) = p := Option.some.inj e
    subst e'
    exact ⟨hb, q⟩
theorem Inv.pinned {pins : List (Addr × Obj)} {σ : St} {H : Hp} {s : Shared} {fp : List Addr} (I : Inv X pins σ H s) (hf : ∀ b ∈ fp, FpOk X pins H b) (ho : ∀ b ∈ fp, ∃ o, s.heap.get? b = some o ∧ ∀ v, o.data ≠ .cell v) : Inv X (pins ++ pinsAt fp s.heap) σ H s :=
  I.pins_of fun p hp => (List.mem_append.mp hp).elim (fun z => I.pin p (List.mem_append_right _ z)) fun z => by
    obtain ⟨hb, e⟩ := of_pinsAt z
    obtain ⟨f0, f1, f2, _⟩ := hf p.1 hb
    obtain ⟨o, e', d⟩ := ho p.1 hb
    rw [e] at e'; cases e'
    exact ⟨e, f0, f1, f2, d⟩
theorem Inv.unpinned {pins pl : List (Addr × Obj)} {σ : St} {H : Hp} {s : Shared} (I : Inv X (pins ++ pl) σ H s) : Inv X pins σ H s := I.pins_of fun p hp => I.pin p (List.mem_append_right _ (List.mem_append_left _ hp))
theorem ps_for {iter : Expr} {body : List Stmt} {wi : TI} {g : TG} {tb : TS} {pos : Pos} (hp : PassesOwn (model X.prog X.w) X.A X.env X.xe) (hc : X.calm = true) (hi : PI X tg iter wi) (hg : PG X tg g) (hb : PSs X body tb)
    (hs : ∀ x, foldedSetIterable iter X.env x = pure x := by intro _; rfl) : PS X (.For tg iter body [] pos) (tFor wi g tb) := by
  intro pins s σ H D I h
  refine wpAny_For (thn (hi pins s σ H _ I h) fun v s1 h1 => thn h1 fun itv s2 h2 => ?_) hs
  obtain ⟨it, fp, tn, J, H2, e, I2, T, st2, f2, W, ⟨m0, w0⟩, turn⟩ := h2
  subst e
  -- what stays true of the iterator's objects through the loop
  have stat : ∀ {H' : Hp}, (∀ b ∈ fp, H' b = none) → ∀ b ∈ fp, FpOk X pins H' b := fun hn b hb => ⟨hn b hb, (f2 b hb).2⟩
  refine codeAny_forLoop_any (fun n s' => ∃ i σ' H', Inv X pins σ' H' s' ∧ tn i s'.heap ∧ (∀ b ∈ fp, H' b = none) ∧ W i n σ' H') ?_ m0 ⟨0, σ, H2, I2, st2, fun b hb => (f2 b hb).1, w0⟩
  rintro n s3 ⟨i, σ3, H3, I3, st3, fr3, w3⟩
  rcases turn i n σ3 H3 w3 with ⟨stop, qn⟩ | ⟨go, N, hN, step⟩
  · refine wpAny_passesOwn hp (thn (T.done X rfl rfl rfl hc i pins s3 σ3 H3 X.xe I3 (stat fr3) st3 stop) fun r s4 ⟨hr, I4⟩ => ?_)
    subst hr
    exact wpAny_execs_nil ⟨σ3, H3, I4, qn⟩
  · refine wpAny_passesOwn hp (thn (T.item X rfl rfl rfl hc i pins s3 σ3 H3 X.xe I3 (stat fr3) st3 go) fun r s4 ⟨u, hr, h4⟩ => ?_)
    subst hr
    refine wpAny_passesOwn hp (thn h4 fun _ s5 ⟨x, H5, I5, r5, y5, st5, fr5⟩ => ?_)
    have I5' := I5.pinned (stat fr5) (T.obj _ _ st5)
    refine wpAny_passesOwn hp (thn (hg _ s5 σ3 H5 x u _ I5' r5 (step x H5 y5)) fun _ s6 ⟨σ6, H6, I6, q6⟩ => ?_)
    refine wpAny_passesOwn hp (thn (hb _ s6 σ6 H6 _ I6 q6) fun f s7 q7 => ?_)
    have again : ∀ {σ7 : St} {H7 : Hp}, Inv X (pins ++ pinsAt fp s5.heap) σ7 H7 s7 → N σ7 H7 → ∃ m, m < n ∧ ∃ i σ' H', Inv X pins σ' H' s7 ∧ tn i s7.heap ∧ (∀ b ∈ fp, H' b = none) ∧ W i m σ' H' := fun {σ7 H7} I7 n7 => by
      obtain ⟨m', hm, w7⟩ := hN σ7 H7 n7
      refine ⟨m', hm, i + 1, σ7, H7, I7.unpinned, T.keep _ _ _ st5 fun b hb o e => (I7.pin (b, o) (List.mem_append_right _ (List.mem_append_right _ (mem_pinsAt hb e)))).1, fun b hb => ?_, w7⟩
      obtain ⟨o, e, d⟩ := T.obj _ _ st5 b hb
      exact (I7.pin (b, o) (List.mem_append_right _ (List.mem_append_right _ (mem_pinsAt hb e)))).2.1
    cases f with
    | next => obtain ⟨σ7, H7, I7, n7⟩ := q7; exact again I7 n7
    | cont => obtain ⟨σ7, H7, I7, n7⟩ := q7; exact again I7 n7
    | brk => obtain ⟨σ7, H7, I7, q7⟩ := q7; exact ⟨σ7, H7, I7.unpinned, q7⟩
    | ret v => obtain ⟨x7, σ7, H7, I7, r7, q7⟩ := q7; exact ⟨x7, σ7, H7, I7.unpinned, r7, q7⟩
end

/-- over a list that the body leaves as it is -/
theorem for_list {K : PySem.W.Frag} {a : Addr} {xs : List V} {g : TG} {tb : TS} {D : Ends} {σ : St} {H : Hp} (Pv : Nat → St → Hp → Prop) (h0 : Pv 0 σ H) (hl : ∀ i σ H, i ≤ xs.length → Pv i σ H → SqL K H a xs)
    (hs : ∀ i x σ H, xs[i]? = some x → Pv i σ H → g x σ H fun σ2 H2 => tb { D with nx := Pv (i + 1), ct := Pv (i + 1), bk := D.nx } σ2 H2) (hd : ∀ σ H, Pv xs.length σ H → D.nx σ H) :
    ∃ W : Nat → Nat → St → Hp → Prop, (∃ m, W 0 m σ H) ∧ ∀ i m σ H, W i m σ H →
      ((Itl K a).stop i H ∧ D.nx σ H) ∨ ((Itl K a).go i H ∧ ∃ N : St → Hp → Prop, (∀ σ' H', N σ' H' → ∃ m', m' < m ∧ W (i + 1) m' σ' H') ∧ ∀ x H', (Itl K a).yld i H x H' → g x σ H' fun σ2 H2 => tb { D with nx := N, ct := N, bk := D.nx } σ2 H2) := by
  refine ⟨fun i m σ H => m = xs.length - i ∧ i ≤ xs.length ∧ Pv i σ H, ⟨xs.length, by simp, Nat.zero_le _, h0⟩, ?_⟩
  rintro i m σ H ⟨rfl, hi, p⟩
  have q := hl i σ H hi p
  by_cases hlt : i < xs.length
  · refine .inr ⟨⟨xs, xs[i], q, by simp [hlt]⟩, Pv (i + 1), fun σ' H' p' => ⟨xs.length - (i + 1), by omega, rfl, hlt, p'⟩, fun x H' y => ?_⟩
    obtain ⟨e, y⟩ := y
    subst e
    exact hs i x σ _ (y xs q) p
  · have e : i = xs.length := by omega
    subst e
    exact .inl ⟨⟨xs, q, Nat.le_refl _⟩, hd σ H p⟩
theorem for_tup {K : PySem.W.Frag} {a : Addr} {xs : List V} {g : TG} {tb : TS} {D : Ends} {σ : St} {H : Hp} (Pv : Nat → St → Hp → Prop) (h0 : Pv 0 σ H) (hl : ∀ i σ H, i ≤ xs.length → Pv i σ H → SqT K H a xs)
    (hs : ∀ i x σ H, xs[i]? = some x → Pv i σ H → g x σ H fun σ2 H2 => tb { D with nx := Pv (i + 1), ct := Pv (i + 1), bk := D.nx } σ2 H2) (hd : ∀ σ H, Pv xs.length σ H → D.nx σ H) :
    ∃ W : Nat → Nat → St → Hp → Prop, (∃ m, W 0 m σ H) ∧ ∀ i m σ H, W i m σ H →
      ((Itt K a).stop i H ∧ D.nx σ H) ∨ ((Itt K a).go i H ∧ ∃ N : St → Hp → Prop, (∀ σ' H', N σ' H' → ∃ m', m' < m ∧ W (i + 1) m' σ' H') ∧ ∀ x H', (Itt K a).yld i H x H' → g x σ H' fun σ2 H2 => tb { D with nx := N, ct := N, bk := D.nx } σ2 H2) := by
  refine ⟨fun i m σ H => m = xs.length - i ∧ i ≤ xs.length ∧ Pv i σ H, ⟨xs.length, by simp, Nat.zero_le _, h0⟩, ?_⟩
  rintro i m σ H ⟨rfl, hi, p⟩
  have q := hl i σ H hi p
  by_cases hlt : i < xs.length
  · refine .inr ⟨⟨xs, xs[i], q, by simp [hlt]⟩, Pv (i + 1), fun σ' H' p' => ⟨xs.length - (i + 1), by omega, rfl, hlt, p'⟩, fun x H' y => ?_⟩
    obtain ⟨e, y⟩ := y
    subst e
    exact hs i x σ _ (y xs q) p
  · have e : i = xs.length := by omega
    subst e
    exact .inl ⟨⟨xs, q, Nat.le_refl _⟩, hd σ H p⟩
theorem for_range {lo : Int} {n : Nat} {g : TG} {tb : TS} {D : Ends} {σ : St} {H : Hp} (Pv : Nat → St → Hp → Prop) (h0 : Pv 0 σ H)
    (hs : ∀ i σ H, i < n → Pv i σ H → g (.int (lo + i)) σ H fun σ2 H2 => tb { D with nx := Pv (i + 1), ct := Pv (i + 1), bk := D.nx } σ2 H2) (hd : ∀ σ H, Pv n σ H → D.nx σ H) :
    ∃ W : Nat → Nat → St → Hp → Prop, (∃ m, W 0 m σ H) ∧ ∀ i m σ H, W i m σ H →
      ((Itr lo n).stop i H ∧ D.nx σ H) ∨ ((Itr lo n).go i H ∧ ∃ N : St → Hp → Prop, (∀ σ' H', N σ' H' → ∃ m', m' < m ∧ W (i + 1) m' σ' H') ∧ ∀ x H', (Itr lo n).yld i H x H' → g x σ H' fun σ2 H2 => tb { D with nx := N, ct := N, bk := D.nx } σ2 H2) := by
  refine ⟨fun i m σ H => m = n - i ∧ i ≤ n ∧ Pv i σ H, ⟨n, by simp, Nat.zero_le _, h0⟩, ?_⟩
  rintro i m σ H ⟨rfl, hi, p⟩
  by_cases hlt : i < n
  · refine .inr ⟨hlt, Pv (i + 1), fun σ' H' p' => ⟨n - (i + 1), by omega, rfl, hlt, p'⟩, fun x H' y => ?_⟩
    obtain ⟨e, y⟩ := y
    subst e y
    exact hs i σ _ hlt p
  · have e : i = n := by omega
    subst e
    exact .inl ⟨Nat.le_refl _, hd σ H p⟩
/-- while, by a word and a measure of the state -/
theorem while_by {c : TT} {tb : TS} {D : Ends} {σ : St} {H : Hp} (Pv : St → Hp → Prop) (μ : St → Hp → Nat) (h0 : Pv σ H)
    (hs : ∀ σ H, Pv σ H → c σ H fun b H1 => if b = true then tb { D with nx := fun σ' H' => Pv σ' H' ∧ μ σ' H' < μ σ H, ct := fun σ' H' => Pv σ' H' ∧ μ σ' H' < μ σ H, bk := D.nx } σ H1 else D.nx σ H1)
    (mono : ∀ σ H Q Q', (∀ b H1, Q b H1 → Q' b H1) → c σ H Q → c σ H Q') : tWhile c tb D σ H := by
  refine ⟨fun m σ H => m = μ σ H ∧ Pv σ H, ⟨_, rfl, h0⟩, ?_⟩
  rintro m σ H ⟨rfl, p⟩
  refine mono σ H _ _ (fun b H1 q => ?_) (hs σ H p)
  cases b with
  | true => exact ⟨_, fun σ' H' ⟨p', l⟩ => ⟨_, l, rfl, p'⟩, q⟩
  | false => exact q
end L2

namespace L2
open PySem PySem.Spec PyProof.Rows

abbrev R2 := V → V → Hp → VK → Prop
/-- a two-place operation on values: f is binaryOp op, inplaceOp op or compareOp op -/
def OpR (X : Cx) (f : Value → Value → Sem Value) (r : R2) : Prop :=
  ∀ (pins : List (Addr × Obj)) (s : Shared) (σ : St) (H : Hp) (x y : V) (v u : Value) (Q : VK), Inv X pins σ H s → RelV x v → RelV y u → r x y H Q →
    wpAny (model X.prog X.w) X.A (f v u) (EP X pins σ Q) X.xe s
/-- a one-place operation -/
def UnR (X : Cx) (f : Value → Sem Value) (r : V → Hp → VK → Prop) : Prop :=
  ∀ (pins : List (Addr × Obj)) (s : Shared) (σ : St) (H : Hp) (x : V) (v : Value) (Q : VK), Inv X pins σ H s → RelV x v → r x H Q →
    wpAny (model X.prog X.w) X.A (f v) (EP X pins σ Q) X.xe s
/-- a call of a value that is known (a builtin, a type) with values -/
def CallR (X : Cx) (f : Value) (r : List V → Hp → VK → Prop) : Prop :=
  ∀ (pins : List (Addr × Obj)) (s : Shared) (σ : St) (H : Hp) (xs : List V) (us : List Value) (Q : VK), Inv X pins σ H s → Vals xs us → r xs H Q →
    wpAny (model X.prog X.w) X.A (call f us) (EP X pins σ Q) X.xe s
def tOp (r : R2) (ta tb : TE) : TE := fun σ H Q => ta σ H fun x H1 => tb σ H1 fun y H2 => r x y H2 Q
def tUn (r : V → Hp → VK → Prop) (ta : TE) : TE := fun σ H Q => ta σ H fun x H1 => r x H1 Q
/-- ints in, under C, and a value out -/
def rI (C : Int → Int → Prop) (g : Int → Int → V) : R2 := fun x y H Q => ∃ i j, x = .int i ∧ y = .int j ∧ C i j ∧ Q (g i j) H
def rI0 (g : Int → Int → V) : R2 := fun x y H Q => ∃ i j, x = .int i ∧ y = .int j ∧ Q (g i j) H
def rU (g : Int → V) : V → Hp → VK → Prop := fun x H Q => ∃ i, x = .int i ∧ Q (g i) H

section
variable {X : Cx} {a b c : Expr} {ta tb tc : TE} {pos : Pos}

theorem binT (ha : PE X a ta) (hb : PE X b tb) {pins : List (Addr × Obj)} {s : Shared} {σ : St} {H : Hp} {R : V → V → Hp → Prop} (I : Inv X pins σ H s)
    (h : ta σ H fun x H1 => tb σ H1 fun y H2 => R x y H2) {Q : Value → Shared → Prop} {f : Value → Value → Sem Value}
    (hf : ∀ v u s2 x y H2, Inv X pins σ H2 s2 → RelV x v → RelV y u → R x y H2 → wpAny (model X.prog X.w) X.A (f v u) Q X.xe s2) :
    wpAny (model X.prog X.w) X.A (eval a X.env) (fun v s₁ => wpAny (model X.prog X.w) X.A (eval b X.env) (fun u s₂ => wpAny (model X.prog X.w) X.A (f v u) Q X.xe s₂) X.xe s₁) X.xe s := by
  refine thn (ha pins s σ H _ I h) fun v s1 ⟨x, H1, I1, r1, q1⟩ => ?_
  refine thn (hb pins s1 σ H1 _ I1 q1) fun u s2 ⟨y, H2, I2, r2, q2⟩ => ?_
  exact hf v u s2 x y H2 I2 r1 r2 q2

theorem pe_op {op : Operator} {r : R2} (ho : OpR X (binaryOp op) r) (ha : PE X a ta) (hb : PE X b tb) : PE X (.BinOp a op b pos) (tOp r ta tb) := by
  intro pins s σ H Q I h
  exact wpAny_BinOp (binT ha hb I h fun v u s2 x y H2 I2 rx ry q => ho pins s2 σ H2 x y v u Q I2 rx ry q)
theorem pe_un {op : UnaryOp} {r : V → Hp → VK → Prop} (ho : UnR X (unaryOp op) r) (ha : PE X a ta) : PE X (.UnaryOp op a pos) (tUn r ta) := by
  intro pins s σ H Q I h
  exact UnaryOp_ (thn (ha pins s σ H _ I h) fun v s1 ⟨x, H1, I1, r1, q1⟩ => ho pins s1 σ H1 x v Q I1 r1 q1)
theorem opI {f : Value → Value → Sem Value} {C : Int → Int → Prop} {g : Int → Int → Int}
    (rule : ∀ (i j : Int) (t u : Tok) (s : Shared) (Q : Value → Shared → Prop) (E : Value → Shared → Prop), C i j → Q (.int (g i j) s.toks) { s with toks := s.toks + 1 } → wpAny (model X.prog X.w) X.A (f (.int i t) (.int j u)) Q E s) :
    OpR X f (rI C fun i j => .int (g i j)) := by
  intro pins s σ H x y v u Q I rx ry h
  obtain ⟨i, j, rfl, rfl, hc, q⟩ := h
  obtain ⟨t, rfl⟩ := rx
  obtain ⟨t', rfl⟩ := ry
  exact rule i j t t' s _ _ hc ⟨.int (g i j), H, I.tok _, ⟨_, rfl⟩, q⟩
theorem opI0 {f : Value → Value → Sem Value} {g : Int → Int → Int}
    (rule : ∀ (i j : Int) (t u : Tok) (s : Shared) (Q : Value → Shared → Prop) (E : Value → Shared → Prop), Q (.int (g i j) s.toks) { s with toks := s.toks + 1 } → wpAny (model X.prog X.w) X.A (f (.int i t) (.int j u)) Q E s) :
    OpR X f (rI0 fun i j => .int (g i j)) := by
  intro pins s σ H x y v u Q I rx ry h
  obtain ⟨i, j, rfl, rfl, q⟩ := h
  obtain ⟨t, rfl⟩ := rx
  obtain ⟨t', rfl⟩ := ry
  exact rule i j t t' s _ _ ⟨.int (g i j), H, I.tok _, ⟨_, rfl⟩, q⟩
theorem opB0 {f : Value → Value → Sem Value} {g : Int → Int → Bool}
    (rule : ∀ (i j : Int) (t u : Tok) (s : Shared) (Q : Value → Shared → Prop) (E : Value → Shared → Prop), Q (.bool (g i j)) s → wpAny (model X.prog X.w) X.A (f (.int i t) (.int j u)) Q E s) :
    OpR X f (rI0 fun i j => .bl (g i j)) := by
  intro pins s σ H x y v u Q I rx ry h
  obtain ⟨i, j, rfl, rfl, q⟩ := h
  obtain ⟨t, rfl⟩ := rx
  obtain ⟨t', rfl⟩ := ry
  exact rule i j t t' s _ _ ⟨.bl (g i j), H, I, rfl, q⟩

def CDiv (i j : Int) : Prop := 0 < j ∧ j < 1073741824
def CMul (i j : Int) : Prop := (-(2 ^ 64) < i ∧ i < 2 ^ 64) ∨ (-(2 ^ 64) < j ∧ j < 2 ^ 64)
theorem CMul.ok {i j : Int} (h : CMul i j) : IntMulOk i j := by
  rcases h with ⟨h1, h2⟩ | ⟨h1, h2⟩
  · exact .of_left (intBits_le_64 h1 h2)
  · exact .of_right (intBits_le_64 h1 h2)
theorem op_add : OpR X (binaryOp .Add) (rI0 fun i j => .int (i + j)) := opI0 fun _ _ _ _ _ _ _ q => add_int q
theorem op_sub : OpR X (binaryOp .Sub) (rI0 fun i j => .int (i - j)) := opI0 fun _ _ _ _ _ _ _ q => sub_int q
theorem op_mul : OpR X (binaryOp .Mult) (rI CMul fun i j => .int (i * j)) := opI fun _ _ _ _ _ _ _ hc q => mul_int q hc.ok
/-- // by a positive divisor -/
theorem op_fdiv : OpR X (binaryOp .FloorDiv) (rI CDiv fun i j => .int (i / j)) := opI fun i j _ _ _ _ _ hc q => by
  have h1 : (0 : Int) < j := hc.1
  have h2 : j < 1073741824 := hc.2
  exact floordiv_int (by omega) (by rw [Int.fdiv_eq_ediv_of_nonneg i (by omega)]; exact q) (.inl (PyProof.noPylong_small (by omega)))
/-- % by a positive divisor of any size -/
theorem op_mod : OpR X (binaryOp .Mod) (rI (fun _ j => 0 < j) fun i j => .int (i % j)) := opI fun i j _ _ _ _ _ hc q => by
  have h1 : (0 : Int) < j := hc
  exact mod_int' (by omega) (by rw [Int.fmod_eq_emod_of_nonneg i (by omega)]; exact q)
theorem unI {f : Value → Sem Value} {g : Int → Int}
    (rule : ∀ (i : Int) (t : Tok) (s : Shared) (Q : Value → Shared → Prop) (E : Value → Shared → Prop), Q (.int (g i) s.toks) { s with toks := s.toks + 1 } → wpAny (model X.prog X.w) X.A (f (.int i t)) Q E s) :
    UnR X f (rU fun i => .int (g i)) := by
  intro pins s σ H x v Q I rx h
  obtain ⟨i, rfl, q⟩ := h
  obtain ⟨t, rfl⟩ := rx
  exact rule i t s _ _ ⟨.int (g i), H, I.tok _, ⟨_, rfl⟩, q⟩
theorem un_neg : UnR X (unaryOp .USub) (rU fun i => .int (-i)) := unI fun _ _ _ _ _ q => neg_int q
end

/-- the scalars that == tells apart as data does -/
def scal : V → V → Bool
  | .non, .non => true | .non, .int _ => true | .int _, .non => true | .non, .bl _ => true | .bl _, .non => true | .non, .str _ => true | .str _, .non => true
  | .int _, .int _ => true | .bl _, .bl _ => true | .str _, .str _ => true | .byt _, .byt _ => true
  | .int _, .str _ => true | .str _, .int _ => true | .bl _, .str _ => true | .str _, .bl _ => true
  | _, _ => false
def rEq : R2 := fun x y H Q => scal x y = true ∧ Q (.bl (decide (x = y))) H
def rNe : R2 := fun x y H Q => scal x y = true ∧ Q (.bl (!decide (x = y))) H

theorem dec_int {i j : Int} : decide (V.int i = V.int j) = (i == j) := by
  rw [Bool.eq_iff_iff]
  simp
theorem dec_bl {i j : Bool} : decide (V.bl i = V.bl j) = (i == j) := by
  rw [Bool.eq_iff_iff]
  simp
theorem dec_str {i j : Str} : decide (V.str i = V.str j) = (i == j) := by
  rw [Bool.eq_iff_iff]
  simp
theorem dec_byt {i j : Array UInt8} : decide (V.byt i = V.byt j) = (i.toList == j.toList) := by
  rw [Bool.eq_iff_iff]
  cases i
  cases j
  simp

section
variable {X : Cx} {a b c : Expr} {ta tb tc : TE} {pos : Pos}
theorem fin_bl {pins : List (Addr × Obj)} {σ : St} {H : Hp} {s : Shared} {Q : VK} {k k' : Bool} (I : Inv X pins σ H s) (q : Q (.bl k) H) (e : k = k') : EP X pins σ Q (.bool k') s := by
  subst e
  exact ⟨.bl k, H, I, rfl, q⟩
theorem op_eq : OpR X (compareOp .Eq) rEq := by
  intro pins s σ H x y v u Q I rx ry h
  obtain ⟨hs, q⟩ := h
  cases x with
  | non =>
    cases rx
    cases y with
    | non => cases ry; exact PySem.EqNone.eq_none_none (fin_bl I q (by simp))
    | bl j => cases ry; exact PySem.EqNone.eq_none_bool (fin_bl I q (by simp))
    | int j => obtain ⟨t', rfl⟩ := ry; exact PySem.EqNone.eq_none_int (fin_bl I q (by simp))
    | str j => obtain ⟨t', rfl⟩ := ry; exact PySem.EqNone.eq_none_str (fin_bl I q (by simp))
    | _ => exact absurd (show false = true from hs) Bool.false_ne_true
  | bl i =>
    cases rx
    cases y with
    | non => cases ry; exact PySem.EqNone.eq_bool_none (fin_bl I q (by simp))
    | bl j => cases ry; exact eq_bool (fin_bl I q dec_bl)
    | str j => obtain ⟨t', rfl⟩ := ry; exact PySem.EqMixed.eq_bool_str (fin_bl I q (by simp))
    | _ => exact absurd (show false = true from hs) Bool.false_ne_true
  | int i =>
    obtain ⟨t, rfl⟩ := rx
    cases y with
    | non => cases ry; exact PySem.EqNone.eq_int_none (fin_bl I q (by simp))
    | int j => obtain ⟨t', rfl⟩ := ry; exact eq_int (fin_bl I q dec_int)
    | str j => obtain ⟨t', rfl⟩ := ry; exact PySem.EqMixed.eq_int_str (fin_bl I q (by simp))
    | _ => exact absurd (show false = true from hs) Bool.false_ne_true
  | str i =>
    obtain ⟨t, rfl⟩ := rx
    cases y with
    | non => cases ry; exact PySem.EqNone.eq_str_none (fin_bl I q (by simp))
    | bl j => cases ry; exact PySem.EqMixed.eq_str_bool (fin_bl I q (by simp))
    | int j => obtain ⟨t', rfl⟩ := ry; exact PySem.EqMixed.eq_str_int (fin_bl I q (by simp))
    | str j => obtain ⟨t', rfl⟩ := ry; exact eq_str (fin_bl I q dec_str)
    | _ => exact absurd (show false = true from hs) Bool.false_ne_true
  | byt i =>
    obtain ⟨t, rfl⟩ := rx
    cases y with
    | byt j => obtain ⟨t', rfl⟩ := ry; exact PySem.W.eq_bytes (fin_bl I q dec_byt)
    | _ => exact absurd (show false = true from hs) Bool.false_ne_true
  | _ => cases y <;> exact absurd (show false = true from hs) Bool.false_ne_true
theorem op_ne : OpR X (compareOp .NotEq) rNe := by
  intro pins s σ H x y v u Q I rx ry h
  obtain ⟨hs, q⟩ := h
  cases x with
  | non =>
    cases rx
    cases y with
    | non => cases ry; exact PySem.EqNone.ne_none_none (fin_bl I q (by simp))
    | bl j => cases ry; exact PySem.EqNone.ne_none_bool (fin_bl I q (by simp))
    | int j => obtain ⟨t', rfl⟩ := ry; exact PySem.EqNone.ne_none_int (fin_bl I q (by simp))
    | str j => obtain ⟨t', rfl⟩ := ry; exact PySem.EqNone.ne_none_str (fin_bl I q (by simp))
    | _ => exact absurd (show false = true from hs) Bool.false_ne_true
  | bl i =>
    cases rx
    cases y with
    | non => cases ry; exact PySem.EqNone.ne_bool_none (fin_bl I q (by simp))
    | bl j => cases ry; exact ne_bool (fin_bl I q (congrArg not dec_bl))
    | str j => obtain ⟨t', rfl⟩ := ry; exact PySem.EqMixed.ne_bool_str (fin_bl I q (by simp))
    | _ => exact absurd (show false = true from hs) Bool.false_ne_true
  | int i =>
    obtain ⟨t, rfl⟩ := rx
    cases y with
    | non => cases ry; exact PySem.EqNone.ne_int_none (fin_bl I q (by simp))
    | int j => obtain ⟨t', rfl⟩ := ry; exact ne_int (fin_bl I q (congrArg not dec_int))
    | str j => obtain ⟨t', rfl⟩ := ry; exact PySem.EqMixed.ne_int_str (fin_bl I q (by simp))
    | _ => exact absurd (show false = true from hs) Bool.false_ne_true
  | str i =>
    obtain ⟨t, rfl⟩ := rx
    cases y with
    | non => cases ry; exact PySem.EqNone.ne_str_none (fin_bl I q (by simp))
    | bl j => cases ry; exact PySem.EqMixed.ne_str_bool (fin_bl I q (by simp))
    | int j => obtain ⟨t', rfl⟩ := ry; exact PySem.EqMixed.ne_str_int (fin_bl I q (by simp))
    | str j => obtain ⟨t', rfl⟩ := ry; exact ne_str (fin_bl I q (congrArg not dec_str))
    | _ => exact absurd (show false = true from hs) Bool.false_ne_true
  | byt i =>
    obtain ⟨t, rfl⟩ := rx
    cases y with
    | byt j => obtain ⟨t', rfl⟩ := ry; exact PySem.W.ne_bytes (fin_bl I q (congrArg not dec_byt))
    | _ => exact absurd (show false = true from hs) Bool.false_ne_true
  | _ => cases y <;> exact absurd (show false = true from hs) Bool.false_ne_true

theorem op_lt : OpR X (compareOp .Lt) (rI0 fun i j => .bl (decide (i < j))) := opB0 fun _ _ _ _ _ _ _ q => lt_int q
theorem op_le : OpR X (compareOp .LtE) (rI0 fun i j => .bl (decide (i ≤ j))) := opB0 fun _ _ _ _ _ _ _ q => le_int q
theorem op_gt : OpR X (compareOp .Gt) (rI0 fun i j => .bl (decide (j < i))) := opB0 fun _ _ _ _ _ _ _ q => gt_int q
/-- is None, is not None: the right side a value none -/
theorem op_isN : OpR X (compareOp .Is) (fun x y H Q => y = .non ∧ Q (.bl (decide (x = .non))) H) := by
  intro pins s σ H x y v u Q I rx ry h
  obtain ⟨rfl, q⟩ := h
  cases ry
  refine is_none_gen (fin_bl I q ?_)
  cases x <;> first
    | (cases rx; rfl)
    | (obtain ⟨t, rfl⟩ := rx; rfl)
theorem nomark (b : Expr) {op : CmpOp} (h : op ≠ .In := by decide) (h2 : op ≠ .NotIn := by decide) : behindInMarks op b = false := by
  have e1 : (op == CmpOp.In) = false := by cases op <;> first | rfl | exact absurd rfl h
  have e2 : (op == CmpOp.NotIn) = false := by cases op <;> first | rfl | exact absurd rfl h2
  cases b <;> simp [behindInMarks, e1, e2]
/-- a comparison as a value; hm: nomark b, or (for in, not in) by with_unfolding_all rfl -/
theorem pe_cmpR {op : CmpOp} {r : R2} (ho : OpR X (compareOp op) r) (ha : PE X a ta) (hb : PE X b tb) (hm : behindInMarks op b = false) : PE X (.Compare a [op] [b] pos) (tOp r ta tb) := by
  intro pins s σ H Q I h
  exact wpAny_Compare1 (binT ha hb I h fun v u s2 x y H2 I2 rx ry q => ho pins s2 σ H2 x y v u Q I2 rx ry q) hm
/-- a reading of a value as a test -/
def tTest (t : TE) : TT := fun σ H Q => t σ H fun x H' => ∃ k, x = .bl k ∧ Q k H'
theorem pt_cmpR {op : CmpOp} {r : R2} (ho : OpR X (compareOp op) r) (ha : PE X a ta) (hb : PE X b tb) (hm : behindInMarks op b = false) : PT X (.Compare a [op] [b] pos) (tTest (tOp r ta tb)) := by
  intro pins s σ H Q I h
  refine wpAny_isTrue_Compare1 (thn (ha pins s σ H _ I h) fun v s1 ⟨x, H1, I1, r1, q1⟩ => thn (hb pins s1 σ H1 _ I1 q1) fun u s2 ⟨y, H2, I2, r2, q2⟩ =>
    thn (ho pins s2 σ H2 x y v u _ I2 r1 r2 q2) fun c s3 ⟨z, H3, I3, r3, k, e, q3⟩ => ?_) hm
  subst e
  cases r3
  exact wpAny_truthy_bool ⟨H3, I3, q3⟩
/-- a op1 b op2 c -/
def tChain (r r' : R2) (ta tb tc : TE) : TE := fun σ H Q => ta σ H fun x H1 => tb σ H1 fun y H2 => r x y H2 fun z H3 => ∃ k, z = .bl k ∧
  (if k = true then tc σ H3 fun w' H4 => r' y w' H4 Q else Q (.bl false) H3)
theorem pe_chain {op op' : CmpOp} {r r' : R2} (ho : OpR X (compareOp op) r) (ho' : OpR X (compareOp op') r') (ha : PE X a ta) (hb : PE X b tb) (hc : PE X c tc)
    (hm : lastMarks [op, op'] [b, c] = false := by with_unfolding_all rfl) : PE X (.Compare a [op, op'] [b, c] pos) (tChain r r' ta tb tc) := by
  intro pins s σ H Q I h
  refine Compare_chain (thn (ha pins s σ H _ I h) fun v s1 ⟨x, H1, I1, r1, q1⟩ => chain_link (thn (hb pins s1 σ H1 _ I1 q1) fun u s2 ⟨y, H2, I2, r2, q2⟩ =>
    thn (ho pins s2 σ H2 x y v u _ I2 r1 r2 q2) fun d s3 ⟨z, H3, I3, r3, k, e, q3⟩ => ?_)) hm
  subst e
  cases r3
  refine wpAny_truthy_bool ?_
  cases k with
  | false => exact ite_ff ⟨.bl false, H3, I3, rfl, q3⟩
  | true => exact ite_tt (chain_last (thn (hc pins s3 σ H3 _ I3 q3) fun w' s4 ⟨z', H4, I4, r4, q4⟩ => ho' pins s4 σ H4 y z' u w' Q I4 r2 r4 q4))
theorem pt_chain {op op' : CmpOp} {r r' : R2} (ho : OpR X (compareOp op) r) (ho' : OpR X (compareOp op') r') (ha : PE X a ta) (hb : PE X b tb) (hc : PE X c tc)
    (hm : lastMarks [op, op'] [b, c] = false := by with_unfolding_all rfl) : PT X (.Compare a [op, op'] [b, c] pos) (tTest (tChain r r' ta tb tc)) := by
  intro pins s σ H Q I h
  refine isTrue_chain (thn (ha pins s σ H _ I h) fun v s1 ⟨x, H1, I1, r1, q1⟩ => test_link (thn (hb pins s1 σ H1 _ I1 q1) fun u s2 ⟨y, H2, I2, r2, q2⟩ =>
    thn (ho pins s2 σ H2 x y v u _ I2 r1 r2 q2) fun d s3 ⟨z, H3, I3, r3, k, e, q3⟩ => ?_)) hm
  subst e
  cases r3
  refine wpAny_truthy_bool ?_
  cases k with
  | false =>
    obtain ⟨k', e', q'⟩ := q3
    cases e'
    exact ite_ff ⟨H3, I3, q'⟩
  | true =>
    refine ite_tt (test_last (thn (hc pins s3 σ H3 _ I3 q3) fun w' s4 ⟨z', H4, I4, r4, q4⟩ => thn (ho' pins s4 σ H4 y z' u w' _ I4 r2 r4 q4) fun d' s5 ⟨z2, H5, I5, r5, k2, e2, q5⟩ => ?_))
    subst e2
    cases r5
    exact wpAny_truthy_bool ⟨H5, I5, q5⟩

theorem line63 : (sizeLine : Nat) < 2 ^ 63 := by rw [sizeLine_eq]; decide
theorem op_add_str : OpR X (binaryOp .Add) (fun x y H Q => ∃ i j, x = .str i ∧ y = .str j ∧ i.length + j.length ≤ sizeLine ∧ Q (.str (i ++ j)) H) := by
  intro pins s σ H x y v u Q I rx ry h
  obtain ⟨i, j, rfl, rfl, hz, q⟩ := h
  obtain ⟨t, rfl⟩ := rx
  obtain ⟨t', rfl⟩ := ry
  exact add_str (fun t' tk => ⟨.str (i ++ j), H, I.tok _, ⟨_, rfl⟩, q⟩) hz
theorem vals1 {x : V} {us : List Value} (r : Vals [x] us) : ∃ u, us = [u] ∧ RelV x u := by
  cases r with
  | cons r1 r2 => cases r2; exact ⟨_, rfl, r1⟩
theorem vals2 {x y : V} {us : List Value} (r : Vals [x, y] us) : ∃ u w', us = [u, w'] ∧ RelV x u ∧ RelV y w' := by
  cases r with
  | cons r1 r2 =>
    cases r2 with
    | cons r3 r4 => cases r4; exact ⟨_, _, rfl, r1, r3⟩
end
end L2

namespace L2
open PySem PySem.Spec PyProof.Rows

structure ObjM (h : Heap) (x dx C : Addr) (mA : Str → Option Value) : Prop where
  obj : h.get? x = some (PySem.W.instObj C dx)
  ns : h.Ns1 dx mA
  ne : dx ≠ x

theorem lookIn_ns {h : Heap} {dx : Addr} {mA : Str → Option Value} (n : h.Ns1 dx mA) : ∃ od, h.get? dx = some od ∧ ∀ name, PySem.W.lookIn name od = some (mA name) := by
  obtain ⟨o, es, ep, ho, hd, hk, _, hm⟩ := n
  refine ⟨o, ho, fun name => ?_⟩
  have e := hm name
  unfold nsFind findBy at e
  rw [← Array.find?_toList] at e
  unfold PySem.W.lookIn
  rw [hd]
  dsimp only
  split
  · rename_i y q
    rw [q] at e
    exact congrArg some e
  · rename_i q
    rw [q] at e
    have a : es.toList.any (·.refKey) = false := by
      rw [List.any_eq_false]
      intro y hy
      obtain ⟨z, t, hkey⟩ := hk y (Array.mem_toList_iff.mp hy)
      simp [DictEntry.refKey, hkey]
    have a' : ¬ es.toList.any (·.refKey) = true := by rw [a]; exact Bool.false_ne_true
    rw [if_neg a']
    exact congrArg some e

theorem ObjM.look {h : Heap} {x dx C : Addr} {mA : Str → Option Value} (I : ObjM h x dx C mA) : ∃ od, PySem.W.InstAt h x (PySem.W.instObj C dx) C (some od) ∧ ∀ name, PySem.W.lookIn name od = some (mA name) :=
  let ⟨od, ho, hl⟩ := lookIn_ns I.ns
  ⟨od, ⟨I.obj, rfl, rfl, ho⟩, hl⟩

section
variable {prog : Program} {w : World} {A : Around} {E : Value → Shared → Prop} {s : Shared} {K : PySem.W.Frag} {x dx C f : Addr} {mA : Str → Option Value} {name : Str} {v : Value}

end

theorem RelO.some_of {v : V} {o : Option Value} (r : RelO (some v) o) : ∃ u, o = some u ∧ RelV v u := by
  cases o with
  | none => exact (show False from r).elim
  | some u => exact ⟨u, rfl, r⟩
section
variable {P : Program} {w : World} {H H' : Hp} {h h' : Heap} {a C dx : Addr} {fs fs' : List (Str × V)}
theorem ins_get (hok : HOk P w H h) (e : H a = some (.ins C dx fs)) : ∃ mA, ObjM h a dx C mA ∧ (∀ f, RelO (fs.lookup f) (mA f)) ∧ PySem.Within mA (fs.map (·.1)) ∧ fs.length ≤ 1000 ∧ H dx = some (.own a) := by
  obtain ⟨d, z, ne, ob, mA, n, r, q⟩ := (show ObjOk P w H h a (.ins C dx fs) from hok a _ e)
  exact ⟨mA, ⟨ob, n, ne⟩, r, q, z, d⟩
end

structure Cls (K : PySem.W.Frag) (C : Addr) : Prop where
  pg : PySem.W.plainGet K C Str.empty = true
  hd : PySem.W.hasDictIn K C = true
  po : PySem.W.plainOver K C = true
  sa : PySem.W.findIn K (.ref C) "__setattr__" = some (some (.builtin "object.__setattr__"))
theorem Cls.get {K : PySem.W.Frag} {C : Addr} (c : Cls K C) (f : Str) : PySem.W.plainGet K C f = true := c.pg
section
variable {X : Cx} {pins : List (Addr × Obj)} {σ : St} {H : Hp} {s : Shared} {a C dx : Addr} {fs : List (Str × V)} {f : Str} {v : V} {A : Around} {E : Value → Shared → Prop}

end

section
variable {X : Cx} {o e value : Expr} {f : Str} {pos pos' tpos : Pos} {ta tv : TE}
end

section
variable {X : Cx} {pins : List (Addr × Obj)} {σ : St} {H : Hp} {s : Shared} {A : Around} {E : Value → Shared → Prop} {Q : Value → Shared → Prop} {c : Value} {b : Bool}
/-- the type of a value, as the fragment's deciders take it; for an instance its class -/
inductive TyOf (K : PySem.W.Frag) (H : Hp) : V → Value → Prop where
  | non : TyOf K H .non (.type "NoneType")
  | bl (x : Bool) : TyOf K H (.bl x) (.type "bool")
  | int (i : Int) : TyOf K H (.int i) (.type "int")
  | str (x : Str) : TyOf K H (.str x) (.type "str")
  | flt (x : UInt64) : TyOf K H (.flt x) (.type "float")
  | lst {a : Addr} {xs : List V} (e : H a = some (.lst xs)) : TyOf K H (.ref a) (.type "list")
  | frz {a : Addr} {o : Obj} {xs : List V} (e : H a = some (.frz o (.lst xs))) : TyOf K H (.ref a) (.type "list")
  | tup {a : Addr} {xs : List V} (e : H a = some (.tup xs)) : TyOf K H (.ref a) (.type "tuple")
  | dK {a : Addr} {kvs : List (Key × V)} (e : H a = some (.dK kvs)) : TyOf K H (.ref a) (.type "dict")
  | dT {a : Addr} {kvs : List (List Key × V)} (e : H a = some (.dT kvs)) : TyOf K H (.ref a) (.type "dict")
  | ins {a C dx : Addr} {fs : List (Str × V)} (e : H a = some (.ins C dx fs)) (cl : Cls K C) (ha : PySem.W.findIn K (.ref C) "__class__" = some (some (.builtin "object.__class__")))
      (hn : PySem.W.specialIn K (.builtin "object.__class__") "__get__" = some (some (.builtin "getset_descriptor.__get__"))) (htk : PySem.W.takesIn K (.builtin "object.__class__") = some true)
      (hm : PySem.W.mroIn K C (.type "object") = some true) : TyOf K H (.ref a) (.ref C)
/-- isinstance(x, c) for one class c, a built-in or an own one: kitOne's answer -/
theorem isinst_ok {x : V} {u t : Value} (I : Inv X pins σ H s) (rx : RelV x u) (ty : TyOf X.K H x t) (e : PySem.W.kitOne X.K t c = some b) (h : ∀ tk, Q (.bool b) { s with toks := tk }) :
    wpAny (model X.prog X.w) A (call (.builtin "isinstance") [u, c]) Q E s := by
  cases ty with
  | non => cases (show u = Value.none from rx); exact PySem.W.kia_one PySem.W.kitx_none I.kIn True.intro e (fun z => nomatch z) h
  | bl y => cases (show u = Value.bool y from rx); exact PySem.W.kia_one PySem.W.kitx_bool I.kIn True.intro e (fun z => nomatch z) h
  | int i => obtain ⟨t, q⟩ := (show ∃ t, u = Value.int i t from rx); cases q; exact PySem.W.kia_one PySem.W.kitx_int I.kIn True.intro e (fun z => nomatch z) h
  | str y => obtain ⟨t, q⟩ := (show ∃ t, u = Value.str y t from rx); cases q; exact PySem.W.kia_one PySem.W.kitx_str I.kIn True.intro e (fun z => nomatch z) h
  | flt y => obtain ⟨t, q⟩ := (show ∃ t, u = Value.float y t from rx); cases q; exact PySem.W.kia_one PySem.W.kitx_float I.kIn True.intro e (fun z => nomatch z) h
  | @lst a xs ea =>
    cases (show u = Value.ref a from rx)
    obtain ⟨_, _, n, _, h1⟩ := (show ObjOk X.prog X.w H s.heap a (.lst xs) from I.hok a _ ea)
    exact PySem.W.kia_one PySem.W.kitx_list I.kIn ⟨_, h1, rfl⟩ e (fun z => nomatch z) h
  | @frz a ob xs ea =>
    cases (show u = Value.ref a from rx)
    obtain ⟨_, _, _, n, _, h1⟩ := (show ObjOk X.prog X.w H s.heap a (.frz ob (.lst xs)) from I.hok a _ ea)
    exact PySem.W.kia_one PySem.W.kitx_list I.kIn ⟨_, h1, rfl⟩ e (fun z => nomatch z) h
  | @tup a xs ea =>
    cases (show u = Value.ref a from rx)
    obtain ⟨_, _, _, p⟩ := (show ObjOk X.prog X.w H s.heap a (.tup xs) from I.hok a _ ea)
    obtain ⟨o, h1, h2, _⟩ := p
    exact PySem.W.kia_one PySem.W.kitx_tuple I.kIn ⟨o, h1, h2⟩ e (fun z => nomatch z) h
  | @dK a kvs ea =>
    cases (show u = Value.ref a from rx)
    obtain ⟨_, _, vs, _, p⟩ := (show ObjOk X.prog X.w H s.heap a (.dK kvs) from I.hok a _ ea)
    obtain ⟨o, es, ep, h1, h2, _⟩ := p
    exact PySem.W.kia_one PySem.W.kitx_dict I.kIn ⟨o, h1, h2.1⟩ e (fun z => nomatch z) h
  | @dT a kvs ea =>
    cases (show u = Value.ref a from rx)
    obtain ⟨_, _, xs, _, o, es, ep, h1, h2, _⟩ := (show ObjOk X.prog X.w H s.heap a (.dT kvs) from I.hok a _ ea)
    exact PySem.W.kia_one PySem.W.kitx_dict I.kIn ⟨o, h1, h2.1⟩ e (fun z => nomatch z) h
  | @ins a C dx fs ea cl ha hn htk hm =>
    cases (show u = Value.ref a from rx)
    obtain ⟨mA, O, _⟩ := ins_get I.hok ea
    obtain ⟨od, J, _⟩ := O.look
    exact PySem.W.kia_one (PySem.W.kitx_own (cl.get _) cl.hd ha hn htk hm) I.kIn J e (fun z => nomatch z) h
end
end L2

namespace L2
open PySem PySem.Spec PyProof.Rows

structure Room (k : Nat) (A : Around) : Prop where
  hd : A.handled = none
  dp : A.depth + 3 * k + 5 < recursionLimit
  un : A.units + 16 * k + 200 < cLine
theorem Room.mono {j k : Nat} {A : Around} (r : Room k A) (h : j ≤ k) : Room j A := ⟨r.hd, by have := r.dp; omega, by have := r.un; omega⟩
theorem Room.deeper {k : Nat} {A : Around} (r : Room (k + 1) A) (env : Env) : Room k (A.deeper env) :=
  ⟨r.hd, by have := r.dp; show A.depth + 1 + 3 * k + 5 < _; omega, by have := r.un; show A.units + 3 + 16 * k + 200 < _; omega⟩
theorem Room.depth {k : Nat} {A : Around} (r : Room k A) : A.depth < recursionLimit := by have := r.dp; omega
theorem Room.units {k : Nat} {A : Around} (r : Room k A) : A.units + 64 < cLine := by have := r.un; omega
def tNil : TA := fun _ H Q => Q [] H
def tCons (ta : TE) (tr : TA) : TA := fun σ H Q => ta σ H fun x H1 => tr σ H1 fun xs H2 => Q (x :: xs) H2
section
variable {X : Cx} {e : Expr} {es : List Expr} {te : TE} {t : TA} {pos : Pos}
theorem pa_nil : PA X [] tNil := fun _ _ _ _ H Q I h => Calls.spliced_nil ⟨[], H, I, .nil, h⟩
theorem pa_cons (ha : PE X e te) (hr : PA X es t) (hs : starEach (e :: es) X.env = (false, eval e X.env) :: starEach es X.env := by rfl) : PA X (e :: es) (tCons te t) := by
  intro pos pins s σ H Q I h
  rw [hs]
  show wpAny _ _ (spliced ((false, eval e X.env) :: backTo pos (starEach es X.env))) _ _ s
  refine Calls.spliced_cons (thn (ha pins s σ H _ I h) fun u s1 ⟨x, H1, I1, r1, q1⟩ => ?_)
  exact thn (hr pos pins s1 σ H1 _ I1 q1) fun us s2 ⟨xs, H2, I2, r2, q2⟩ => ⟨x :: xs, H2, I2, .cons r1 r2, q2⟩

/-- a tuple, a list of written items -/
def tTup (t : TA) : TE := fun σ H Q => t σ H fun xs H1 => xs.length ≤ sizeLine ∧ ∀ p, H1 p = none → Q (.ref p) (upd H1 p (.tup xs))
def tLst (t : TA) : TE := fun σ H Q => t σ H fun xs H1 => xs.length ≤ sizeLine ∧ ∀ p, H1 p = none → Q (.ref p) (upd H1 p (.lst xs))
theorem pe_tup {x1} (h : PA X es t) : PE X (.Tuple es x1 pos) (tTup t) := by
  intro pins s σ H Q I hq
  refine wpAny_Tuple_spliced (thn (h pos pins s σ H _ I hq) fun us s1 ⟨xs, H1, I1, r, z, q⟩ => ⟨by rw [← r.length]; exact z, ?_⟩)
  have hf : H1 s1.heap.objs.size = none := I1.hok.fresh (Nat.le_refl _)
  refine ⟨.ref s1.heap.objs.size, upd H1 s1.heap.objs.size (.tup xs), I1.laid (t' := s1.toks) (fun b u e => Heap.get?_push_of_some _ e) (Nat.le_refl _) ?_, rfl, q _ hf⟩
  exact ⟨⟨z, _, Heap.get?_push_size _ rfl, rfl⟩, us, r, ⟨_, Heap.get?_push_size _ rfl, rfl, _, rfl⟩⟩
theorem pe_lst (h : PA X es t) : PE X (.List es pos) (tLst t) := by
  intro pins s σ H Q I hq
  refine wpAny_List_spliced (thn (h pos pins s σ H _ I hq) fun us s1 ⟨xs, H1, I1, r, z, q⟩ => ⟨by rw [← r.length]; exact z, ?_⟩)
  have hf : H1 s1.heap.objs.size = none := I1.hok.fresh (Nat.le_refl _)
  refine ⟨.ref s1.heap.objs.size, upd H1 s1.heap.objs.size (.lst xs), I1.laid (t' := s1.toks) (fun b u e => Heap.get?_push_of_some _ e) (Nat.le_refl _) ?_, rfl, q _ hf⟩
  exact ⟨z, us, 0, r, Heap.get?_push_size _ rfl⟩
end

/-- a def's promise: the bound arguments in the parameters' order, the heap, the wanted end, the wanted exception -/
abbrev Sp := List V → Hp → VK → XK → Prop
/-- how an exception lies behind a call (file 08 gives it): the callers' frames, abstract heap and state ahead of the call, the wish, the exception, the state -/
abbrev CXT := List Env → Hp → Shared → XK → Value → Shared → Prop

/-- the state at a call -/
structure Env0 (P : Program) (w : World) (K : PySem.W.Frag) (mg : Str → Option Value) (base : Heap) (A : Around) (outer : List Env) (s : Shared) (H : Hp) : Prop where
  frames : A.frames = some outer
  mod : Mod K mg base
  bs : ∀ b o, base.get? b = some o → s.heap.get? b = some o ∧ H b = none
  bsz : base.objs.size ≤ s.heap.objs.size
  funs : s.heap.FunFrames base outer
  frf : ∀ b ∈ frs outer, H b = none
  hok : HOk P w H s.heap
  bare : AllBare s.gens
/-- a call's end -/
def CE (outer : List Env) (P : Program) (w : World) (H : Hp) (s : Shared) (Q : VK) (u : Value) (s' : Shared) : Prop :=
  ∃ v H', s'.os = s.os ∧ AllBare s'.gens ∧ Un (frs outer) [] H H' s.heap s'.heap ∧ HOk P w H' s'.heap ∧ RelV v u ∧ Q v H'
def CR (CX : CXT) (outer : List Env) (P : Program) (w : World) (H : Hp) (s : Shared) (Q : VK) (E : XK) (r : Result) (s' : Shared) : Prop :=
  match r with
  | .ok (.ret u) => CE outer P w H s Q u s'
  | .ok _ => False
  | .error e => CX outer H s E e s'
structure FnOk (P : Program) (w : World) (K : PySem.W.Frag) (mg : Str → Option Value) (base : Heap) (CX : CXT) (k : Nat) (f : Addr) (fd : FuncData) (ps : List Str) (sp : Sp) : Prop where
  len : ∀ vs H Q E, sp vs H Q E → vs.length = ps.length
  run : ∀ (A : Around) (outer : List Env) (s : Shared) (H : Hp) (args : Args) (us : List Value) (vs : List V) (Q : VK) (E : XK), Room k A → Env0 P w K mg base A outer s H → BindsTo s fd args (ps.zip us) → Vals vs us → sp vs H Q E →
    codeAny (model P w) A (.call (.ref f) args) (CR CX outer P w H s Q E) s
section
variable {X : Cx} {pins : List (Addr × Obj)} {σ : St} {H : Hp} {s s' : Shared}
/-- from a body: what a callee wants -/
theorem Inv.env0 (I : Inv X pins σ H s) : Env0 X.prog X.w X.K X.mg X.base X.A X.stack s H :=
  ⟨I.ok.frames, I.ok.mod, I.bs, Nat.le_trans I.ok.bsz I.sz, I.stack, I.stkFree, I.hok, I.bare⟩
/-- behind a call -/
theorem Inv.after {Q : VK} {u : Value} (I : Inv X pins σ H s) (h : CE X.stack X.prog X.w H s Q u s') : EP X pins σ Q u s' := by
  obtain ⟨v, H', os, bare, un, hok, r, q⟩ := h
  obtain ⟨hh, g, d, t, os'⟩ := s'
  obtain rfl : os' = s.os := os
  exact ⟨v, H', I.call (h' := hh) (g' := g) (d' := d) (t' := t) (ch := []) un hok bare (fun b z => absurd z (by simp)), r, q⟩
end

/-- f(..): the written arguments, then the defaults dvs; E: what is wanted of an exception -/
def tCall (sp : Sp) (dvs : List V) (E : XK) (t : TA) : TE := fun σ H Q => t σ H fun vs H1 => sp (vs ++ dvs) H1 Q E
/-- how the parameters are bound: us the positional arguments, kw the keywords' values by name, ds the defaults that fill up -/
def Binds (K : PySem.W.Frag) (fd : FuncData) (ps : List Str) (ds : List Value) : Prop :=
  ∀ (s : Shared) (us : List Value), K.In s.heap → (us ++ ds).length = ps.length → BindsTo s fd ⟨us, []⟩ (ps.zip (us ++ ds))
/-- every parameter is given -/
theorem Binds.all {K : PySem.W.Frag} {fd : FuncData} {ps : List Str} (h : ∀ us : List Value, us.length = ps.length → bindArgs fd ⟨us, []⟩ = pure (ps.zip us)) : Binds K fd ps [] := fun s us _ hl => by
  rw [List.append_nil] at hl ⊢
  exact .of_eq (h us hl)

/-- an exception of a callee reaches what this body wants of exceptions -/
def Passes (CX : CXT) (X : Cx) (E : XK) : Prop := ∀ (pins : List (Addr × Obj)) (σ : St) (H : Hp) (s : Shared) (e : Value) (s' : Shared), Inv X pins σ H s → CX X.stack H s E e s' → X.xe e s'

section
variable {X : Cx} {CX : CXT} {k : Nat} {f C : Addr} {fd : FuncData} {ps : List Str} {sp : Sp} {dvs : List V} {ds : List Value} {E : XK} {x m : Str} {p pos apos : Pos} {e o : Expr} {es : List Expr} {ta : TE} {t : TA}

/-- the callee runs -/
theorem run_fn {pins : List (Addr × Obj)} {σ : St} {H : Hp} {s : Shared} {Q : VK} {us : List Value} {vs : List V} (F : FnOk X.prog X.w X.K X.mg X.base CX k f fd ps sp) (hr : Room k X.A) (hb : Binds X.K fd ps ds) (hd : Vals dvs ds) (hx : Passes CX X E)
    (I : Inv X pins σ H s) (r : Vals vs us) (h : sp (vs ++ dvs) H Q E) : wpAny (model X.prog X.w) X.A (call (.ref f) us) (EP X pins σ Q) X.xe s := by
  have r2 : Vals (vs ++ dvs) (us ++ ds) := r.append hd
  have hl : (us ++ ds).length = ps.length := by rw [← r2.length]; exact F.len _ _ _ _ h
  refine wpAny_call (codeAny_mono (F.run X.A X.stack s H ⟨us, []⟩ (us ++ ds) (vs ++ dvs) Q E hr I.env0 (hb s us I.kIn hl) r2 h) fun r s' hq => ?_)
  cases r with
  | error e => exact hx pins σ H s e s' I hq
  | ok fl =>
    cases fl with
    | ret u => exact I.after hq
    | next => exact False.elim hq
    | brk => exact False.elim hq
    | cont => exact False.elim hq

theorem pe_call (F : FnOk X.prog X.w X.K X.mg X.base CX k f fd ps sp) (hr : Room k X.A) (hg : Gl X x) (hm : X.mg x = some (.ref f)) (hk : PySem.W.keepIn X.K (.ref f) = true) (hb : Binds X.K fd ps ds) (hd : Vals dvs ds) (hx : Passes CX X E)
    (ha : PA X (e :: es) t) (hdb : (x == ("__debug__" : Str)) = false := by decide) (he : starEach (e :: es) X.env = (false, eval e X.env) :: starEach es X.env := by rfl) (hpl : (backTo pos (starEach es X.env)).any (·.1) = false := by rfl) :
    PE X (.Call (.Name x p) (e :: es) [] pos) (tCall sp dvs E t) := by
  intro pins s σ H Q I h
  refine wpAny_Call_Name_kw (ld_glob I hg hm ?_ hdb)
  refine PySem.W.callWith_K (h₀ := X.base) I.ok.mod.kin hk (thn (ha pos pins s σ H _ I h) fun us s1 ⟨vs, H1, I1, r, q⟩ => ⟨I1.kIn, ?_⟩) he hpl
  exact run_fn F hr hb hd hx I1 r q
theorem pe_call0 (F : FnOk X.prog X.w X.K X.mg X.base CX k f fd ps sp) (hr : Room k X.A) (hg : Gl X x) (hm : X.mg x = some (.ref f)) (hk : PySem.W.keepIn X.K (.ref f) = true) (hb : Binds X.K fd ps ds) (hd : Vals dvs ds) (hx : Passes CX X E)
    (hdb : (x == ("__debug__" : Str)) = false := by decide) : PE X (.Call (.Name x p) [] [] pos) (tCall sp dvs E tNil) := by
  intro pins s σ H Q I h
  refine wpAny_Call_Name_kw (ld_glob I hg hm ?_ hdb)
  exact PySem.W.callWith_K0 I.kIn hk (run_fn (us := []) F hr hb hd hx I .nil h)

end

section
variable {X : Cx} {CX : CXT} {k : Nat} {f C : Addr} {fd : FuncData} {ps ks : List Str} {sp : Sp} {E : XK} {x m : Str} {p pos apos kpos : Pos} {e o : Expr} {es : List Expr} {kws : List Keyword} {te ta : TE} {t tk : TA} {nm : Option Str}
variable {g : List Value → List Value → List Value} {gV : List V → List V → List V}
end

/-- names: the parameters first -/
structure FnScope (N P : List Str) (sc : Scope) : Prop where
  kind : sc.kind = .function
  co : sc.isCoroutine = false
  gen : sc.isGenerator = false
  nd : N.Nodup
  pre : N.take P.length = P
  par : ∀ x ∈ P, sc.names.lookup x = some .local ∨ sc.names.lookup x = some .cell
  nofree : ∀ y ∈ sc.names, y.2 ≠ .free

theorem bindL_out {kindOf : Str → Option NameKind} {x : Str} : ∀ {binds : List (Str × Value)} {m : Str → Option Value}, (∀ v, (x, v) ∉ binds) → bindL kindOf binds m x = m x
  | [], _, _ => rfl
  | (n, v) :: r, m, h => by
    unfold bindL
    rw [bindL_out fun w hw => h w (List.mem_cons_of_mem _ hw)]
    split
    · have : x ≠ n := by rintro rfl; exact h v List.mem_cons_self
      simp [this]
    · rfl
theorem bindC_out {kindOf : Str → Option NameKind} {x : Str} : ∀ {binds : List (Str × Value)} {m : Str → Option Value}, (∀ v, (x, v) ∉ binds) → bindC kindOf binds m x = m x
  | [], _, _ => rfl
  | (n, v) :: r, m, h => by
    unfold bindC
    rw [bindC_out fun w hw => h w (List.mem_cons_of_mem _ hw)]
    split
    · rfl
    · have : x ≠ n := by rintro rfl; exact h v List.mem_cons_self
      simp [this]
theorem bindL_get {kindOf : Str → Option NameKind} {x : Str} {v : Value} : ∀ {P : List Str} {vs : List Value} {i : Nat} {m : Str → Option Value}, P.Nodup → P[i]? = some x → vs[i]? = some v → kindOf x = some .local →
    bindL kindOf (P.zip vs) m x = some v
  | [], _, _, _, _, h, _, _ => by simp at h
  | _ :: _, [], _, _, _, _, h, _ => by simp at h
  | p :: P, w :: vs, 0, m, nd, h1, h2, hk => by
    simp at h1 h2; subst h1; subst h2
    show bindL kindOf ((p, w) :: P.zip vs) m p = _
    unfold bindL
    rw [bindL_out fun v hv => (List.nodup_cons.mp nd).1 (List.of_mem_zip hv).1, if_pos hk]
    simp
  | p :: P, w :: vs, i + 1, m, nd, h1, h2, hk => by
    show bindL kindOf ((p, w) :: P.zip vs) m x = _
    unfold bindL
    exact bindL_get (i := i) (List.nodup_cons.mp nd).2 (by simpa using h1) (by simpa using h2) hk
theorem bindC_get {kindOf : Str → Option NameKind} {x : Str} {v : Value} : ∀ {P : List Str} {vs : List Value} {i : Nat} {m : Str → Option Value}, P.Nodup → P[i]? = some x → vs[i]? = some v → kindOf x ≠ some .local →
    bindC kindOf (P.zip vs) m x = some v
  | [], _, _, _, _, h, _, _ => by simp at h
  | _ :: _, [], _, _, _, _, h, _ => by simp at h
  | p :: P, w :: vs, 0, m, nd, h1, h2, hk => by
    simp at h1 h2; subst h1; subst h2
    show bindC kindOf ((p, w) :: P.zip vs) m p = _
    unfold bindC
    rw [bindC_out fun v hv => (List.nodup_cons.mp nd).1 (List.of_mem_zip hv).1, if_neg hk]
    simp
  | p :: P, w :: vs, i + 1, m, nd, h1, h2, hk => by
    show bindC kindOf ((p, w) :: P.zip vs) m x = _
    unfold bindC
    exact bindC_get (i := i) (List.nodup_cons.mp nd).2 (by simpa using h1) (by simpa using h2) hk

/-- the names' values at the entry -/
def start (N : List Str) (vs : List V) : St := vs.map some ++ List.replicate (N.length - vs.length) none

/-- the context of a def's body, at its entry; an exception leaves the frame, then lies as CX says -/
def cxOf (CX : CXT) (P : Program) (w : World) (K : PySem.W.Frag) (mg : Str → Option Value) (base : Heap) (N : List Str) (qual : Str) (scope : Scope) (f : Addr) (cd : Value) (A : Around) (outer : List Env) (s : Shared) (H : Hp) (E : XK) : Cx where
  prog := P
  w := w
  K := K
  mg := mg
  base := base
  A := A.deeper (envOfC qual scope s.heap.objs.size f cd)
  N := N
  s₀ := s
  H₀ := H
  env := envOfC qual scope s.heap.objs.size f cd
  outer := outer
  stack := envOfC qual scope s.heap.objs.size f cd :: outer
  ex := []
  calm := true
  fn := fun _ => true
  pn := []
  xe := fun e s' => wpAny (model P w) (A.deeper (envOfC qual scope s.heap.objs.size f cd)) (leaving (envOfC qual scope s.heap.objs.size f cd) e) (fun _ s'' => CX outer H s E e s'') (fun e' s'' => CX outer H s E e' s'') s'

theorem cell_has {sc : Scope} {n : Nat} {x : Str} (h : sc.names.lookup x = some .cell) : ∃ c, (cellsFrom n sc.names []).lookup x = some c := by
  have q := PySem.W.cellsFrom_some sc.names n [] (.inl h)
  exact Option.isSome_iff_exists.mp q

theorem inv_start {CX : CXT} {P : Program} {w : World} {K : PySem.W.Frag} {mg : Str → Option Value} {base : Heap} {N ps : List Str} {qual : Str} {scope : Scope} {f : Addr} {cd : Value} {A : Around} {outer : List Env} {s s1 : Shared} {H : Hp} {E : XK} {us : List Value} {vs : List V}
    (S : FnScope N ps scope) (hd : A.handled = none) (e0 : Env0 P w K mg base A outer s H) (hl : vs.length = ps.length) (r : Vals vs us)
    (x : InCallC s s.heap.objs.size (bindL (envOfC qual scope s.heap.objs.size f cd).kindOf (ps.zip us) fun _ => none) (cellsFrom (s.heap.objs.size + 1) scope.names []) (bindC (envOfC qual scope s.heap.objs.size f cd).kindOf (ps.zip us) fun _ => none) s1) :
    Inv (cxOf CX P w K mg base N qual scope f cd A outer s H E) [] (start N vs) H s1 := by
  have hpl : ps.length ≤ N.length := by have := congrArg List.length S.pre; rw [List.length_take] at this; omega
  obtain ⟨h1, tk, rfl, hk⟩ := x.done
  have noA : ∀ b : Addr, b ∉ (cxOf CX P w K mg base N qual scope f cd A outer s H E).ex := fun b z => absurd (show b ∈ ([] : List Addr) from z) (by simp)
  refine ⟨⟨e0.mod, S.kind, rfl, rfl, Nat.le_refl _, fun y z c h1 h2 => ?_, fun y hy => ?_, fun y c _ h => ?_, fun _ => hd, Around.frames_deeper e0.frames, .inr ⟨rfl, rfl⟩, fun b z => absurd z (noA b), e0.bs, e0.bsz, fun b _ _ => noA b, fun b z => absurd z (noA b), e0.funs, e0.frf⟩,
    rfl, e0.bare, Un.kept hk, ⟨_, x.toInCall.ns, fun i y v h1 h2 h3 => ?_⟩, fun y c h => ⟨_, x.cell y c h⟩, e0.hok.fresh (Nat.le_refl _), fun y c h => ?_, fun p hp => absurd (show p ∈ ([] : List (Addr × Obj)) from hp) (by simp), e0.hok.kept hk, ?_⟩
  · exact name_of_addr x.apart (PySem.mem_of_lookup h1) (PySem.mem_of_lookup h2)
  · have hy : scope.names.lookup y = some .cell ∨ scope.names.lookup y = some .free := hy
    rcases hy with hy | hy
    · exact cell_has hy
    · exact absurd rfl (S.nofree _ (PySem.mem_of_lookup hy))
  · exact Nat.le_of_lt (x.above y c (PySem.mem_of_lookup h))
  · have hi : i < vs.length := by
      unfold start at h2
      by_cases hi : i < vs.length
      · exact hi
      · rw [List.getElem?_append_right (by simpa using hi)] at h2
        rw [List.getElem?_replicate] at h2
        split at h2 <;> cases h2
    have ha : vs[i]? = some v := by
      unfold start at h2
      rw [List.getElem?_append_left (by simpa using hi), List.getElem?_map] at h2
      cases e : vs[i]? with
      | none => rw [e] at h2; cases h2
      | some a => rw [e] at h2; cases h2; rfl
    obtain ⟨u, hu, rv⟩ := r.get ha
    have hp : ps[i]? = some y := by
      rw [← S.pre, List.getElem?_take_of_lt (by omega)]; exact h1
    have ndP : ps.Nodup := by rw [← S.pre]; exact S.nd.sublist (List.take_sublist _ _)
    refine ⟨u, rv, ?_⟩
    rcases S.par y (List.mem_of_getElem? hp) with k | k
    · exact .inl ⟨k, bindL_get ndP hp hu k⟩
    · obtain ⟨c, e⟩ := cell_has (n := s.heap.objs.size + 1) k
      refine .inr ⟨.inl k, c, e, ?_⟩
      have q := x.cell y c e
      rw [bindC_get ndP hp hu (by show scope.names.lookup y ≠ _; rw [k]; decide)] at q
      exact q
  · exact e0.hok.fresh (Nat.le_of_lt (x.above y c (PySem.mem_of_lookup h)))
  · unfold start
    show _ = N.length
    rw [List.length_append, List.length_map, List.length_replicate]
    omega

/-- THE RULE: a def (or a method) of the text, by its body. The body's reading t is chosen for each entry; it is run at the parameters' values -/
theorem fn_of {CX : CXT} {P : Program} {w : World} {K : PySem.W.Frag} {mg : Str → Option Value} {base : Heap} {k : Nat} {f : Addr} {name qual : Str} {params : Arguments} {body : List Stmt} {scope : Scope} {dV kV doc pm cdv ct oc : Value} {an od : Option Addr}
    {osl : Array (Option Value)} {N ps : List Str} {sp : Sp} (lk : K.lookup f = some ⟨oc, od, .func (PySem.W.fnOf name qual params body scope dV kV doc pm an cdv ct), osl⟩) (hcd : PySem.W.codeIn K cdv qual = true) (S : FnScope N ps scope)
    (len : ∀ vs H Q E, sp vs H Q E → vs.length = ps.length)
    (hbody : ∀ (A : Around) (outer : List Env) (s : Shared) (H : Hp) (vs : List V) (Q : VK) (E : XK), Room k (A.deeper (envOfC qual scope s.heap.objs.size f cdv)) → sp vs H Q E →
      ∃ t, PSs (cxOf CX P w K mg base N qual scope f cdv A outer s H E) body t ∧ t { nx := fun _ H' => Q .non H', rt := Q } (start N vs) H) :
    FnOk P w K mg base CX (k + 1) f (PySem.W.fnOf name qual params body scope dV kV doc pm an cdv ct) ps sp := by
  refine ⟨len, fun A outer s H args us vs Q E hr e0 hb r hsp => ?_⟩
  have hl := len _ _ _ _ hsp
  have KX : K.In s.heap := e0.mod.kin.keeps fun b o e => (e0.bs b o e).1
  have lim : s.heap.NoLimit := e0.mod.nolimit.keeps fun b o e => (e0.bs b o e).1
  have hkind : ∀ y ∈ ps.zip us, scope.names.lookup y.1 = some .local ∨ (scope.names.lookup y.1 = some .cell ∧ ((cellsFrom (s.heap.objs.size + 1) scope.names []).lookup y.1).isSome = true) := fun ⟨n, v⟩ hy => by
    rcases S.par n (List.of_mem_zip hy).1 with q | q
    · exact .inl q
    · exact .inr ⟨q, PySem.W.cellsFrom_some _ _ _ (.inl q)⟩
  refine codeAny_call_function hr.depth (KX _ _ lk) rfl S.co S.gen rfl (PySem.W.codeRec_of KX hcd) (hb _ _ _ _ ?_)
  refine wpAny_newFunctionEnv_cells S.kind hkind fun env he s1 x => ?_
  subst he
  refine ⟨lim.keeps x.toInCall.keep, codeAny_func ?_⟩
  obtain ⟨t, ht, hq⟩ := hbody A outer s H vs Q E (hr.deeper _) hsp
  have I : Inv (cxOf CX P w K mg base N qual scope f cdv A outer s H E) [] (start N vs) H s1 := inv_start S hr.hd e0 hl r x
  refine wpAny_mono (ht [] s1 (start N vs) H _ I hq) (fun fl s' hs => ?_) fun e s' hs => hs
  have fin : ∀ {σ' : St} {H' : Hp} {v : V} {u : Value}, Inv (cxOf CX P w K mg base N qual scope f cdv A outer s H E) [] σ' H' s' → RelV v u → Q v H' → CE outer P w H s Q u s' :=
    fun {σ' H' v u} J rv q => ⟨v, H', J.os, J.bare, J.base, J.hok, rv, q⟩
  cases fl with
  | ret u =>
    obtain ⟨v, σ', H', J, rv, q⟩ := hs
    exact fin J rv q
  | next =>
    obtain ⟨σ', H', J, q⟩ := hs
    exact fin (v := V.non) (u := Value.none) J rfl q
  | brk =>
    obtain ⟨_, _, _, q⟩ := hs
    exact False.elim q
  | cont =>
    obtain ⟨_, _, _, q⟩ := hs
    exact False.elim q
end L2

namespace L2
open PySem PySem.Spec PyProof.Rows
section
variable {X : Cx} {x : Str} {p pos : Pos} {e : Expr} {es : List Expr} {t : TA} {id T : String} {r : List V → Hp → VK → Prop}

def tCB (r : List V → Hp → VK → Prop) (t : TA) : TE := fun σ H Q => t σ H fun vs H1 => r vs H1 Q
/-- f(e, ..), f a built-in function -/
theorem pe_callB (hc : CallR X (.builtin id) r) (hg : Gl X x) (hm : X.mg x = none) (hv : bootBuiltins x = some (.builtin id)) (ha : PA X (e :: es) t) (hn : x ≠ "__name__" := by decide) (hdb : (x == ("__debug__" : Str)) = false := by decide)
    (he : starEach (e :: es) X.env = (false, eval e X.env) :: starEach es X.env := by rfl) (hpl : (backTo pos (starEach es X.env)).any (·.1) = false := by rfl) : PE X (.Call (.Name x p) (e :: es) [] pos) (tCB r t) := by
  intro pins s σ H Q I h
  refine wpAny_Call_Name_kw (ld_blt I hg hm hv ?_ hn hdb)
  exact PyProof.Rows.callWith_builtin1 (thn (ha pos pins s σ H _ I h) fun us s1 ⟨vs, H1, I1, r1, q1⟩ => hc pins s1 σ H1 vs us Q I1 r1 q1) he hpl
/-- T(e, ..), T a built-in type -/
theorem pe_callTy (hc : CallR X (.type T) r) (hg : Gl X x) (hm : X.mg x = none) (hv : bootBuiltins x = some (.type T)) (ha : PA X (e :: es) t) (hn : x ≠ "__name__" := by decide) (hdb : (x == ("__debug__" : Str)) = false := by decide)
    (he : starEach (e :: es) X.env = (false, eval e X.env) :: starEach es X.env := by rfl) (hpl : (backTo pos (starEach es X.env)).any (·.1) = false := by rfl) : PE X (.Call (.Name x p) (e :: es) [] pos) (tCB r t) := by
  intro pins s σ H Q I h
  refine wpAny_Call_Name_kw (ld_blt I hg hm hv ?_ hn hdb)
  exact PyProof.Rows.callWith_type1 (thn (ha pos pins s σ H _ I h) fun us s1 ⟨vs, H1, I1, r1, q1⟩ => hc pins s1 σ H1 vs us Q I1 r1 q1) he hpl
end
end L2

namespace HT
open PySem PyProof.Rows

section
open PySem.SeqAt
open PySem.AutoSeq1 (wpAny_loadPart')
open PySem.MeetsSeq PySem.MeetsSeq2 PySem.MeetsSeq3

end

section
variable {prog : Program} {w : World} {A : Around} {E : Value → Shared → Prop} {s : Shared}

end
end HT

namespace L2
open PySem PySem.Spec PyProof.Rows

abbrev TO := St → Hp → (Option Int → Hp → Prop) → Prop
/-- a slice's part (left out, or an int) -/
def PO (X : Cx) (e : Option Expr) (t : TO) : Prop :=
  ∀ (pins : List (Addr × Obj)) (s : Shared) (σ : St) (H : Hp) (Q : Option Int → Hp → Prop), Inv X pins σ H s → t σ H Q →
    wpAny (model X.prog X.w) X.A (evalPart e X.env) (fun u s' => ∃ o H', Inv X pins σ H' s' ∧ IsPart u o ∧ Q o H') X.xe s
def tNoPart : TO := fun _ H Q => Q none H
def tPart (t : TE) : TO := fun σ H Q => t σ H fun x H1 => ∃ i, x = .int i ∧ Q (some i) H1

theorem intsAre_of {ns : List Int} : ∀ {us : List Value}, Vals (ns.map V.int) us → IntsAre us ns := by
  induction ns with
  | nil => intro us r; rw [List.map_nil] at r; cases r; exact .nil
  | cons n ns ih =>
    intro us r
    rw [List.map_cons] at r
    cases r with
    | cons r1 r2 =>
      obtain ⟨t, e⟩ := r1
      subst e
      exact .cons n t (ih r2)

section
variable {X : Cx} {e : Expr} {te : TE} {lo hi : Option Expr} {tl th : TO} {pos p2 : Pos}

theorem po_none : PO X none tNoPart := by
  intro pins s σ H Q I h
  rw [evalPart_none]
  exact wpAny_pure ⟨none, H, I, .none, h⟩
theorem po_some (h : PE X e te) : PO X (some e) (tPart te) := by
  intro pins s σ H Q I hw
  rw [evalPart_some]
  refine thn (h pins s σ H _ I hw) fun u s1 ⟨x, H1, I1, r1, q1⟩ => ?_
  obtain ⟨i, rfl, q⟩ := q1
  obtain ⟨t, rfl⟩ := r1
  exact ⟨some i, H1, I1, .int i t, q⟩

end
end L2

namespace L2
open PySem PySem.Spec PyProof.Rows

/-- the place that an index of any sign means -/
def ixN (n : Nat) (i : Int) : Option Nat := if 0 ≤ i then (if i < n then some i.toNat else none) else if -(n : Int) ≤ i then some (i + n).toNat else none
def atI {α : Type} (xs : List α) (i : Int) : Option α := (ixN xs.length i).bind fun j => xs[j]?
theorem ixN_seq {n : Nat} {i : Int} {j : Nat} (h : ixN n i = some j) : seqIndex? i n = some j ∧ j < n ∧ -(n : Int) ≤ i ∧ i < n := by
  unfold ixN at h
  by_cases h0 : 0 ≤ i
  · rw [if_pos h0] at h
    by_cases h1 : i < n
    · rw [if_pos h1] at h
      have e : i.toNat = j := Option.some.inj h
      exact ⟨by rw [seqIndex_of h0 h1, e], by omega, by omega, h1⟩
    · rw [if_neg h1] at h; cases h
  · rw [if_neg h0] at h
    by_cases h1 : -(n : Int) ≤ i
    · rw [if_pos h1] at h
      have e : (i + n).toNat = j := Option.some.inj h
      exact ⟨by rw [seqIndex_neg (by omega) h1, e], by omega, h1, by omega⟩
    · rw [if_neg h1] at h; cases h
theorem atI_get {α : Type} {xs : List α} {i : Int} {v : α} (h : atI xs i = some v) : ∃ j, seqIndex? i xs.length = some j ∧ xs[j]? = some v ∧ j < xs.length ∧ -(xs.length : Int) ≤ i ∧ i < xs.length := by
  unfold atI at h
  cases e : ixN xs.length i with
  | none => rw [e] at h; cases h
  | some j =>
    rw [e] at h
    obtain ⟨h1, h2, h3, h4⟩ := ixN_seq e
    exact ⟨j, h1, h, h2, h3, h4⟩
theorem atI_nat {α : Type} {xs : List α} {j : Nat} {v : α} (h : xs[j]? = some v) : atI xs (j : Int) = some v := by
  have hj : j < xs.length := (List.getElem?_eq_some_iff.mp h).1
  have e : ixN xs.length (j : Int) = some j := by
    unfold ixN
    rw [if_pos (by omega), if_pos (by omega)]; simp
  unfold atI; rw [e]; exact h
/-- what stands as an index of a plain subscript -/
def PlainIx (b : Expr) : Prop := ∀ o i, subscripted b false o i = operate [o, i] (getItem o i)
/-- a subscript by values -/
def IxR (X : Cx) (r : R2) : Prop :=
  ∀ (value slice : Expr) (pins : List (Addr × Obj)) (s : Shared) (σ : St) (H : Hp) (x y : V) (v u : Value) (Q : VK), Inv X pins σ H s → RelV x v → RelV y u → r x y H Q →
    subscripted slice false v u = operate [v, u] (getItem v u) → wpAny (model X.prog X.w) X.A (subscriptTail value slice v u) (EP X pins σ Q) X.xe s
/-- a call of a builtin's method by values: the receiver, the arguments -/
def MtR (X : Cx) (id : String) (r : V → List V → Hp → VK → Prop) : Prop :=
  ∀ (pins : List (Addr × Obj)) (s : Shared) (σ : St) (H : Hp) (x : V) (xs : List V) (v : Value) (us : List Value) (Q : VK), Inv X pins σ H s → RelV x v → Vals xs us → r x xs H Q →
    wpAny (model X.prog X.w) X.A (call (.builtin id) (v :: us)) (EP X pins σ Q) X.xe s
section
variable {X : Cx} {a b : Expr} {ta tb : TE} {pos : Pos}
theorem IxR.or {r r' : R2} (h : IxR X r) (h' : IxR X r') : IxR X (fun x y H Q => r x y H Q ∨ r' x y H Q) := by
  intro value slice pins s σ H x y v u Q I rx ry q hs
  rcases q with q | q
  · exact h value slice pins s σ H x y v u Q I rx ry q hs
  · exact h' value slice pins s σ H x y v u Q I rx ry q hs
/-- a[b] -/
theorem pe_ix {r : R2} (hr : IxR X r) (ha : PE X a ta) (hb : PE X b tb) (hs : PlainIx b) : PE X (.Subscript a b pos) (tOp r ta tb) := by
  intro pins s σ H Q I h
  exact Subscript_ (binT ha hb I h fun v u s2 x y H2 I2 rx ry q => hr a b pins s2 σ H2 x y v u Q I2 rx ry q (hs _ _))

def rIxL (K : PySem.W.Frag) : R2 := fun x y H Q => ∃ p xs i v, x = .ref p ∧ y = .int i ∧ SqL K H p xs ∧ atI xs i = some v ∧ Q v H
def rIxT (K : PySem.W.Frag) : R2 := fun x y H Q => ∃ p xs i v, x = .ref p ∧ y = .int i ∧ SqT K H p xs ∧ atI xs i = some v ∧ Q v H
def rIxS : R2 := fun x y H Q => ∃ z i c, x = .str z ∧ y = .int i ∧ z.length ≤ sizeLine ∧ atI z.cps.toList i = some c ∧ Q (.str ⟨#[c]⟩) H
theorem ix_list : IxR X (rIxL X.K) := by
  intro value slice pins s σ H x y v u Q I rx ry h hs
  obtain ⟨p, xs, i, z, rfl, rfl, hq, he, q⟩ := h
  cases rx
  obtain ⟨t, rfl⟩ := ry
  obtain ⟨its, r, pl, hz⟩ := I.list hq
  obtain ⟨j, h1, h2, h3, h4, h5⟩ := atI_get he
  obtain ⟨w, ew, rw'⟩ := r.get h2
  have hl := r.length
  have hn := line63
  have fin : EP X pins σ Q w s := ⟨z, H, I, rw', q⟩
  by_cases h0 : 0 ≤ i
  · have hj : i.toNat = j := by
      rw [seqIndex_of h0 h5] at h1
      exact Option.some.inj h1
    exact item_listR pl.isList h0 (by omega) (by rw [hj]; simpa using ew) fin hs
  · have hj : (i + (its.toArray.size : Int)).toNat = j := by
      rw [seqIndex_neg (by omega) h4] at h1
      rw [List.size_toArray, ← hl]
      exact Option.some.inj h1
    exact subscriptTail_builtinR (x := w) pl.isList.typeIs slot_list_getitem.lookup
      (wpAny_getItem_list_neg (Q := fun r s' => r = w ∧ EP X pins σ Q r s') pl.isList (by omega) (by rw [List.size_toArray] <;> omega) (by omega) (by rw [hj]; simpa using ew) ⟨rfl, fin⟩) hs
theorem ix_tup : IxR X (rIxT X.K) := by
  intro value slice pins s σ H x y v u Q I rx ry h hs
  obtain ⟨p, xs, i, z, rfl, rfl, hq, he, q⟩ := h
  cases rx
  obtain ⟨t, rfl⟩ := ry
  obtain ⟨its, r, pl, hz⟩ := I.tuple hq
  obtain ⟨j, h1, h2, h3, h4, h5⟩ := atI_get he
  obtain ⟨w, ew, rw'⟩ := r.get h2
  have hl := r.length
  have hn := line63
  have fin : EP X pins σ Q w s := ⟨z, H, I, rw', q⟩
  exact subscriptTail_builtinR (x := w) pl.typeIs slot_tuple_getitem.lookup
    (getItem_tuple (j := j) (Q := fun r s' => r = w ∧ EP X pins σ Q r s') pl (by omega) (by omega) (by rw [List.size_toArray, ← hl]; exact h1) (by simpa using ew) ⟨rfl, fin⟩) hs
theorem ix_str : IxR X rIxS := by
  intro value slice pins s σ H x y v u Q I rx ry h hs
  obtain ⟨z, i, c, rfl, rfl, hz, he, q⟩ := h
  obtain ⟨t, rfl⟩ := rx
  obtain ⟨t', rfl⟩ := ry
  obtain ⟨j, h1, h2, h3, h4, h5⟩ := atI_get he
  have hl : z.cps.toList.length = z.length := by simp [Str.length]
  rw [hl] at h1 h4 h5
  have hn := line63
  exact tail_any (typeIs_str s z t) slot_str_getitem.lookup (getItem_str (c := c) (by
    have e1 : decide (i < -(2 ^ 63 : Int)) = false := decide_eq_false (by omega)
    have e2 : decide (i ≥ 2 ^ 63) = false := decide_eq_false (by omega)
    rw [e1, e2, Bool.or_false]) (by rw [h1]; simpa using h2) ⟨.str ⟨#[c]⟩, H, I.tok _, ⟨_, rfl⟩, q⟩) hs
/-- list, tuple or str -/
def rIx (K : PySem.W.Frag) : R2 := fun x y H Q => rIxL K x y H Q ∨ rIxT K x y H Q ∨ rIxS x y H Q
theorem ix_seq : IxR X (rIx X.K) := ix_list.or (ix_tup.or ix_str)

/-- the list's object behind a store -/
theorem mapSeq_set (its : List Value) (n j : Nat) (u : Value) : Obj.mapSeq (·.setIfInBounds j u) { cls := .type "list", data := .seq its.toArray n } = { cls := .type "list", data := .seq (its.set j u).toArray n } := by
  simp [Obj.mapSeq]
theorem Inv.lst {pins : List (Addr × Obj)} {σ : St} {H : Hp} {s : Shared} {p : Addr} {xs : List V} (I : Inv X pins σ H s) (h : H p = some (.lst xs)) :
    ∃ (its : List Value) (n : Nat), Vals xs its ∧ s.heap.get? p = some { cls := .type "list", data := .seq its.toArray n } ∧ xs.length ≤ sizeLine := by
  obtain ⟨z, its, n, r, e⟩ := I.hok p _ h
  exact ⟨its, n, r, e, z⟩
/-- the list at p is written by an update of its object -/
theorem Inv.lstUpd {pins : List (Addr × Obj)} {σ : St} {H : Hp} {s : Shared} {p : Addr} {xs ys : List V} {its its' : List Value} {n n' : Nat} {f : Obj → Obj} (I : Inv X pins σ H s) (h : H p = some (.lst xs))
    (ho : s.heap.get? p = some { cls := .type "list", data := .seq its.toArray n }) (hf : f { cls := .type "list", data := .seq its.toArray n } = { cls := .type "list", data := .seq its'.toArray n' }) (r : Vals ys its') (hz : ys.length ≤ sizeLine) (t : Nat) :
    Inv X pins σ (upd H p (.lst ys)) { s with heap := s.heap.update p f, toks := t } := by
  have e : (s.heap.update p f).get? p = some { cls := .type "list", data := .seq its'.toArray n' } := by
    rw [Heap.get?_update_self f ho (by rw [hf] <;> rfl), hf]
  refine I.write (x := p) (e := p) (by rw [h]; trivial) (.inl rfl) (fun b u hb q => (Heap.get?_update_other _ _ (Ne.symm hb)).trans q) ⟨_, e⟩ ?_
  exact ⟨hz, its', n', r, e⟩
def rSetL : V → V → V → Hp → (Hp → Prop) → Prop := fun o i v H Q => ∃ p xs k j, o = .ref p ∧ i = .int k ∧ H p = some (.lst xs) ∧ ixN xs.length k = some j ∧ Q (upd H p (.lst (xs.set j v)))
theorem set_list : PSet X rSetL := by
  intro pins s σ H o i v ov iv u Q I ro ri rv h
  obtain ⟨p, xs, k, j, rfl, rfl, hp, hj, q⟩ := h
  cases ro
  obtain ⟨t, rfl⟩ := ri
  obtain ⟨its, n, r, ho, hz⟩ := I.lst hp
  obtain ⟨h1, h2, h3, h4⟩ := ixN_seq hj
  have hl := r.length
  have hn := line63
  have I' : Inv X pins σ (upd H p (.lst (xs.set j v))) { s with heap := s.heap.update p (Obj.mapSeq (·.setIfInBounds j u)) } :=
    I.lstUpd hp ho (mapSeq_set its n j u) (r.set rv j) (by rw [List.length_set]; exact hz) s.toks
  by_cases h0 : 0 ≤ k
  · have hk : k.toNat = j := by
      rw [seqIndex_of h0 h4] at h1
      exact Option.some.inj h1
    exact PySem.W.ki_setAt ho h0 (by omega) (by rw [List.size_toArray, ← hl]; exact h4) (by rw [hk]; exact ⟨_, I', q⟩)
  · have hk : (k + (its.toArray.size : Int)).toNat = j := by
      rw [seqIndex_neg (by omega) h3] at h1
      rw [List.size_toArray, ← hl]
      exact Option.some.inj h1
    exact PySem.W.ki_setBack ho (by omega) (by rw [List.size_toArray, ← hl]; exact h3) (by omega) (by rw [hk]; exact ⟨_, I', q⟩)

def flatV : V → Bool
  | .non => true
  | .bl _ => true
  | .int _ => true
  | .str _ => true
  | _ => false
/-- == of flat values -/
def eqV : V → V → Bool
  | .non, .non => true
  | .bl a, .bl b => a == b
  | .bl a, .int b => (if a then 1 else 0) == b
  | .int a, .bl b => a == (if b then 1 else 0)
  | .int a, .int b => a == b
  | .str a, .str b => a == b
  | _, _ => false
theorem eqAt_V {A : Around} {s : Shared} {y x : V} {u v : Value} (ry : RelV y u) (rx : RelV x v) (fy : flatV y = true) (fx : flatV x = true) : SeqAt.EqAt A s u v (eqV y x) := by
  cases y with
  | non =>
    cases ry
    cases x with
    | non => cases rx; exact SeqAt.EqAt.same _
    | bl b => cases rx; exact SeqAt.EqAt.none_bool b
    | int b => obtain ⟨t, rfl⟩ := rx; exact SeqAt.EqAt.none_int b t
    | str b => obtain ⟨t, rfl⟩ := rx; exact SeqAt.EqAt.none_str b t
    | _ => exact absurd (show false = true from fx) Bool.false_ne_true
  | bl a =>
    cases ry
    cases x with
    | non => cases rx; exact SeqAt.EqAt.bool_none a
    | bl b => cases rx; exact SeqAt.EqAt.bool_bool a b
    | int b => obtain ⟨t, rfl⟩ := rx; exact SeqAt.EqAt.bool_int a b t
    | str b => obtain ⟨t, rfl⟩ := rx; exact SeqAt.EqAt.bool_str a b t
    | _ => exact absurd (show false = true from fx) Bool.false_ne_true
  | int a =>
    obtain ⟨t', rfl⟩ := ry
    cases x with
    | non => cases rx; exact SeqAt.EqAt.int_none a t'
    | bl b => cases rx; exact SeqAt.EqAt.int_bool a t' b
    | int b => obtain ⟨t, rfl⟩ := rx; exact SeqAt.EqAt.int_int a t' b t
    | str b => obtain ⟨t, rfl⟩ := rx; exact SeqAt.EqAt.int_str a t' b t
    | _ => exact absurd (show false = true from fx) Bool.false_ne_true
  | str a =>
    obtain ⟨t', rfl⟩ := ry
    cases x with
    | non => cases rx; exact SeqAt.EqAt.str_none a t'
    | bl b => cases rx; exact SeqAt.EqAt.str_bool a t' b
    | int b => obtain ⟨t, rfl⟩ := rx; exact SeqAt.EqAt.str_int a t' b t
    | str b => obtain ⟨t, rfl⟩ := rx; exact SeqAt.EqAt.str_str a t' b t
    | _ => exact absurd (show false = true from fx) Bool.false_ne_true
  | _ => exact absurd (show false = true from fy) Bool.false_ne_true
/-- the items' answers, read off the values (a value's own answer does not lean on its token) -/
def eqU (x : V) (u : Value) : Bool := match u with
  | .none => eqV .non x
  | .bool b => eqV (.bl b) x
  | .int i _ => eqV (.int i) x
  | .str z _ => eqV (.str z) x
  | _ => false
theorem eqU_of {x y : V} {u : Value} (r : RelV y u) (f : flatV y = true) : eqU x u = eqV y x := by
  cases y with
  | non => cases r; rfl
  | bl b => cases r; rfl
  | int i => obtain ⟨t, rfl⟩ := r; rfl
  | str z => obtain ⟨t, rfl⟩ := r; rfl
  | _ => exact absurd (show false = true from f) Bool.false_ne_true
theorem any_eqU {x : V} : ∀ {xs : List V} {us : List Value}, Vals xs us → xs.all flatV = true → us.any (eqU x) = xs.any fun y => eqV y x
  | _, _, .nil, _ => rfl
  | y :: xs, u :: us, .cons r t, f => by
    rw [List.all_cons, Bool.and_eq_true] at f
    rw [List.any_cons, List.any_cons, eqU_of r f.1, any_eqU t f.2]
theorem mem_eqAt {A : Around} {s : Shared} {x : V} {v : Value} (rx : RelV x v) (fx : flatV x = true) : ∀ {xs : List V} {us : List Value}, Vals xs us → xs.all flatV = true → ∀ u ∈ us, SeqAt.EqAt A s u v (eqU x u)
  | _, _, .nil, _ => fun u hu => by cases hu
  | y :: xs, u :: us, .cons r t, f => fun u' hu => by
    rw [List.all_cons, Bool.and_eq_true] at f
    rcases List.mem_cons.mp hu with rfl | hu
    · rw [eqU_of r f.1]; exact eqAt_V r rx f.1 fx
    · exact mem_eqAt rx fx t f.2 u' hu
def inV (x : V) (xs : List V) : Bool := xs.any fun y => eqV y x
/-- x in a list or tuple of flat items -/
def rIn (K : PySem.W.Frag) (neg : Bool) : R2 := fun x y H Q => ∃ p xs, y = .ref p ∧ (SqL K H p xs ∨ SqT K H p xs) ∧ flatV x = true ∧ xs.all flatV = true ∧ Q (.bl (if neg then !inV x xs else inV x xs)) H
theorem op_notIn_seq : OpR X (compareOp .NotIn) (rIn X.K true) := by
  intro pins s σ H x y v u Q I rx ry h
  obtain ⟨p, xs, rfl, hq, fx, fs, q⟩ := h
  cases ry
  rcases hq with hq | hq
  · obtain ⟨its, r, pl, hz⟩ := I.list hq
    refine SeqAt.notIn_listAt (eqU x) pl.isList (fun w hw => mem_eqAt rx fx r fs w (by simpa using hw)) ⟨.bl _, H, I, rfl, ?_⟩
    rw [show its.toArray.any (eqU x) = its.any (eqU x) by simp, any_eqU r fs]
    exact q
  · obtain ⟨its, r, pl, hz⟩ := I.tuple hq
    refine SeqAt.notIn_tupleAt (eqU x) pl (fun w hw => mem_eqAt rx fx r fs w (by simpa using hw)) ⟨.bl _, H, I, rfl, ?_⟩
    rw [show its.toArray.any (eqU x) = its.any (eqU x) by simp, any_eqU r fs]
    exact q
theorem call_len_seq : CallR X (.builtin "len") (fun xs H Q => ∃ p ys, xs = [.ref p] ∧ (SqL X.K H p ys ∨ SqT X.K H p ys) ∧ Q (.int ys.length) H) := by
  intro pins s σ H xs us Q I r h
  obtain ⟨p, ys, rfl, hq, q⟩ := h
  obtain ⟨u, rfl, rx⟩ := vals1 r
  cases rx
  have hn := line63
  rcases hq with hq | hq
  · obtain ⟨its, r', pl, hz⟩ := I.list hq
    have hlen := r'.length
    exact Calls.call_len_list pl.isList (by simp only [List.size_toArray] <;> omega) ⟨.int ys.length, H, I.tok _, ⟨s.toks + 1, by rw [List.size_toArray, hlen]⟩, q⟩
  · obtain ⟨its, r', pl, hz⟩ := I.tuple hq
    have hlen := r'.length
    exact len_tuple pl (by simp only [List.size_toArray] <;> omega) ⟨.int ys.length, H, I.tok _, ⟨s.toks + 1, by rw [List.size_toArray, hlen]⟩, q⟩
theorem call_list_of : CallR X (.type "list") (fun xs H Q => ∃ p ys, xs = [.ref p] ∧ (SqL X.K H p ys ∨ SqT X.K H p ys) ∧ ∀ l, H l = none → Q (.ref l) (upd H l (.lst ys))) := by
  intro pins s σ H xs us Q I r h
  obtain ⟨p, ys, rfl, hq, q⟩ := h
  obtain ⟨u, rfl, rx⟩ := vals1 r
  cases rx
  have fin : ∀ (its : List Value), Vals ys its → ys.length ≤ sizeLine → ∀ (h' : Heap) (c' : Nat), (∀ b o', s.heap.get? b = some o' → h'.get? b = some o') →
      h'.get? s.heap.objs.size = some { cls := .type "list", dict := none, data := .seq its.toArray c', slots := #[] } → EP X pins σ Q (.ref s.heap.objs.size) { s with heap := h' } := fun its r' hz h' c' kp e =>
    ⟨.ref s.heap.objs.size, _, I.laid (t' := s.toks) kp (Nat.le_refl _) (show ObjOk X.prog X.w _ h' _ (.lst ys) from ⟨hz, its, c', r', e⟩), rfl, q _ (I.hok.fresh (Nat.le_refl _))⟩
  rcases hq with hq | hq
  · obtain ⟨its, r', pl, hz⟩ := I.list hq
    have hlen := r'.length
    obtain ⟨o, ho, hc, n, hd⟩ := pl.isList
    exact call_list_seq p (.inl rfl) ho hc hd (fun h' c' kp e => fin its r' hz h' c' kp e) (by simp only [List.size_toArray] <;> omega)
  · obtain ⟨its, r', pl, hz⟩ := I.tuple hq
    have hlen := r'.length
    obtain ⟨o, ho, hc, n, hd⟩ := pl
    exact call_list_seq p (.inr rfl) ho hc hd (fun h' c' kp e => fin its r' hz h' c' kp e) (by simp only [List.size_toArray] <;> omega)
theorem call_tuple_of : CallR X (.type "tuple") (fun xs H Q => ∃ p ys, xs = [.ref p] ∧ ((SqL X.K H p ys ∧ ∀ l, H l = none → Q (.ref l) (upd H l (.tup ys))) ∨ (SqT X.K H p ys ∧ Q (.ref p) H))) := by
  intro pins s σ H xs us Q I r h
  obtain ⟨p, ys, rfl, h⟩ := h
  obtain ⟨u, rfl, rx⟩ := vals1 r
  cases rx
  rcases h with ⟨hq, q⟩ | ⟨hq, q⟩
  · obtain ⟨its, r', pl, hz⟩ := I.list hq
    have hlen := r'.length
    refine call_tuple_list pl.isList (fun h' kp => ?_) (by simp only [List.size_toArray] <;> omega)
    have I1 : Inv X pins σ H { s with heap := h' } := I.kept (t' := s.toks) kp
    have I2 : Inv X pins σ (upd H h'.objs.size (.tup ys)) { s with heap := h'.push { cls := .type "tuple", data := .seq its.toArray } } :=
      I1.laid (t' := s.toks) (fun b o e => Heap.get?_push_of_some _ e) (Nat.le_refl _) (show ObjOk X.prog X.w _ _ _ (.tup ys) from ⟨⟨hz, _, Heap.get?_push_size _ rfl, rfl⟩, its, r', IsTup.new _ _⟩)
    exact ⟨.ref h'.objs.size, _, I2, rfl, q _ (I1.hok.fresh (Nat.le_refl _))⟩
  · obtain ⟨its, r', pl, hz⟩ := I.tuple hq
    exact call_tuple_same pl ⟨.ref p, H, I, rfl, q⟩

/-- the value is of that builtin type -/
def tyV (K : PySem.W.Frag) (T : String) (x : V) (H : Hp) : Prop := match x with
  | .str _ => T = "str"
  | .int _ => T = "int"
  | .ref p => (T = "list" ∧ ∃ xs, SqL K H p xs) ∨ (T = "tuple" ∧ ∃ o, K.lookup p = some o ∧ o.cls = .type "tuple" ∧ o.dict = none) ∨
      (T = "dict" ∧ ((∃ kvs, H p = some (.dK kvs)) ∨ ∃ kvs, H p = some (.dT kvs))) ∨ (T = "set" ∧ ∃ S n, H p = some (.set S n))
  | _ => False
theorem tyV_is {pins : List (Addr × Obj)} {σ : St} {H : Hp} {s : Shared} {T : String} {x : V} {v : Value} (I : Inv X pins σ H s) (r : RelV x v) (ty : tyV X.K T x H) :
    s.TypeIs v T ∧ ∀ a, v = .ref a → ∃ ob, s.heap.get? a = some ob ∧ ob.dict = none := by
  cases x with
  | str z =>
    obtain ⟨t, rfl⟩ := r
    cases (show T = "str" from ty)
    exact ⟨typeIs_str s z t, fun _ e => nomatch e⟩
  | int i =>
    obtain ⟨t, rfl⟩ := r
    cases (show T = "int" from ty)
    exact ⟨typeIs_int s i t, fun _ e => nomatch e⟩
  | ref p =>
    cases r
    rcases ty with ⟨rfl, xs, hq⟩ | ⟨rfl, o, hk, hc, hd⟩ | ⟨rfl, hk⟩ | ⟨rfl, S, n, hk⟩
    · obtain ⟨its, _, pl, _⟩ := I.list hq
      refine ⟨pl.isList.typeIs, fun a e => ?_⟩
      cases e
      obtain ⟨o, n, e, c, hd, _⟩ := pl
      exact ⟨o, e, hd⟩
    · refine ⟨⟨o, I.kIn p o hk, hc⟩, fun a e => ?_⟩
      cases e
      exact ⟨o, I.kIn _ o hk, hd⟩
    · have z : ∃ o, s.heap.get? p = some o ∧ o.ExactDict := by
        rcases hk with ⟨kvs, hk⟩ | ⟨kvs, hk⟩
        · obtain ⟨_, _, _, _, o, _, _, e, ex, _⟩ := I.hok p _ hk
          exact ⟨o, e, ex⟩
        · obtain ⟨_, _, _, _, o, _, _, e, ex, _⟩ := I.hok p _ hk
          exact ⟨o, e, ex⟩
      obtain ⟨o, e, ex⟩ := z
      refine ⟨⟨o, e, ex.1⟩, fun a e2 => ?_⟩
      cases e2
      exact ⟨o, e, ex.2.1⟩
    · obtain ⟨o, _, _, _, e, ex, _⟩ := I.hok p _ hk
      refine ⟨⟨o, e, ex.1⟩, fun a e2 => ?_⟩
      cases e2
      exact ⟨o, e, ex.2.1⟩
  | _ => exact False.elim ty
def tBM (K : PySem.W.Frag) (T : String) (r : V → List V → Hp → VK → Prop) (to : TE) (t : TA) : TE := fun σ H Q => to σ H fun x H1 => tyV K T x H1 ∧ t σ H1 fun xs H2 => r x xs H2 Q
variable {o e : Expr} {es : List Expr} {to : TE} {t : TA} {name : Str} {apos cpos : Pos} {T id : String} {r : V → List V → Hp → VK → Prop}
theorem pe_bm (pa : PlainAttrs T) (slot : Slot T name id) (hty : typeOf (.builtin id) = pure (.type "method_descriptor")) (hm : MtR X id r) (ho : PE X o to) (ha : PA X (e :: es) t)
    (hbase : attributeBase o name X.env (eval o X.env) = eval o X.env := by rfl)
    (hfew : ((backTo cpos (starEach (e :: es) X.env)).all (fun x => !x.1) && (backToKw cpos (keywordEach [] X.env)).all (fun x => x.1.isSome)
      && decide ((e :: es).length + ([] : List Keyword).length + (if ([] : List Keyword).isEmpty then 0 else 1) < 30)) = true := by rfl)
    (hline : (apos.endLine == cpos.line) = true := by rfl) (hs : starEach (e :: es) X.env = (false, eval e X.env) :: starEach es X.env := by rfl) (hplain : (backTo cpos (starEach es X.env)).any (·.1) = false := by rfl) :
    PE X (.Call (.Attribute o name apos) (e :: es) [] cpos) (tBM X.K T r to t) := by
  intro pins s σ H Q I h
  refine wpAny_Call_method_late hbase hfew hline rfl (thn (ho pins s σ H _ I h) fun v s1 ⟨x, H1, I1, r1, ty, q1⟩ => ?_)
  obtain ⟨h1, h2⟩ := tyV_is I1 r1 ty
  refine ⟨T, id, pa, slot, hty, h1, h2, ?_⟩
  have hA := ha cpos pins s1 σ H1 _ I1 q1
  rw [hs] at hA ⊢
  refine Calls.callWith_builtin (by show (false || (backTo cpos (starEach es X.env)).any (·.1)) = false; rw [hplain] <;> rfl) (Calls.evalArgs_plain ?_)
  exact thn hA fun us s2 ⟨vs, H2, I2, r2, q2⟩ => hm pins s2 σ H2 x vs v us Q I2 r1 r2 q2
/- xs.append(e), list.index on a module's tuple .. are MtR facts of 06m -/
end
end L2

namespace L2
open PySem PySem.Spec PyProof.Rows

def MtM (X : Cx) (id : String) (r : V → List V → Hp → VK → Prop) : Prop :=
  ∀ (pins : List (Addr × Obj)) (s : Shared) (σ : St) (H : Hp) (x : V) (xs : List V) (v : Value) (us : List Value) (Q : VK), Inv X pins σ H s → RelV x v → Vals xs us → r x xs H Q →
    wpAny (model X.prog X.w) X.A (call (.builtin id) (v :: us)) (EP X pins σ Q) X.xe s

theorem Vals.one : ∀ {x : V} {us : List Value}, Vals [x] us → ∃ u, us = [u] ∧ RelV x u
  | _, _, .cons r .nil => ⟨_, rfl, r⟩
theorem Vals.eraseIdx : ∀ {xs : List V} {us : List Value} (i : Nat), Vals xs us → Vals (xs.eraseIdx i) (us.eraseIdx i)
  | _, _, _, .nil => .nil
  | _, _, 0, .cons _ t => t
  | _, _, i + 1, .cons r t => .cons r (Vals.eraseIdx i t)
theorem len_erase {α : Type} : ∀ (l : List α) (i : Nat), (l.eraseIdx i).length ≤ l.length
  | [], _ => Nat.le_refl _
  | _ :: _, 0 => Nat.le_succ _
  | _ :: r, i + 1 => Nat.succ_le_succ (len_erase r i)
section
variable {X : Cx} {pins : List (Addr × Obj)} {σ : St} {H : Hp} {s : Shared} {l b : Addr} {xs ys zs : List V}

theorem Inv.lset {its its' : List Value} {n : Nat} {f : Array Value → Array Value} {t' : Nat} (I : Inv X pins σ H s) (hH : H l = some (.lst xs))
    (e : s.heap.get? l = some { cls := .type "list", data := .seq its.toArray n }) (hf : f its.toArray = its'.toArray) (hv : Vals ys its') (hz : ys.length ≤ sizeLine) :
    Inv X pins σ (upd H l (.lst ys)) { s with heap := s.heap.update l (Obj.mapSeq f), toks := t' } := by
  have q := PySem.IsL.update e f
  rw [hf] at q
  refine I.write (x := l) (e := l) (by rw [hH]; exact trivial) (.inl rfl) (fun b' u hb hu => (Heap.get?_update_other s.heap (Obj.mapSeq f) (Ne.symm hb)).trans hu) ⟨_, q⟩ ?_
  exact ⟨hz, its', _, hv, q⟩
theorem Inv.lstM (I : Inv X pins σ H s) (hH : H l = some (.lst xs)) : xs.length ≤ sizeLine ∧ ∃ (its : List Value) (n : Nat), Vals xs its ∧ xs.length = its.length ∧ s.heap.get? l = some { cls := .type "list", data := .seq its.toArray n } := by
  obtain ⟨z, its, n, r, e⟩ := I.hok l _ hH
  exact ⟨z, its, n, r, r.length, e⟩

theorem notLongL {n : Nat} (h : n ≤ sizeLine) : Builtin.List.listTooLong n = false := by
  unfold Builtin.List.listTooLong
  exact decide_eq_false (by omega)
end

section
variable {X : Cx}

def rAppend : V → List V → Hp → VK → Prop := fun x vs H Q => ∃ l xs y, x = .ref l ∧ vs = [y] ∧ H l = some (.lst xs) ∧ xs.length < sizeLine ∧ Q .non (upd H l (.lst (xs ++ [y])))
theorem mt_append : MtM X "list.append" rAppend := by
  intro pins s σ H x vs v us Q I rx rv h
  obtain ⟨l, xs, y, rfl, rfl, hH, hz, q⟩ := h
  cases rx
  obtain ⟨u, rfl, ru⟩ := rv.one
  obtain ⟨z, its, n, r, hl, e⟩ := I.lstM hH
  refine call_meets F.slot_list_append ⟨_, e, rfl⟩ F.entry_list_append (F.args_list_append_2 _ _) (PySem.list_append l its.toArray n u (by rw [List.size_toArray]; omega)) ⟨e, ?_⟩
  refine ⟨.non, _, I.lset (its' := its ++ [u]) hH e (by simp) (r.append (.cons ru .nil)) ?_, rfl, q⟩
  rw [List.length_append, List.length_singleton]
  omega

def rExtend : V → List V → Hp → VK → Prop := fun x vs H Q => ∃ l b xs zs, x = .ref l ∧ vs = [.ref b] ∧ H l = some (.lst xs) ∧ H b = some (.lst zs) ∧ xs.length + zs.length ≤ sizeLine ∧ Q .non (upd H l (.lst (xs ++ zs)))
theorem mt_extend : MtM X "list.extend" rExtend := by
  intro pins s σ H x vs v us Q I rx rv h
  obtain ⟨l, b, xs, zs, rfl, rfl, hH, hB, hz, q⟩ := h
  cases rx
  obtain ⟨u, rfl, ru⟩ := rv.one
  cases ru
  obtain ⟨z, its, n, r, hl, e⟩ := I.lstM hH
  obtain ⟨z2, its2, n2, r2, hl2, e2⟩ := I.lstM hB
  have hsz : its.toArray.size + its2.toArray.size ≤ sizeLine := by rw [List.size_toArray, List.size_toArray]; omega
  have hlong : ¬ (!its.toArray.isEmpty && Builtin.List.listTooLong (its.toArray.size + its2.toArray.size)) = true := by
    rw [notLongL hsz, Bool.and_false]
    exact Bool.false_ne_true
  refine call_meets F.slot_list_extend ⟨_, e, rfl⟩ F.entry_list_extend (F.args_list_extend_2 _ _)
    (AutoSeq1.list_extend_list_list_0 l its.toArray n b its2.toArray n2 hlong (by rw [List.size_toArray]; omega) (by omega)) ⟨e, e2, ?_⟩
  refine ⟨.non, _, I.lset (its' := its ++ its2) hH e (by simp) (r.append r2) ?_, rfl, q⟩
  rw [List.length_append]
  omega

def rPopAt : V → List V → Hp → VK → Prop := fun x vs H Q => ∃ l xs i k y, x = .ref l ∧ vs = [.int i] ∧ H l = some (.lst xs) ∧ -(2 ^ 63) ≤ i ∧ i < 2 ^ 63 ∧ seqIndex? i xs.length = some k ∧ xs[k]? = some y ∧ Q y (upd H l (.lst (xs.eraseIdx k)))
theorem mt_popAt : MtM X "list.pop" rPopAt := by
  intro pins s σ H x vs v us Q I rx rv h
  obtain ⟨l, xs, i, k, y, rfl, rfl, hH, h1, h2, hk, hy, q⟩ := h
  cases rx
  obtain ⟨u, rfl, ru⟩ := rv.one
  obtain ⟨t, rfl⟩ := ru
  obtain ⟨z, its, n, r, hl, e⟩ := I.lstM hH
  obtain ⟨w, hw, rw'⟩ := r.get hy
  refine call_meets F.slot_list_pop ⟨_, e, rfl⟩ F.entry_list_pop (F.args_list_pop_2 _ _)
    (MeetsSeq.list_pop_at l its.toArray n i t k w (fitsIndex_both h1 h2) (by rw [List.size_toArray, ← hl]; exact hk) (by rw [← Array.getElem?_toList]; exact hw) (by rw [List.size_toArray]; omega)) ⟨e, ?_⟩
  refine ⟨y, _, I.lset (its' := its.eraseIdx k) hH e ?_ (r.eraseIdx k) ?_, rw', q⟩
  · show its.toArray.eraseIdxIfInBounds k = (its.eraseIdx k).toArray
    rw [List.eraseIdxIfInBounds_toArray]
  · have := len_erase xs k
    omega

end

section
variable {prog : Program} {w : World} {A : Around} {E : Value → Shared → Prop} {s : Shared}
end

section
variable {X : Cx}
end
end L2

namespace L2
open PySem PySem.Spec PyProof.Rows

section
variable {κ : Type} [DecidableEq κ]
def valV (kvs : List (κ × V)) (k : κ) : Option V := (kvs.find? fun kv => decide (kv.1 = k)).map (·.2)
/-- in its place, or at the end -/
def putK (kvs : List (κ × V)) (k : κ) (v : V) : List (κ × V) :=
  if (kvs.any fun kv => decide (kv.1 = k)) = true then kvs.map (fun kv => if kv.1 = k then (kv.1, v) else kv) else kvs ++ [(k, v)]
theorem valV_pos {p : κ × V} {r : List (κ × V)} {k : κ} (e : p.1 = k) : valV (p :: r) k = some p.2 := by simp [valV, List.find?_cons, e]
theorem valV_neg {p : κ × V} {r : List (κ × V)} {k : κ} (e : ¬ p.1 = k) : valV (p :: r) k = valV r k := by simp [valV, List.find?_cons, e]
theorem valV_any (k : κ) : ∀ kvs : List (κ × V), (kvs.any fun kv => decide (kv.1 = k)) = (valV kvs k).isSome
  | [] => rfl
  | p :: r => by
    rw [List.any_cons]
    by_cases e : p.1 = k
    · simp only [valV_pos e, decide_eq_true e, Bool.true_or, Option.isSome_some]
    · rw [valV_neg e, decide_eq_false e, Bool.false_or]; exact valV_any k r
theorem valV_snoc (k j : κ) (y : V) : ∀ kvs : List (κ × V), valV kvs k = none → valV (kvs ++ [(k, y)]) j = if j = k then some y else valV kvs j
  | [], _ => by
    by_cases e : k = j
    · rw [if_pos e.symm]; exact valV_pos (p := (k, y)) e
    · rw [if_neg (fun z => e z.symm)]; exact valV_neg (p := (k, y)) e
  | p :: r, hn => by
    rw [List.cons_append]
    have hk : ¬ p.1 = k := fun z => by rw [valV_pos z] at hn; cases hn
    rw [valV_neg hk] at hn
    have ih := valV_snoc k j y r hn
    by_cases e : p.1 = j
    · rw [valV_pos e, valV_pos e, if_neg (fun z => hk (e.trans z))]
    · rw [valV_neg e, valV_neg e, ih]
theorem length_putK (kvs : List (κ × V)) (k : κ) (v : V) : (putK kvs k v).length ≤ kvs.length + 1 := by
  unfold putK
  split
  · rw [List.length_map]; omega
  · rw [List.length_append, List.length_cons, List.length_nil]; omega
theorem putK_new {kvs : List (κ × V)} {k : κ} (v : V) (h : valV kvs k = none) : putK kvs k v = kvs ++ [(k, v)] := by
  unfold putK
  rw [valV_any, h]
  exact if_neg (by decide)

theorem RelO.isSome_eq {o : Option V} {u : Option Value} (r : RelO o u) : o.isSome = u.isSome := by
  cases o with
  | none => cases u with
    | none => rfl
    | some _ => exact (show False from r).elim
  | some _ => cases u with
    | none => exact (show False from r).elim
    | some _ => rfl
theorem RelO.getD {o : Option V} {u : Option Value} {d : V} {d' : Value} (r : RelO o u) (rd : RelV d d') : RelV (o.getD d) (u.getD d') := by
  cases o with
  | none => cases u with
    | none => exact rd
    | some _ => exact (show False from r).elim
  | some _ => cases u with
    | none => exact (show False from r).elim
    | some _ => exact r

/-- raw tables of the same keys -/
theorem KV.val {kvs : List (κ × V)} {vs : List (κ × Value)} (r : KV kvs vs) (k : κ) : RelO (valV kvs k) (valueAt vs k) := by
  unfold KV at r
  induction r with
  | nil => exact True.intro
  | @cons p q ps qs h t ih =>
    obtain ⟨h1, h2⟩ := h
    by_cases e : p.1 = k
    · have e' : q.1 = k := h1.symm.trans e
      have b : valueAt (q :: qs) k = some q.2 := by simp [valueAt, List.find?_cons, e']
      rw [valV_pos e, b]; exact h2
    · have e' : ¬ q.1 = k := fun z => e (h1.trans z)
      have b : valueAt (q :: qs) k = valueAt qs k := by simp [valueAt, List.find?_cons, e']
      rw [valV_neg e, b]; exact ih
theorem KV.any {kvs : List (κ × V)} {vs : List (κ × Value)} (r : KV kvs vs) (k : κ) : (kvs.any fun kv => decide (kv.1 = k)) = vs.any fun kv => decide (kv.1 = k) := by
  unfold KV at r
  induction r with
  | nil => rfl
  | cons h t ih => rw [List.any_cons, List.any_cons, ih, h.1]
theorem KV.repl {kvs : List (κ × V)} {vs : List (κ × Value)} (r : KV kvs vs) (k : κ) {y : V} {u : Value} (ry : RelV y u) :
    KV (kvs.map fun kv => if kv.1 = k then (kv.1, y) else kv) (vs.map fun kv => if kv.1 = k then (kv.1, u) else kv) := by
  unfold KV at r ⊢
  induction r with
  | nil => exact .nil
  | @cons p q ps qs h t ih =>
    rw [List.map_cons, List.map_cons]
    refine .cons ?_ ih
    obtain ⟨h1, h2⟩ := h
    by_cases e : p.1 = k
    · rw [if_pos e, if_pos (h1.symm.trans e)]; exact ⟨h1, ry⟩
    · rw [if_neg e, if_neg (fun z => e (h1.trans z))]; exact ⟨h1, h2⟩
theorem KV.put {kvs : List (κ × V)} {vs : List (κ × Value)} (r : KV kvs vs) (k : κ) {y : V} {u : Value} (ry : RelV y u) : KV (putK kvs k y) (stored vs k u) := by
  unfold putK stored
  rw [r.any k]
  by_cases e : (vs.any fun kv => decide (kv.1 = k)) = true
  · rw [if_pos e, if_pos e]; exact r.repl k ry
  · rw [if_neg e, if_neg e]; exact Paired.snoc r ⟨rfl, ry⟩
theorem KV.keys {kvs : List (κ × V)} {vs : List (κ × Value)} (r : KV kvs vs) : kvs.map (·.1) = vs.map (·.1) := by
  unfold KV at r
  induction r with
  | nil => rfl
  | cons h t ih => rw [List.map_cons, List.map_cons, ih, h.1]
theorem KV.length {kvs : List (κ × V)} {vs : List (κ × Value)} (r : KV kvs vs) : kvs.length = vs.length := Paired.length r
end


theorem kV_is {P : Program} {w : World} {k : Key} {u : Value} (r : RelV (kV k) u) : (mixKind P w).is k u = true := by
  cases k with
  | inl i => obtain ⟨t, e⟩ := (show ∃ t, u = Value.int i t from r); subst e; exact mixKind_int P w i t
  | inr x => obtain ⟨t, e⟩ := (show ∃ t, u = Value.str x t from r); subst e; exact mixKind_str P w x t
theorem items_are {P : Program} {w : World} : ∀ {ks : List Key} {us : List Value}, Vals (ks.map kV) us → ItemsAre (mixKind P w) ks us
  | [], _, r => by rw [List.map_nil] at r; cases r; exact .nil
  | k :: ks, _, r => by
    rw [List.map_cons] at r
    cases r with
    | cons h t => exact .cons (kV_is h) (items_are t)

/-- raw entries of a dict with tuple keys -/
abbrev KT (H : Hp) : List (List Key × V) → List (List Key × Addr × Value) → Prop := Paired fun p q => p.1 = q.1 ∧ H q.2.1 = some (.tup (p.1.map kV)) ∧ RelV p.2 q.2.2
theorem KT.val {H : Hp} {kvs : List (List Key × V)} {xs : List (List Key × Addr × Value)} (r : KT H kvs xs) (k : List Key) : RelO (valV kvs k) ((atKey xs k).map (·.2)) := by
  induction r with
  | nil => exact True.intro
  | @cons p q ps qs h t ih =>
    obtain ⟨h1, _, h2⟩ := h
    by_cases e : p.1 = k
    · have e' : q.1 = k := h1.symm.trans e
      have b : atKey (q :: qs) k = some q.2 := by simp [atKey, List.find?_cons, e']
      rw [valV_pos e, b]; exact h2
    · have e' : ¬ q.1 = k := fun z => e (h1.trans z)
      have b : atKey (q :: qs) k = atKey qs k := by simp [atKey, List.find?_cons, e']
      rw [valV_neg e, b]; exact ih
theorem KT.repl {H : Hp} {kvs : List (List Key × V)} {xs : List (List Key × Addr × Value)} (r : KT H kvs xs) (k : List Key) {y : V} {u : Value} (ry : RelV y u) :
    KT H (kvs.map fun kv => if kv.1 = k then (kv.1, y) else kv) (xs.map (putAt k u)) := by
  induction r with
  | nil => exact .nil
  | @cons p q ps qs h t ih =>
    rw [List.map_cons, List.map_cons]
    refine .cons ?_ ih
    obtain ⟨h1, h2, h3⟩ := h
    unfold putAt
    by_cases e : p.1 = k
    · rw [if_pos e, if_pos (h1.symm.trans e)]; exact ⟨h1, h2, ry⟩
    · rw [if_neg e, if_neg (fun z => e (h1.trans z))]; exact ⟨h1, h2, h3⟩
theorem KT.put {H : Hp} {kvs : List (List Key × V)} {xs : List (List Key × Addr × Value)} (r : KT H kvs xs) (k : List Key) {b : Addr} {y : V} {u : Value} (hb : H b = some (.tup (k.map kV))) (ry : RelV y u) :
    KT H (putK kvs k y) (storedH xs k b u) := by
  have e : (kvs.any fun kv => decide (kv.1 = k)) = (atKey xs k).isSome := by
    rw [valV_any, (r.val k).isSome_eq, Option.isSome_map]
  unfold putK storedH
  rw [e]
  by_cases q : (atKey xs k).isSome = true
  · rw [if_pos q, if_pos q]; exact r.repl k ry
  · rw [if_neg q, if_neg q]; exact Paired.snoc r ⟨rfl, hb, ry⟩
theorem KT.keeps {H H' : Hp} {kvs : List (List Key × V)} {xs : List (List Key × Addr × Value)} (r : KT H kvs xs) (ht : ∀ b ys, H b = some (.tup ys) → H' b = some (.tup ys)) : KT H' kvs xs :=
  Paired.mapP r fun _ _ z => ⟨z.1, ht _ _ z.2.1, z.2.2⟩

section
variable {P : Program} {w : World} {H : Hp} {h : Heap} {a : Addr}
theorem rd_of {u : HO} (ok : HOk P w H h) (e : Rd H a u) : ObjOk P w H h a u := e.ok ok
theorem dk_rd {kvs : List (Key × V)} (ok : HOk P w H h) (e : Rd H a (.dK kvs)) : kvs.length ≤ sizeLine ∧ (a == sysModules) = false ∧ ∃ vs, KV kvs vs ∧ h.DictOf (mixKind P w) a vs :=
  show ObjOk P w H h a (.dK kvs) from rd_of ok e
theorem dk_of {kvs : List (Key × V)} (ok : HOk P w H h) (e : H a = some (.dK kvs)) : kvs.length ≤ sizeLine ∧ (a == sysModules) = false ∧ ∃ vs, KV kvs vs ∧ h.DictOf (mixKind P w) a vs := dk_rd ok (.inl e)
/-- a tracked tuple of ints and texts is a key -/
theorem key_of {ks : List Key} (ok : HOk P w H h) (e : H a = some (.tup (ks.map kV))) : (tupleKind (mixKind P w)).is h ks a := by
  obtain ⟨_, its, r, o, h1, h2, n, h3⟩ := (show ObjOk P w H h a (.tup (ks.map kV)) from ok a _ e)
  exact ⟨o, its.toArray, n, h1, h2, h3, by simpa using items_are r⟩
theorem dt_rd {kvs : List (List Key × V)} (ok : HOk P w H h) (e : Rd H a (.dT kvs)) : kvs.length ≤ sizeLine ∧ (a == sysModules) = false ∧
    ∃ xs, KT H kvs xs ∧ h.DictOfH (tupleKind (mixKind P w)) a xs := by
  obtain ⟨z, y, xs, r, o, es, ep, h1, h2, h3, h4, h5⟩ := (show ObjOk P w H h a (.dT kvs) from rd_of ok e)
  refine ⟨z, y, xs, r, o, es, ep, h1, h2, h3, h4, fun x hx => ?_, h5⟩
  have all : ∀ {l : List (List Key × V)} {m : List (List Key × Addr × Value)}, KT H l m → ∀ x ∈ m, (tupleKind (mixKind P w)).is h x.1 x.2.1 := by
    intro l m q
    induction q with
    | nil => intro x hx; exact nomatch hx
    | @cons p q ps qs hq t ih =>
      intro x hx
      rcases List.mem_cons.mp hx with e | hx
      · subst e
        exact key_of ok (by rw [← hq.1]; exact hq.2.1)
      · exact ih x hx
  exact all r x hx
theorem dt_of {kvs : List (List Key × V)} (ok : HOk P w H h) (e : H a = some (.dT kvs)) : kvs.length ≤ sizeLine ∧ (a == sysModules) = false ∧
    ∃ xs, KT H kvs xs ∧ h.DictOfH (tupleKind (mixKind P w)) a xs := dt_rd ok (.inl e)
end

/-- what the dict at a holds at the key y -/
def DGet (H : Hp) (a : Addr) (y : V) (r : Option V) : Prop :=
  (∃ kvs k, Rd H a (.dK kvs) ∧ y = kV k ∧ r = valV kvs k) ∨ ∃ kvs k b, Rd H a (.dT kvs) ∧ y = .ref b ∧ H b = some (.tup (k.map kV)) ∧ r = valV kvs k
/-- the heap behind a[y] = v -/
def DPut (H : Hp) (a : Addr) (y v : V) (H' : Hp) : Prop :=
  (∃ kvs k, H a = some (.dK kvs) ∧ y = kV k ∧ kvs.length < sizeLine ∧ H' = upd H a (.dK (putK kvs k v))) ∨
  ∃ kvs k b, H a = some (.dT kvs) ∧ y = .ref b ∧ H b = some (.tup (k.map kV)) ∧ kvs.length < sizeLine ∧ H' = upd H a (.dT (putK kvs k v))
theorem DGet.k {H : Hp} {a : Addr} {kvs : List (Key × V)} {k : Key} (e : H a = some (.dK kvs)) : DGet H a (kV k) (valV kvs k) := .inl ⟨kvs, k, .inl e, rfl, rfl⟩
theorem DPut.k {H : Hp} {a : Addr} {kvs : List (Key × V)} {k : Key} {v : V} (e : H a = some (.dK kvs)) (hl : kvs.length < sizeLine) : DPut H a (kV k) v (upd H a (.dK (putK kvs k v))) := .inl ⟨kvs, k, e, rfl, hl, rfl⟩
section
variable {X : Cx} {pins : List (Addr × Obj)} {σ : St} {H : Hp} {s : Shared} {a : Addr} {y v : V} {u r : Value} {o : Option V} {A : Around} {E : Value → Shared → Prop}

theorem Inv.big (I : Inv X pins σ H s) : sysModules < s.heap.objs.size := by
  have h : mainGlobals < s.heap.objs.size := (I.mod.glob.keeps I.bk).lt
  exact Nat.lt_trans (by decide) h

/-- d[y], there -/
theorem d_getItem {Q : Value → Shared → Prop} (hu : A.units + 1 < cLine) (I : Inv X pins σ H s) (g : DGet H a y (some v)) (ry : RelV y u) (h : ∀ w' s', Inv X pins σ H s' → RelV v w' → Q w' s') :
    wpAny (model X.prog X.w) A (getItem (.ref a) u) Q E s := by
  rcases g with ⟨kvs, k, e, ey, l⟩ | ⟨kvs, k, b, e, ey, eb, l⟩
  · subst ey
    obtain ⟨z, hd, vs, rel, dd⟩ := dk_rd I.hok e
    obtain ⟨w', hw, rw'⟩ := RelO.some_of (v := v) (o := valueAt vs k) (by rw [l]; exact rel.val k)
    exact wpAny_getItem_of (kV_is ry) dd.mapOf hw (h w' _ (I.tok _) rw')
  · subst ey
    cases (show u = Value.ref b from ry)
    obtain ⟨z, hd, xs, rel, dd⟩ := dt_rd I.hok e
    obtain ⟨w', hw, rw'⟩ := RelO.some_of (v := v) (o := (atKey xs k).map (·.2)) (by rw [l]; exact rel.val k)
    obtain ⟨p, hp, hp2⟩ := Option.map_eq_some_iff.mp hw
    refine wpAny_getItem_heap (tupleKind_room_in1 hu) (key_of I.hok eb) dd hp ?_
    rw [hp2]
    exact h w' _ (I.tok _) rw'
theorem d_notIn {Q : Value → Shared → Prop} (hu : A.units + 1 < cLine) (I : Inv X pins σ H s) (g : DGet H a y o) (ry : RelV y u) (h : ∀ s', Inv X pins σ H s' → Q (.bool (!o.isSome)) s') :
    wpAny (model X.prog X.w) A (compareOp .NotIn u (.ref a)) Q E s := by
  rcases g with ⟨kvs, k, e, ey, l⟩ | ⟨kvs, k, b, e, ey, eb, l⟩
  · subst ey
    obtain ⟨z, hd, vs, rel, dd⟩ := dk_rd I.hok e
    refine wpAny_notIn_of (kV_is ry) hd dd.mapOf ?_
    rw [← (rel.val k).isSome_eq, ← l]
    exact h _ (I.tok _)
  · subst ey
    cases (show u = Value.ref b from ry)
    obtain ⟨z, hd, xs, rel, dd⟩ := dt_rd I.hok e
    refine wpAny_notIn_heap (tupleKind_room_in1 hu) (key_of I.hok eb) hd dd ?_
    have q := (rel.val k).isSome_eq
    rw [Option.isSome_map] at q
    rw [← q, ← l]
    exact h _ (I.tok _)
/-- a dict's object is replaced -/
theorem d_write {h' : Heap} {t' : Nat} {ob : HO} (I : Inv X pins σ H s) (mu : Mut (H a)) (hs : Heap.SameBut a s.heap h') (he : ∃ q, h'.get? a = some q) (new : ObjOk X.prog X.w (upd H a ob) h' a ob) :
    Inv X pins σ (upd H a ob) { s with heap := h', toks := t' } :=
  I.write (x := a) (e := a) mu (.inl rfl) (fun b q hb z => (hs.2 b hb).trans z) he new
theorem dk_new {P : Program} {w : World} {H' : Hp} {h' : Heap} {kvs : List (Key × V)} {vs : List (Key × Value)} (z : kvs.length ≤ sizeLine) (hd : (a == sysModules) = false) (rel : KV kvs vs) (dd : h'.DictOf (mixKind P w) a vs) :
    ObjOk P w H' h' a (.dK kvs) := ⟨z, hd, vs, rel, dd⟩
/-- d[y] = v -/
theorem d_setItem {H' : Hp} {Q : Unit → Shared → Prop} (hu : A.units + 1 < cLine) (I : Inv X pins σ H s) (g : DPut H a y v H') (ry : RelV y u) (rv : RelV v r) (h : ∀ s', Inv X pins σ H' s' → Q () s') :
    wpAny (model X.prog X.w) A (setItem (.ref a) u r) Q E s := by
  rcases g with ⟨kvs, k, e, ey, l, eH⟩ | ⟨kvs, k, b, e, ey, eb, l, eH⟩
  · subst ey eH
    obtain ⟨z, hd, vs, rel, dd⟩ := dk_of I.hok e
    have hz : vs.length ≤ sizeLine := by rw [← rel.length]; exact z
    have hl : (putK kvs k v).length ≤ sizeLine := by have := length_putK kvs k v; omega
    refine wpAny_setItem_pairs (hsz := hz) (kV_is ry) dd fun h' dd' hs => h _ ?_
    have he : ∃ q, h'.get? a = some q := let ⟨q, _, _, hq, _⟩ := dd'; ⟨q, hq⟩
    exact d_write I (by rw [e]; exact True.intro) hs he (dk_new hl hd (rel.put k rv) dd')
  · subst ey eH
    cases (show u = Value.ref b from ry)
    obtain ⟨z, hd, xs, rel, dd⟩ := dt_of I.hok e
    have hz : xs.length ≤ sizeLine := by rw [← Paired.length rel]; exact z
    have hl : (putK kvs k v).length ≤ sizeLine := by have := length_putK kvs k v; omega
    refine wpAny_setItem_heap (hsz := hz) (tupleKind_room_in1 hu) (key_of I.hok eb) dd fun h' dd' hs => h _ ?_
    obtain ⟨q, es, ep, hq, h2, h3, h4, _, h5⟩ := dd'
    refine d_write I (by rw [e]; exact True.intro) hs ⟨q, hq⟩ ⟨hl, hd, _, (rel.put k eb rv).keeps fun c ys ec => ?_, q, es, ep, hq, h2, h3, h4, h5⟩
    rw [upd_ne (ne_of ec e (fun z => nomatch z))]
    exact ec
end

section
variable {X : Cx} {pins : List (Addr × Obj)} {σ : St} {H : Hp} {s : Shared} {a : Addr} {kvs : List (Key × V)} {k : Key} {u : Value} {A : Around} {E : Value → Shared → Prop}
/-- len(d) -/
theorem d_len {Q : Value → Shared → Prop} (I : Inv X pins σ H s) (e : Rd H a (.dK kvs)) (h : ∀ t s', Inv X pins σ H s' → Q (.int kvs.length t) s') : wpAny (model X.prog X.w) A (call (.builtin "len") [.ref a]) Q E s := by
  obtain ⟨z, hd, vs, rel, dd⟩ := dk_rd I.hok e
  refine call_len_dict hd dd (by rw [← rel.length]; rw [sizeLine_eq] at z; omega) ?_
  rw [← rel.length]
  exact h _ _ (I.tok _)
end


/-- the element of a subscription, not a slice -/
def NoSl (i : Expr) : Prop := ∀ ov iv, subscripted i false ov iv = operate [ov, iv] (getItem ov iv)
theorem subD_of {prog : Program} {w : World} {A : Around} {E : Value → Shared → Prop} {s : Shared} {env : Env} {value slice : Expr} {pos : Pos} {T id : String} {Q : Value → Shared → Prop}
    (hl : typeLookup (.type T) "__getitem__" = pure (some (.builtin id))) (hs : NoSl slice)
    (h : wpAny (model prog w) A (eval value env) (fun o s₁ => wpAny (model prog w) A (eval slice env) (fun i s₂ => s₂.TypeIs o T ∧ wpAny (model prog w) A (getItem o i) Q E s₂) E s₁) E s) :
    wpAny (model prog w) A (eval (.Subscript value slice pos) env) Q E s := by
  refine Subscript_ (wpAny_mono h (fun o s₁ h₁ => wpAny_mono h₁ (fun i s₂ h₂ => ?_) fun _ _ x => x) fun _ _ x => x)
  obtain ⟨hT, h₂⟩ := h₂
  unfold subscriptTail
  refine wpAny_bind ?_
  rw [getitemInPython_of_ne hT.not_modules]
  refine wpAny_bind (wpAny_specialOf hT hl ?_)
  have fin : wpAny (model prog w) A (subscripted slice false o i) (fun r s₃ => wpAny (model prog w) A (letTemporaryGo value o r >>= fun _ => pure r) Q E s₃) E s₂ := by
    rw [hs o i]
    exact wpAny_operating (wpAny_mono h₂ (fun r s₃ h₃ => wpAny_bind (wpAny_letTemporaryGo (wpAny_pure h₃))) fun _ _ x => x)
  first
    | exact wpAny_pure (wpAny_bind fin)
    | exact wpAny_bind (wpAny_pure (wpAny_bind fin))
    | exact wpAny_bind fin

theorem dict_typeIs {X : Cx} {pins : List (Addr × Obj)} {σ : St} {H : Hp} {s : Shared} {a : Addr} {y : V} {o : Option V} (I : Inv X pins σ H s) (g : DGet H a y o) : s.TypeIs (.ref a) "dict" := by
  rcases g with ⟨kvs, k, e, _, _⟩ | ⟨kvs, k, b, e, _, _, _⟩
  · obtain ⟨_, _, vs, _, dd⟩ := dk_rd I.hok e
    exact dd.typeIs
  · obtain ⟨_, _, xs, _, dd⟩ := dt_rd I.hok e
    exact dd.typeIs
/-- d[y] -/
def tDGet (td ty : TE) : TE := fun σ H Q => td σ H fun x H1 => ty σ H1 fun y H2 => ∃ a v, x = .ref a ∧ DGet H2 a y (some v) ∧ Q v H2
def tDNotIn (ty td : TE) : TE := fun σ H Q => ty σ H fun y H1 => td σ H1 fun x H2 => ∃ a o, x = .ref a ∧ DGet H2 a y o ∧ Q (.bl (!o.isSome)) H2
/-- d[y] = v -/
def sDPut (td ty tv : TE) : TS := fun D σ H => tv σ H fun v H1 => td σ H1 fun x H2 => ty σ H2 fun y H3 => ∃ a H4, x = .ref a ∧ DPut H3 a y v H4 ∧ D.nx σ H4
section
variable {X : Cx} {o i e value : Expr} {pos pos' tpos : Pos} {td ty tv : TE}
theorem pe_dget (hu : X.A.units + 1 < cLine) (ho : PE X o td) (hi : PE X i ty) (hs : NoSl i) : PE X (.Subscript o i pos) (tDGet td ty) := by
  intro pins s σ H Q I h
  refine subD_of PySem.F.slot_dict_getitem.lookup hs (thn (ho pins s σ H _ I h) fun u s1 ⟨x, H1, I1, rx, q1⟩ => thn (hi pins s1 σ H1 _ I1 q1) fun iv s2 ⟨y, H2, I2, ry, a, v, ex, g, q2⟩ => ?_)
  subst ex
  obtain rfl : u = Value.ref a := rx
  exact ⟨dict_typeIs I2 g, d_getItem hu I2 g ry fun w' s3 I3 rw' => ⟨v, H2, I3, rw', q2⟩⟩
theorem pc_dnotin (hu : X.A.units + 1 < cLine) (hi : PE X i ty) (ho : PE X o td) : PC X .NotIn i o (tDNotIn ty td) := by
  intro pins s σ H Q I h
  refine thn (hi pins s σ H _ I h) fun iv s1 ⟨y, H1, I1, ry, q1⟩ => thn (ho pins s1 σ H1 _ I1 q1) fun u s2 ⟨x, H2, I2, rx, a, ov, ex, g, q2⟩ => ?_
  subst ex
  obtain rfl : u = Value.ref a := rx
  exact d_notIn hu I2 g ry fun s3 I3 => ⟨.bl (!ov.isSome), H2, I3, rfl, q2⟩
theorem ps_dput (hu : X.A.units + 1 < cLine) (ho : PE X o td) (hi : PE X i ty) (hv : PE X value tv) (hs : swapsWith value (some (.Subscript o i pos')) pos.line X.env = pure false) :
    PS X (.Assign [.Subscript o i pos'] value pos) (sDPut td ty tv) := by
  intro pins s σ H D I h
  refine wpAny_Assign_Subscript (thn (hv pins s σ H _ I h) fun r s1 ⟨v, H1, I1, rv, q1⟩ => thn (ho pins s1 σ H1 _ I1 q1) fun u s2 ⟨x, H2, I2, rx, q2⟩ => thn (hi pins s2 σ H2 _ I2 q2) fun iv s3 ⟨y, H3, I3, ry, a, H4, ex, g, q3⟩ => ?_) hs
  subst ex
  obtain rfl : u = Value.ref a := rx
  exact d_setItem hu I3 g ry rv fun s4 I4 => ⟨σ, H4, I4, q3⟩
end


theorem dk_empty {P : Program} {w : World} {H : Hp} (h : Heap) (hb : sysModules < h.objs.size) : ObjOk P w H (h.push { cls := .type "dict", data := .dict #[] }) h.objs.size (.dK []) :=
  ⟨Nat.zero_le _, beq_eq_false_iff_ne.mpr (Ne.symm (Nat.ne_of_lt hb)), [], .nil, Heap.DictOf.new h⟩
/-- {}, to be a dict of the kind that is wanted -/
def tDNewK : TE := fun _ H Q => ∀ p, H p = none → Q (.ref p) (upd H p (.dK []))
section
variable {X : Cx} {pos : Pos}
theorem pe_dnewK : PE X (.Dict [] [] pos) tDNewK := fun pins s σ H Q I h =>
  wpAny_Dict_empty ⟨.ref s.heap.objs.size, _, I.laid (a := s.heap.objs.size) (o := .dK []) (t' := s.toks) (fun _ _ q => Heap.get?_push_of_some _ q) (Nat.le_refl _) (dk_empty s.heap I.big), rfl, h _ (I.hok.fresh (Nat.le_refl _))⟩
end

/-- the pairs of a display, from the left -/
def tPairs : List (TE × TE) → St → Hp → (List (V × V) → Hp → Prop) → Prop
  | [], _, H, Q => Q [] H
  | (tk, tv) :: r, σ, H, Q => tk σ H fun x H1 => tv σ H1 fun y H2 => tPairs r σ H2 fun ps H3 => Q ((x, y) :: ps) H3
abbrev VV : List (V × V) → List (Value × Value) → Prop := Paired fun p q => RelV p.1 q.1 ∧ RelV p.2 q.2
def PPs (X : Cx) (pos : Pos) (keys : List (Option Expr)) (values : List Expr) (trs : List (TE × TE)) : Prop :=
  ∀ (pins : List (Addr × Obj)) (s : Shared) (σ : St) (H : Hp) (Q : List (V × V) → Hp → Prop), Inv X pins σ H s → tPairs trs σ H Q →
    wpAny (model X.prog X.w) X.A (evalPairs (pairTrees keys values X.env pos)) (fun vs s' => ∃ ps H', Inv X pins σ H' s' ∧ VV ps vs ∧ Q ps H') X.xe s
theorem pps_nil {X : Cx} {pos : Pos} : PPs X pos [] [] [] := fun pins s σ H Q I h => pairTrees_nil_walk ⟨[], H, I, .nil, h⟩
theorem pps_cons {X : Cx} {pos : Pos} {k v : Expr} {ks : List (Option Expr)} {vs : List Expr} {tk tv : TE} {trs : List (TE × TE)} (hk : PE X k tk) (hv : PE X v tv) (hr : PPs X pos ks vs trs) :
    PPs X pos (some k :: ks) (v :: vs) ((tk, tv) :: trs) := fun pins s σ H Q I h =>
  pairTrees_cons_walk (thn (hk pins s σ H _ I h) fun u s1 ⟨x, H1, I1, rx, q1⟩ => thn (hv pins s1 σ H1 _ I1 q1) fun w2 s2 ⟨y, H2, I2, ry, q2⟩ =>
    thn (hr pins s2 σ H2 _ I2 q2) fun ws s3 ⟨ps, H3, I3, rel, q3⟩ => ⟨(x, y) :: ps, H3, I3, .cons ⟨rx, ry⟩ rel, q3⟩)

def mergeK (kvs more : List (Key × V)) : List (Key × V) := more.foldl (fun acc kv => putK acc kv.1 kv.2) kvs
theorem KV.merge : ∀ {more : List (Key × V)} {rs : List (Key × Value)} {kvs : List (Key × V)} {vs : List (Key × Value)}, KV more rs → KV kvs vs → KV (mergeK kvs more) (merged vs rs) := by
  intro more rs kvs vs r
  unfold KV at r
  induction r generalizing kvs vs with
  | nil => intro q; exact q
  | @cons p q ps qs h t ih =>
    intro r0
    have e : KV (putK kvs p.1 p.2) (stored vs q.1 q.2) := by
      have := r0.put p.1 h.2
      rw [← h.1]; exact this
    exact ih e
theorem length_mergeK : ∀ (more kvs : List (Key × V)), (mergeK kvs more).length ≤ kvs.length + more.length
  | [], kvs => by show kvs.length ≤ kvs.length + 0; omega
  | p :: r, kvs => by
    have h1 := length_mergeK r (putK kvs p.1 p.2)
    have h2 := length_putK kvs p.1 p.2
    show (mergeK (putK kvs p.1 p.2) r).length ≤ _
    rw [List.length_cons]; omega
theorem carries_of {P : Program} {w : World} : ∀ {kvs : List (Key × V)} {ws : List (Value × Value)}, VV (kvs.map fun kv => (kV kv.1, kv.2)) ws → ∃ rs, Carries (mixKind P w) ws rs ∧ KV kvs rs
  | [], _, r => by rw [List.map_nil] at r; cases r; exact ⟨[], True.intro, .nil⟩
  | p :: kvs, _, r => by
    rw [List.map_cons] at r
    cases r with
    | @cons a b as bs h t =>
      obtain ⟨rs, c, q⟩ := carries_of (P := P) (w := w) t
      obtain ⟨b1, b2⟩ := b
      exact ⟨(p.1, b2) :: rs, ⟨kV_is h.1, rfl, c⟩, .cons ⟨rfl, h.2⟩ q⟩
/-- {k: v, ..} with keys ints and texts; the new dict stands empty while the pairs are made -/
def tDisp (trs : List (TE × TE)) : TE := fun σ H Q => ∀ p, H p = none → tPairs trs σ (upd H p (.dK [])) fun ps H2 => H2 p = some (.dK []) ∧ ∃ kvs : List (Key × V), ps = kvs.map (fun kv => (kV kv.1, kv.2)) ∧ kvs.length ≤ 15 ∧ Q (.ref p) (upd H2 p (.dK (mergeK [] kvs)))
theorem pe_disp {X : Cx} {pos : Pos} {keys : List (Option Expr)} {values : List Expr} {trs : List (TE × TE)} (h : PPs X pos keys values trs) (hall : keys.all (·.isSome) = true) (hl : keys.length = values.length) (h0 : keys ≠ [])
    (h15 : keys.length ≤ 15) : PE X (.Dict keys values pos) (tDisp trs) := by
  intro pins s σ H Q I q
  have hn := I.hok.fresh (Nat.le_refl s.heap.objs.size)
  have I1 := I.laid (a := s.heap.objs.size) (o := .dK []) (h' := s.heap.push { cls := .type "dict", data := .dict #[] }) (t' := s.toks) (fun _ _ q => Heap.get?_push_of_some _ q) (Nat.le_refl _) (dk_empty s.heap I.big)
  refine wpAny_Dict_walk (knd := mixKind X.prog X.w) hall hl h0 h15 (thn (h pins _ σ _ _ I1 (q _ hn)) fun ws s2 ⟨ps, H2, I2, rel, e, kvs, ep, lk, q2⟩ => ?_)
  subst ep
  obtain ⟨rs, c, rk⟩ := carries_of (P := X.prog) (w := X.w) rel
  obtain ⟨z, hd, vs0, r0, dd⟩ := dk_of I2.hok e
  cases r0
  refine ⟨rs, c, dd, fun h' dd' hs => ⟨.ref s.heap.objs.size, _, ?_, rfl, q2⟩⟩
  have hz : (mergeK [] kvs).length ≤ sizeLine := by
    have h1 := length_mergeK kvs []
    rw [List.length_nil] at h1
    rw [sizeLine_eq]; omega
  have he : ∃ q, h'.get? s.heap.objs.size = some q := let ⟨q, _, _, hq, _⟩ := dd'; ⟨q, hq⟩
  exact d_write I2 (by rw [e]; exact True.intro) hs he (dk_new hz hd (rk.merge .nil) dd')


/-- a method call o.m(e) of a built-in, with one argument: what must be seen of the text -/
structure M1 (X : Cx) (o : Expr) (m : Str) (apos : Pos) (e : Expr) (cpos : Pos) : Prop where
  base : attributeBase o m X.env (eval o X.env) = eval o X.env
  few : ((backTo cpos (starEach [e] X.env)).all (fun x => !x.1) && (backToKw cpos (keywordEach [] X.env)).all (fun x => x.1.isSome)
    && decide (([e] : List Expr).length + ([] : List Keyword).length + (if ([] : List Keyword).isEmpty then 0 else 1) < 30)) = true
  line : (apos.endLine == cpos.line) = true
  trees : backTo cpos (starEach [e] X.env) = [(false, eval e X.env)]
/-- a is a dict, whatever its keys -/
def IsD (H : Hp) (a : Addr) : Prop := (∃ kvs, Rd H a (.dK kvs)) ∨ ∃ kvs, Rd H a (.dT kvs)
theorem isD_at {X : Cx} {pins : List (Addr × Obj)} {σ : St} {H : Hp} {s : Shared} {a : Addr} (I : Inv X pins σ H s) (d : IsD H a) :
    s.TypeIs (.ref a) "dict" ∧ (∀ b, Value.ref a = .ref b → ∃ ob, s.heap.get? b = some ob ∧ ob.dict = none) ∧ (a == sysModules) = false := by
  rcases d with ⟨kvs, e⟩ | ⟨kvs, e⟩
  · obtain ⟨_, hd, vs, _, dd⟩ := dk_rd I.hok e
    refine ⟨dd.typeIs, fun b q => ?_, hd⟩
    cases q
    obtain ⟨ob, _, _, h1, h2, _⟩ := dd
    exact ⟨ob, h1, h2.2.1⟩
  · obtain ⟨_, hd, xs, _, dd⟩ := dt_rd I.hok e
    refine ⟨dd.typeIs, fun b q => ?_, hd⟩
    cases q
    obtain ⟨ob, _, _, h1, h2, _⟩ := dd
    exact ⟨ob, h1, h2.2.1⟩

section
variable {X : Cx} {pins : List (Addr × Obj)} {σ : St} {H : Hp} {s : Shared} {a : Addr} {y d : V} {u r : Value} {o : Option V} {A : Around} {E : Value → Shared → Prop}
/-- d.get(y) -/
theorem d_get1 {Q : Value → Shared → Prop} (hu : A.units + 1 < cLine) (I : Inv X pins σ H s) (g : DGet H a y o) (ry : RelV y u) (h : ∀ w' s', Inv X pins σ H s' → RelV (o.getD .non) w' → Q w' s') :
    wpAny (model X.prog X.w) A (call (.builtin "dict.get") [.ref a, u]) Q E s := by
  rcases g with ⟨kvs, k, e, ey, l⟩ | ⟨kvs, k, b, e, ey, eb, l⟩
  · subst ey
    obtain ⟨z, hd, vs, rel, dd⟩ := dk_rd I.hok e
    refine call_meetsIn PySem.F.slot_dict_get dd.typeIs PySem.F.entry_dict_get (PySem.F.args_dict_get_2 _ _) (meets_dict_get (mixKind X.prog X.w) a (kV_is ry) hd) ⟨_, dd.mapOf, h _ _ (I.tok _) ?_⟩
    rw [l]
    exact (rel.val k).getD rfl
  · subst ey
    cases (show u = Value.ref b from ry)
    obtain ⟨z, hd, xs, rel, dd⟩ := dt_rd I.hok e
    refine call_meetsIn PySem.F.slot_dict_get dd.typeIs PySem.F.entry_dict_get (PySem.F.args_dict_get_2 _ _) (meetsH_dict_get (tupleKind (mixKind X.prog X.w)) a b hd) ⟨tupleKind_room_in1 hu, k, xs, key_of I.hok eb, dd, h _ _ (I.tok _) ?_⟩
    rw [l]
    exact (rel.val k).getD rfl
end

def tDGet1 (td ty : TE) : TE := fun σ H Q => td σ H fun x H1 => ∃ a, x = .ref a ∧ IsD H1 a ∧ ty σ H1 fun y H2 => ∃ o, DGet H2 a y o ∧ Q (o.getD .non) H2
section
variable {X : Cx} {o e f : Expr} {apos cpos : Pos} {td ty tx : TE}
theorem pe_dget1 (hu : X.A.units + 1 < cLine) (ho : PE X o td) (he : PE X e ty) (m : M1 X o "get" apos e cpos) : PE X (.Call (.Attribute o "get" apos) [e] [] cpos) (tDGet1 td ty) := by
  intro pins s σ H Q I h
  refine wpAny_Call_method m.base m.few m.line PySem.F.plainAttrs_dict PySem.F.slot_dict_get PySem.F.type_dict_get (thn (ho pins s σ H _ I h) fun u s1 ⟨x, H1, I1, rx, a, ex, d, q1⟩ => ?_)
  subst ex
  obtain rfl : u = Value.ref a := rx
  obtain ⟨t1, t2, _⟩ := isD_at I1 d
  refine ⟨t1, t2, ?_⟩
  rw [m.trees]
  refine Calls.callWith_builtin rfl (Calls.evalArgs_plain (Calls.spliced_cons (thn (he pins s1 σ H1 _ I1 q1) fun iv s2 ⟨y, H2, I2, ry, ov, g, q2⟩ => Calls.spliced_nil ?_)))
  exact d_get1 hu I2 g ry fun w' s3 I3 rw' => ⟨_, H2, I3, rw', q2⟩
end

section
variable {X : Cx} {pins : List (Addr × Obj)} {σ : St} {H : Hp} {s : Shared} {a : Addr} {kvs : List (Key × V)} {A : Around} {E : Value → Shared → Prop}
end


section
variable {X : Cx} {pins : List (Addr × Obj)} {σ : St} {H : Hp} {s : Shared} {a : Addr} {y : V} {u : Value} {A : Around} {E : Value → Shared → Prop}
end
end L2

namespace Att
open PySem PySem.W PySem.Calls PyProof.Rows

theorem ints_of_wellAll {P : Params} {h : Heap} : ∀ (ns : List Int) (vs : List Value), WellAll P h vs (ns.map WData.int) → IntsAre vs ns := by
  intro ns
  induction ns with
  | nil =>
    intro vs w
    rw [List.map_nil] at w
    cases w
    exact .nil
  | cons n ns ih =>
    intro vs w
    rw [List.map_cons] at w
    cases w with
    | cons a b =>
      cases a
      exact .cons _ _ (ih _ b)

theorem script_of {l : OpenLaw} {n : Nat} (hn : l.most = some n) {P : Params} {h : Heap} {args : List WData} {vals : List Value}
    (hpre : l.row.toRowW.claim.pre args = true) (hwl : WellAll P h vals args) :
    ∃ a vs ns, vals = [Value.ref a] ∧ args = [WData.list (ns.map WData.int)] ∧ h.get? a = some { cls := .type "list", data := .seq vs.toArray } ∧ IntsAre vs ns ∧ ns.length ≤ n := by
  have hsh : WShape.hasAll [] args [.list .int] = true := (pre_splitW hpre).1
  have hc : l.pre.holds [] { args := args } = true := (pre_splitW hpre).2
  obtain ⟨d, r, rfl, h1, h2⟩ := hasAllW_cons hsh
  obtain rfl := hasAllW_nil h2
  obtain ⟨xs, rfl, h3⟩ := hasW_list h1
  obtain ⟨ns, rfl⟩ := items_int h3
  have hlen : ns.length ≤ n := by
    unfold OpenLaw.pre at hc
    have h4 : (WTm.not (.lt (.lit (.int (n : Int))) (.len (.arg 0)))).holds [] { args := [.list (ns.map .int)] } = true := by
      have h4 := (holds_andW hc).1
      rw [hn] at h4
      exact h4
    have h5 := condW_of h4 (w_not (w_lt w_lit (w_len_list (w_arg rfl))))
    rw [List.length_map] at h5
    refine Nat.le_of_not_lt fun q => ?_
    have q' : (n : Int) < ((ns.length : Nat) : Int) := by omega
    first
      | (rw [decide_eq_true q'] at h5; exact absurd h5 (by decide))
      | (simp at h5; omega)
  cases hwl with
  | cons w1 w2 =>
    cases w2
    cases w1 with
    | list ho hall => exact ⟨_, _, ns, rfl, rfl, ho, ints_of_wellAll ns _ hall, hlen⟩

theorem post_true (l : OpenLaw) (args : List WData) : l.row.toRowW.claim.post args (.bool true) args = true :=
  postW_of (r := l.row.toRowW) (X := (true == true))
    (show WShape.has [] (.bool true) .bool = true by first | rfl | decide | simp [WShape.has, WShape.arms, WShape.armsAll])
    (show (WTm.eq .res (.lit (.bool true))).value [] { args := args, res := some (.bool true), after := args } = some (.bool (true == true)) from w_eq_bool (w_res rfl) w_lit) rfl

/-- the same from a codeAny of the CALL (for a layer whose function contracts speak of calls) -/
theorem attach_call {l : OpenLaw} {n : Nat} {q : Program} {loose : List Str} {XP : (Str → Option Value) → Heap → Prop} {YP : World → Heap → Prop} {d : DefRec}
    (hn : l.most = some n) (hdf : d.params.defaults = [])
    (call : ∀ (w : World) (s₀ s₁ : Shared) (mg mb : Str → Option Value) (fa : Addr) (o : Obj) (pm cd doc : Value) (a : Addr) (vs : List Value) (ns : List Int),
      Ground q loose [] XP w s₀ mg mb s₁.heap → YP w s₁.heap →
      s₁.heap.get? fa = some o → o.data = .func (docDef d.name d.params d.body d.scope pm cd doc) → s₁.heap.CodeRec cd d.name → mg d.name = some (.ref fa) →
      s₁.heap.get? a = some { cls := .type "list", data := .seq vs.toArray } → IntsAre vs ns → ns.length ≤ n → s₁.gens = #[] →
      codeAny (model l.prog w) callerA (.call (.ref fa) ⟨[.ref a], []⟩) (fun r s' => r = .ok (.ret (.bool true)) ∧ OldK s₁.heap s'.heap ∧ s'.os = s₁.os ∧ AllBare s'.gens) s₁) :
    WalkO q loose XP YP l.row.toRowW d [] (fun f vs => PySem.call f vs) := by
  intro w s₀ s₁ mg mb G Y fa o pm cd doc dV kV ho hd hcd hD hmg hg args vals as hpre hlay hrd hwl hlo
  obtain rfl : dV = .none := Dflts.none hD hdf
  obtain rfl : kV = .none := Dflts.noKw hD
  obtain ⟨a, vs, ns, rfl, rfl, hobj, hints, hlen⟩ := script_of hn hpre hwl
  refine enter_call (codeAny_mono (call w s₀ s₁ mg mb fa o pm cd doc a vs ns G Y ho (fd_plain hd) hcd hmg hobj hints hlen hg) fun r s' hq => ?_)
  obtain ⟨rfl, h2, h3, h4⟩ := hq
  exact ⟨.inl ⟨.bool true, .bool true, [], rfl, fun _ => rfl, .bool true, post_true l _, fun _ => ⟨List.Pairwise.nil, fun _ hm => (nomatch hm)⟩⟩, h2, h3, h4⟩

section
variable {prog : Program} {w : World} {A : Around} {E : Value → Shared → Prop} {s : Shared} {K : Frag}

end
end Att

namespace L2
open PySem PySem.Spec PyProof.Rows

theorem vals_ints : ∀ {vs : List Value} {ns : List Int}, IntsAre vs ns → Vals (ns.map V.int) vs
  | _, _, .nil => .nil
  | _, _, .cons n t h => .cons ⟨t, rfl⟩ (vals_ints h)

/-- nothing is tracked but the script, known to the object (or it is an object of the module) -/
def Only (H : Hp) : Prop := ∀ b, H b = none ∨ ∃ o xs, H b = some (.frz o (.lst xs))

/-- THE HEAD: the law's promise, at the heap behind the top. F, the promise of the law's def, may use that base is part of the heap (so K.In base, base.Ns mainGlobals mg stand in Mod) -/
theorem law_call {P : Program} {w : World} {K : PySem.W.Frag} {mg mb : Str → Option Value} {CX : CXT} {k : Nat} {fa a : Addr} {fd : FuncData} {x : Str} {sp : Sp} {s₁ : Shared} {vs : List Value} {ns : List Int}
    (KX : K.In s₁.heap) (hns : s₁.heap.Ns mainGlobals mg) (hb : s₁.heap.Ns builtinsNs mb) (hbb : ∀ x : Str, x ≠ "__name__" → mb x = bootBuiltins x) (hlim : s₁.heap.NoLimit) (hg : s₁.gens = #[])
    (ha : s₁.heap.get? a = some { cls := .type "list", data := .seq vs.toArray }) (hi : IntsAre vs ns) (hl : ns.length ≤ sizeLine) (hr : Room k callerA)
    (F : ∀ base : Heap, K.In base → base.Ns mainGlobals mg → FnOk P w K mg base CX k fa fd [x] sp) (hbind : ∀ (s : Shared) (u : Value), BindsTo s fd ⟨[u], []⟩ [(x, u)])
    (hsp : ∀ H : Hp, Only H → SqL K H a (ns.map V.int) → sp [.ref a] H (fun v _ => v = .bl true) fun _ _ _ => False)
    (hCX : ∀ H e s', CX [] H s₁ (fun _ _ _ => False) e s' → False) :
    codeAny (model P w) callerA (.call (.ref fa) ⟨[.ref a], []⟩) (fun r s' => r = .ok (.ret (.bool true)) ∧ OldK s₁.heap s'.heap ∧ s'.os = s₁.os ∧ AllBare s'.gens) s₁ := by
  have rv := vals_ints hi
  have lenV := hi.length
  -- from an abstract heap in which nothing but the script may be tracked
  have core : ∀ H : Hp, Only H → SqL K H a (ns.map V.int) → HOk P w H s₁.heap → (∀ b, H b ≠ none → b = a) → (H a ≠ none → K.lookup a = none) →
      codeAny (model P w) callerA (.call (.ref fa) ⟨[.ref a], []⟩) (fun r s' => r = .ok (.ret (.bool true)) ∧ OldK s₁.heap s'.heap ∧ s'.os = s₁.os ∧ AllBare s'.gens) s₁ := by
    intro H hO hS hok hA hK
    have base_of : ∀ {b : Addr} {o : Obj}, s₁.heap.get? b = some o → H b = none → (hidT s₁.heap H).get? b = some o := fun e n => hidT_get e n
    have noA : ∀ {b : Addr} {o : Obj} {es : Array DictEntry} {ep : Nat}, s₁.heap.get? b = some o → o.data = .dict es ep → H b = none := fun {b o es ep} e d => by
      cases q : H b with
      | none => rfl
      | some u =>
        have e' : b = a := hA b (by rw [q]; simp)
        subst e'
        rw [ha] at e; cases e
        have d' : Data.seq vs.toArray _ = Data.dict es ep := d
        cases d'
    have nsK : ∀ {b : Addr} {m : Str → Option Value}, s₁.heap.Ns b m → (hidT s₁.heap H).Ns b m := fun {b m} ⟨o, es, ep, e, d, r⟩ => ⟨o, es, ep, base_of e (noA e d), d, r⟩
    have hKb : K.In (hidT s₁.heap H) := fun b o e => base_of (KX b o e) (by
      cases q : H b with
      | none => rfl
      | some u =>
        have e' : b = a := hA b (by rw [q]; simp)
        subst e'
        rw [hK (by rw [q]; simp)] at e; cases e)
    have hM : Mod K mg (hidT s₁.heap H) := ⟨hKb, nsK hns, ⟨mb, nsK hb, hbb⟩, let ⟨mc, h1, h2⟩ := hlim; ⟨mc, nsK h1, h2⟩⟩
    have e0 : Env0 P w K mg (hidT s₁.heap H) callerA [] s₁ H := ⟨rfl, hM, fun b o e => of_hidT e, Nat.le_of_eq (hidT_size _ _), trivial, fun b hb => absurd (show b ∈ ([] : List Addr) from hb) (by simp), hok, .of_eq hg⟩
    refine codeAny_mono ((F _ hKb (nsK hns)).run callerA [] s₁ H ⟨[.ref a], []⟩ [.ref a] [.ref a] _ _ hr e0 (hbind s₁ (.ref a)) (.cons rfl .nil) (hsp H hO hS)) fun r s' h => ?_
    cases r with
    | error e => exact (hCX H e s' h).elim
    | ok fl =>
      cases fl with
      | next => exact False.elim h
      | brk => exact False.elim h
      | cont => exact False.elim h
      | ret u =>
        obtain ⟨v, H', os, bare, un, hok', r', q⟩ := h
        have q' : v = .bl true := q
        subst q'
        obtain rfl : u = Value.bool true := r'
        refine ⟨rfl, OldK.of_keep fun b o e => ?_, os, bare⟩
        cases q : H b with
        | none => exact un.keep b o e q (by intro z; exact absurd (show b ∈ ([] : List Addr) from z) (by simp)) (by simp)
        | some u =>
          rcases hO b with z | ⟨ob, xs, z⟩
          · rw [q] at z; cases z
          · have z2 := un.frzs b ob _ z
            obtain ⟨e1, _⟩ := hok b _ z
            obtain ⟨e2, _⟩ := hok' b _ z2
            rw [e] at e1; cases e1
            exact e2
  cases hk : K.lookup a with
  | some o =>
    -- the script is one of the module's own objects
    have e := KX a o hk
    rw [ha] at e
    cases e
    refine core (fun _ => none) (fun _ => .inl rfl) (.inr ⟨_, vs.toArray, _, hk, rfl, rfl, rfl, by rw [List.size_toArray, lenV]; exact hl, by simpa using rv⟩) (fun b u z => by have z' : (none : Option HO) = some u := z; cases z') (fun b z => absurd rfl z) fun z => absurd rfl z
  | none =>
    refine core (fun b => if b = a then some (.frz { cls := .type "list", data := .seq vs.toArray } (.lst (ns.map V.int))) else none) (fun b => ?_) (.inl (.inr ⟨{ cls := .type "list", data := .seq vs.toArray }, if_pos rfl⟩)) (fun b u z => ?_) (fun b z => ?_) fun _ => hk
    · by_cases hb : b = a
      · exact .inr ⟨_, _, if_pos hb⟩
      · exact .inl (if_neg hb)
    · by_cases hb : b = a
      · have z' := (if_pos hb).symm.trans z
        cases z'
        subst hb
        exact ⟨ha, by rw [List.length_map]; exact hl, vs, _, rv, ha⟩
      · have z' := (if_neg hb).symm.trans z
        cases z'
    · by_cases hb : b = a
      · exact hb
      · exact absurd (if_neg hb) z
end L2

namespace L2
open PySem PySem.Spec PyProof.Rows

abbrev KOf {K : PySem.W.Frag} {h : Heap} (_ : K.In h) : PySem.W.Frag := K

/-- the goal that k_head leaves (case hc), from the law's promise. F gives the function object fd (K's own) once, then the promise over every base -/
theorem walk_of {l : PySem.W.OpenLaw} {n k : Nat} {q : Program} {loose : List Str} {XP : (Str → Option Value) → Heap → Prop} {YP : World → Heap → Prop} {d : DefRec} {K : Params → PySem.W.Frag} {CX : World → CXT} {sp : World → Sp} {x : Str}
    (hn : l.most = some n) (hn2 : n ≤ sizeLine) (hdf : d.params.defaults = []) (hr : Room k callerA)
    (hY : ∀ (w : World) (h : Heap), YP w h → (K w.params).In h)
    (F : ∀ (w : World) (mg : Str → Option Value) (fa : Addr) (h : Heap), (K w.params).In h → h.Ns mainGlobals mg → mg d.name = some (.ref fa) →
      ∃ fd : FuncData, (∀ (s : Shared) (u : Value), BindsTo s fd ⟨[u], []⟩ [(x, u)]) ∧
        ∀ base : Heap, (K w.params).In base → base.Ns mainGlobals mg → FnOk l.prog w (K w.params) mg base (CX w) k fa fd [x] (sp w))
    (hsp : ∀ (w : World) (H : Hp) (a : Addr) (ns : List Int), ns.length ≤ n → Only H → SqL (K w.params) H a (ns.map V.int) → sp w [.ref a] H (fun v _ => v = .bl true) fun _ _ _ => False)
    (hCX : ∀ (w : World) (H : Hp) (s : Shared) (e : Value) (s' : Shared), CX w [] H s (fun _ _ _ => False) e s' → False) :
    PySem.W.WalkO q loose XP YP l.row.toRowW d [] (fun f vs => PySem.call f vs) := by
  refine Att.attach_call hn hdf fun w s₀ s₁ mg mb fa o pm cd doc a vs ns G Y ho hd hcd hmg hobj hints hlen hg => ?_
  have KX := hY w _ Y
  obtain ⟨fd, hb, hF⟩ := F w mg fa _ KX G.T.g hmg
  exact law_call KX G.T.g G.T.b G.T.builtins G.T.nolimit hg hobj hints (Nat.le_trans hlen hn2) hr hF hb (fun H hO hS => hsp w H a ns hlen hO hS) fun H e s' => hCX w H s₁ e s'
end L2


namespace L2
open PySem PySem.Spec PyProof.Rows

def defArgs (s : Stmt) : Arguments := match s with
  | .FunctionDef _ a _ _ _ _ _ _ _ _ => a
  | _ => { posonlyargs := [], args := [], vararg := none, kwonlyargs := [], kw_defaults := [], kwarg := none, defaults := [] }
def defBody (s : Stmt) : List Stmt := match s with
  | .FunctionDef _ _ b _ _ _ _ _ _ _ => b
  | _ => []
def defScope (s : Stmt) : Scope := match s with
  | .FunctionDef _ _ _ _ _ _ sc _ _ _ => sc
  | _ => { kind := .function, names := [], isGenerator := false, isCoroutine := false }

abbrev CX0 : CXT := fun _ _ _ _ _ _ => False
abbrev E0 : XK := fun _ _ _ => False
theorem pass0 {X : Cx} : Passes CX0 X E0 := fun _ _ _ _ _ _ _ h => h.elim

structure Fun (K : PySem.W.Frag) (x qual : Str) (st : Stmt) (f : Addr) (fd : FuncData) : Prop where
  ex : ∃ (oc : Value) (od : Option Addr) (kV doc pm : Value) (an : Option Addr) (cdv ct : Value) (osl : Array (Option Value)),
    fd = PySem.W.fnOf x qual (defArgs st) (defBody st) (defScope st) .none kV doc pm an cdv ct ∧ K.lookup f = some ⟨oc, od, .func fd, osl⟩ ∧ PySem.W.codeIn K cdv qual = true
  kp : PySem.W.keepIn K (.ref f) = true
section
variable {P : Program} {w : World} {K : PySem.W.Frag} {mg : Str → Option Value} {base : Heap}
/-- THE RULE for a def: its body as a term of rules, and the reading of that term -/
theorem Fun.ok {x qual : Str} {st : Stmt} {f : Addr} {fd : FuncData} {N ps : List Str} {k : Nat} {sp : Sp} (F : Fun K x qual st f fd) (S : FnScope N ps (defScope st)) (len : ∀ vs H Q E, sp vs H Q E → vs.length = ps.length)
    (hbody : ∀ (cdv : Value) (A : Around) (outer : List Env) (s : Shared) (H : Hp) (vs : List V) (Q : VK) (E : XK), Room k (A.deeper (envOfC qual (defScope st) s.heap.objs.size f cdv)) → sp vs H Q E →
      ∃ t, PSs (cxOf CX0 P w K mg base N qual (defScope st) f cdv A outer s H E).nox (defBody st) t ∧ t { nx := fun _ H' => Q .non H', rt := Q } (start N vs) H) : FnOk P w K mg base CX0 (k + 1) f fd ps sp := by
  obtain ⟨oc, od, kV, doc, pm, an, cdv, ct, osl, rfl, lk, hcd⟩ := F.ex
  refine fn_of lk hcd S len fun A outer s H vs Q E hr hsp => ?_
  obtain ⟨t, h, q⟩ := hbody cdv A outer s H vs Q E hr hsp
  exact ⟨t, h.nox, q⟩
/-- how its arguments bind (no defaults): h is «fun _ _ _ _ _ _ us hl => match us, hl with | [_, _], _ => rfl», one _ a parameter -/
theorem Fun.binds {x qual : Str} {st : Stmt} {f : Addr} {fd : FuncData} {ps : List Str} (F : Fun K x qual st f fd)
    (h : ∀ (kV doc pm : Value) (an : Option Addr) (cdv ct : Value) (us : List Value), us.length = ps.length → bindArgs (PySem.W.fnOf x qual (defArgs st) (defBody st) (defScope st) .none kV doc pm an cdv ct) ⟨us, []⟩ = pure (ps.zip us)) : Binds K fd ps [] := by
  obtain ⟨oc, od, kV, doc, pm, an, cdv, ct, osl, rfl, lk, hcd⟩ := F.ex
  exact .all (h kV doc pm an cdv ct)
theorem fun_mk {x qual : Str} {st : Stmt} {f : Addr} {oc : Value} {od an : Option Addr} {osl : Array (Option Value)} {kV doc pm cdv ct : Value} (l : K.lookup f = some ⟨oc, od, .func (PySem.W.fnOf x qual (defArgs st) (defBody st) (defScope st) .none kV doc pm an cdv ct), osl⟩)
    (c : PySem.W.codeIn K cdv qual = true) (k : PySem.W.keepIn K (.ref f) = true) : Fun K x qual st f (PySem.W.fnOf x qual (defArgs st) (defBody st) (defScope st) .none kV doc pm an cdv ct) := ⟨⟨oc, od, kV, doc, pm, an, cdv, ct, osl, rfl, l, c⟩, k⟩
end
theorem hu_of {A : Around} {k : Nat} (hr : Room k A) : A.units + 1 < cLine := Nat.lt_of_le_of_lt (Nat.add_le_add_left (by decide : 1 ≤ 64) _) hr.units
theorem small1000 {n : Nat} (h : n ≤ 1000) : n < sizeLine := Nat.lt_of_le_of_lt h (by decide)

section
variable {X : Cx}
theorem pv (i : Nat) {x : Str} {pos : Pos} (hN : X.N[i]? = some x := by rfl) (hv : Vis X.env.scope x := by first | exact Or.inl rfl | exact Or.inr (Or.inl rfl) | exact Or.inr (Or.inr rfl)) (hd : (x == ("__debug__" : Str)) = false := by decide)
    (hcd : (x == ("__classdict__" : Str)) = false := by decide) : PE X (.Name x pos) (tVar i) := pe_var hN hv hd hcd
end

theorem iteF {A B : Prop} (h : B) : if false = true then A else B := by
  rw [if_neg Bool.false_ne_true]
  exact h
theorem iteT {A B : Prop} (h : A) : if true = true then A else B := by
  rw [if_pos rfl]
  exact h
theorem ite2 {c A B : Prop} [Decidable c] (h1 : c → A) (h2 : ¬ c → B) : if c then A else B := by
  by_cases h : c
  · rw [if_pos h]
    exact h1 h
  · rw [if_neg h]
    exact h2 h
theorem iteNS {c A B : Prop} [Decidable c] (hc : c) (h : B) : if (!decide c) = true then A else B := by
  rw [decide_eq_true hc]
  exact iteF h

/-- all that was tracked is as it was -/
def Same (H H' : Hp) : Prop := ∀ b o, H b = some o → H' b = some o
theorem Same.refl (H : Hp) : Same H H := fun _ _ h => h
theorem Same.trans {H H1 H2 : Hp} (a : Same H H1) (b : Same H1 H2) : Same H H2 := fun c o h => b c o (a c o h)
theorem Same.free {H H' : Hp} (e : Same H H') {l : Addr} (h : H' l = Option.none) : H l = Option.none := by
  cases q : H l with
  | none => rfl
  | some o =>
    rw [e l o q] at h
    cases h
theorem Same.seq {K : PySem.W.Frag} {H H' : Hp} {a : Addr} {xs : List V} (e : Same H H') (h : SqL K H a xs) : SqL K H' a xs := by
  rcases h with (h | ⟨o, h⟩) | h
  · exact .inl (.inl (e _ _ h))
  · exact .inl (.inr ⟨o, e _ _ h⟩)
  · exact .inr h

end L2

namespace L2
open PySem PySem.Spec PyProof.Rows
section
variable {X : Cx}
/-- len of a dict -/
theorem call_lenD : CallR X (.builtin "len") (fun xs H Q => ∃ a kvs, xs = [V.ref a] ∧ H a = some (.dK kvs) ∧ Q (.int kvs.length) H) := by
  intro pins s σ H xs us Q I r h
  obtain ⟨a, kvs, rfl, ha, q⟩ := h
  obtain ⟨u, rfl, ru⟩ := vals1 r
  cases ru
  exact d_len I (.inl ha) fun t s' I' => ⟨.int kvs.length, H, I', ⟨t, rfl⟩, q⟩
end
section
variable {κ : Type} [DecidableEq κ]
theorem valV_in {kvs : List (κ × V)} {k : κ} {v : V} (h : valV kvs k = some v) : k ∈ kvs.map (·.1) := by
  have q : (kvs.any fun kv => decide (kv.1 = k)) = true := by
    rw [valV_any, h]
    all_goals rfl
  obtain ⟨p, hp, e⟩ := List.any_eq_true.mp q
  exact List.mem_map.mpr ⟨p, hp, of_decide_eq_true e⟩
end
end L2
namespace L2
open PySem PySem.Spec PyProof.Rows

theorem comp_turn {prog : Program} {w : World} {A : Around} {R : Result → Shared → Prop} {s : Shared} {elt target iter : Expr} {scope : Scope} {pos : Pos} {it acc : Value} {env : Env} (I : Nat → Shared → Prop)
    (turn : ∀ n s, I n s → wpAny (model prog w) A (pyNext it) (fun r s₁ => match r with
      | none => R (.ok .next) s₁
      | some v => wpAny (model prog w) A (letOwnedTupleGo target it v) (fun _ s₀ => wpAny (model prog w) A (assign target env v) (fun _ s₂ =>
          wpAny (model prog w) A (eval elt env) (fun x s₄ =>
              wpAny (model prog w) A (call (.builtin "list.append") [acc, x]) (fun _ s₅ => ∃ m, m < n ∧ I m s₅) (notedBy (model prog w) A env fun e s' => R (.error e) s') s₄) (notedBy (model prog w) A env fun e s' => R (.error e) s') s₂)
          (notedBy (model prog w) A env fun e s' => R (.error e) s') s₀) (notedBy (model prog w) A env fun e s' => R (.error e) s') s₁) (notedBy (model prog w) A env fun e s' => R (.error e) s') s)
    (n : Nat) (h : I n s) :
    codeAny (model prog w) A (.compLoop (.ListComp elt [⟨target, iter, [], 0⟩] scope pos) 0 it acc env) R s := by
  refine codeAny_loop rfl I (fun n s hI => ?_) n h
  show wpAny _ A ((compTurn (.ListComp elt [⟨target, iter, [], 0⟩] scope pos) 0 it acc env).onRaise (fun x => do noteFrame x env; theTreesLotGoes x)) _ _ s
  refine wpAny_noted ?_
  rw [compTurn_list]
  refine wpAny_bind (wpAny_standAt (wpAny_bind (wpAny_mono (turn n s hI) (fun r s₁ h₁ => ?_) fun _ _ h' => h')))
  cases r with
  | none => exact wpAny_pure h₁
  | some v =>
    refine wpAny_bind (wpAny_mono h₁ (fun _ s₀ h₀ => ?_) fun _ _ h' => h')
    refine wpAny_bind (wpAny_mono h₀ (fun _ s₂ h₂ => wpAny_bind (wpAny_tests_nil ?_)) fun _ _ h' => h')
    exact wpAny_bind (wpAny_bind (wpAny_mono h₂ (fun x s₄ h₄ => wpAny_bind (wpAny_mono h₄ (fun _ s₅ h₅ => wpAny_pure (wpAny_pure ⟨rfl, h₅⟩)) fun _ _ h' => h')) fun _ _ h' => h'))

theorem closureFor_is {env : Env} : ∀ (names : List (Str × NameKind)) (cs : List (Str × Addr)), (∀ y ∈ names, y.2 = .free → ∃ c, env.cells.lookup y.1 = some c) → (∀ x c, cs.lookup x = some c → env.cells.lookup x = some c) →
    ∃ cl, (forIn names cs (fun (x : Str × NameKind) (r : List (Str × Addr)) => if (x.2 == NameKind.free) = true then do let c ← cellOf env x.1; pure (ForInStep.yield ((x.1, c) :: r)) else pure (ForInStep.yield r)) : Sem (List (Str × Addr))) = pure cl ∧
      (∀ x c, cl.lookup x = some c → env.cells.lookup x = some c) ∧ (∀ x c, cs.lookup x = some c → cl.lookup x = some c) ∧ ∀ y ∈ names, y.2 = .free → ∃ c, cl.lookup y.1 = some c
  | [], cs, _, hcs => ⟨cs, by simp, hcs, fun _ _ h => h, fun y hy => nomatch hy⟩
  | (n, k) :: r, cs, h, hcs => by
    by_cases hk : k = .free
    · subst hk
      obtain ⟨c, hc⟩ := h (n, .free) List.mem_cons_self rfl
      have hcs' : ∀ x d, ((n, c) :: cs).lookup x = some d → env.cells.lookup x = some d := fun x d e => by
        rw [List.lookup_cons] at e
        split at e
        · rename_i q
          have q' : x = n := by simpa using q
          cases e; rw [q']; exact hc
        · exact hcs x d e
      obtain ⟨cl, e, h1, h2, h3⟩ := closureFor_is r ((n, c) :: cs) (fun y hy => h y (List.mem_cons_of_mem _ hy)) hcs'
      refine ⟨cl, ?_, h1, fun x d hd => ?_, fun y hy hy2 => ?_⟩
      · rw [List.forIn_cons]
        simp only [cellOf, hc, beq_self_eq_true, if_true, pure_bind]
        exact e
      · refine h2 x d ?_
        rw [List.lookup_cons]
        split
        · rename_i q
          have q' : x = n := by simpa using q
          have := hcs x d hd
          rw [q', hc] at this
          exact this
        · exact hd
      · rcases List.mem_cons.mp hy with rfl | hy
        · exact ⟨c, h2 n c (by simp [List.lookup_cons])⟩
        · exact h3 y hy hy2
    · obtain ⟨cl, e, h1, h2, h3⟩ := closureFor_is r cs (fun y hy => h y (List.mem_cons_of_mem _ hy)) hcs
      refine ⟨cl, ?_, h1, h2, fun y hy hy2 => ?_⟩
      · have hk' : (k == NameKind.free) = false := by simpa using hk
        rw [List.forIn_cons]
        simp only [hk', Bool.false_eq_true, if_false, pure_bind]
        exact e
      · rcases List.mem_cons.mp hy with rfl | hy
        · exact absurd hy2 hk
        · exact h3 y hy hy2
theorem closureFor_eq (scope : Scope) (env : Env) : closureFor scope env = (forIn scope.names [] (fun (x : Str × NameKind) (r : List (Str × Addr)) => if (x.2 == NameKind.free) = true then do let c ← cellOf env x.1; pure (ForInStep.yield ((x.1, c) :: r)) else pure (ForInStep.yield r)) : Sem (List (Str × Addr))) := by
  unfold closureFor
  simp
theorem lookup_relabel_free {env : Env} (hk : env.scope.kind = .function) : ∀ {names : List (Str × NameKind)} {x : Str}, names.lookup x = some .free → env.kindOf x = some .cell →
    (names.map fun (n, k) => if (k == NameKind.free && env.scope.kind == .function && env.kindOf n == some .cell) then (n, NameKind.cell) else (n, k)).lookup x = some .cell
  | [], _, h, _ => by simp at h
  | (n, k) :: r, x, h, hc => by
    have ih := @lookup_relabel_free env hk r x
    show List.lookup x ((if (k == NameKind.free && env.scope.kind == .function && env.kindOf n == some .cell) = true then (n, NameKind.cell) else (n, k)) :: _) = _
    cases hx : x == n with
    | true =>
      simp only [List.lookup_cons, hx] at h
      cases h
      have e : x = n := by simpa using hx
      subst e
      simp [List.lookup_cons, hk, hc]
    | false =>
      simp only [List.lookup_cons, hx] at h
      by_cases hc' : (k == NameKind.free && env.scope.kind == .function && env.kindOf n == some .cell) = true
      · rw [if_pos hc']; simp only [List.lookup_cons, hx]; exact ih h hc
      · rw [if_neg hc']; simp only [List.lookup_cons, hx]; exact ih h hc
/-- a name that is a cell or free in the block was free -/
theorem relabel_was {env : Env} : ∀ {names : List (Str × NameKind)} {x : Str}, (∀ y ∈ names, y.2 ≠ .cell) →
    ((names.map fun (n, k) => if (k == NameKind.free && env.scope.kind == .function && env.kindOf n == some .cell) then (n, NameKind.cell) else (n, k)).lookup x = some .cell ∨
     (names.map fun (n, k) => if (k == NameKind.free && env.scope.kind == .function && env.kindOf n == some .cell) then (n, NameKind.cell) else (n, k)).lookup x = some .free) → (x, NameKind.free) ∈ names
  | [], _, _, h => by simp at h
  | (n, k) :: r, x, hn, h => by
    have ih := @relabel_was env r x fun y hy => hn y (List.mem_cons_of_mem _ hy)
    have hk : k ≠ .cell := hn (n, k) List.mem_cons_self
    cases hx : x == n with
    | true =>
      have e : x = n := by simpa using hx
      subst e
      by_cases hf : k = .free
      · subst hf; exact List.mem_cons_self
      · have hf' : ¬ (k == NameKind.free && env.scope.kind == .function && env.kindOf x == some .cell) = true := by simp [hf]
        simp only [List.map_cons, if_neg hf', List.lookup_cons, beq_self_eq_true] at h
        rcases h with h | h
        · exact absurd (Option.some.inj h) hk
        · exact absurd (Option.some.inj h) hf
    | false =>
      refine List.mem_cons_of_mem _ (ih ?_)
      by_cases hc' : (k == NameKind.free && env.scope.kind == .function && env.kindOf n == some .cell) = true
      · simpa only [List.map_cons, if_pos hc', List.lookup_cons, hx] using h
      · simpa only [List.map_cons, if_neg hc', List.lookup_cons, hx] using h

def blk (X : Cx) (sc : Scope) (cl : List (Str × Addr)) (C : Addr) (N' : List Str) (s₂ : Shared) (H₁ : Hp) (fp : List Addr) (pins : List (Addr × Obj)) : Cx where
  prog := X.prog
  w := X.w
  K := X.K
  mg := X.mg
  base := X.base
  A := X.A
  N := N'
  s₀ := s₂
  H₀ := H₁
  env := compEnvC sc cl C X.env
  outer := X.stack
  stack := X.stack
  ex := fp
  fn := fun _ => false
  calm := X.calm
  pn := X.pn ++ pins
  xe := fun _ _ => False

/-- N, names: the slots and names around; N': the block's slots, k of its own, then those at pull of N (caught) -/
structure BScope (N : List Str) (names : List (Str × NameKind)) (N' : List Str) (k : Nat) (pull : List Nat) (sc : Scope) : Prop where
  kind : sc.kind = .function
  nocell : ∀ y ∈ sc.names, y.2 ≠ .cell
  loc : ∀ y ∈ sc.names, y.2 = .local → sc.names.lookup y.1 = some .local
  len : N'.length = k + pull.length
  cap : ∀ i ∈ List.range pull.length, N'[k + i]? = N[pull.getD i 0]? ∧ ∀ x ∈ (N'[k + i]?).toList, sc.names.lookup x = some .free
  fre : ∀ y ∈ sc.names, y.2 = .free → names.lookup y.1 = some .cell

def bst (k : Nat) (pull : List Nat) (σ : St) : St := List.replicate k none ++ pull.map fun j => σ.getD j none

theorem HOk.but {P : Program} {w : World} {H : Hp} {h h' : Heap} {C : Addr} (x : HOk P w H h) (hn : H C = none) (k : ∀ b o, b ≠ C → h.get? b = some o → h'.get? b = some o) : HOk P w H h' := fun b u e => by
  have nit : ∀ b u, H b = some u → b ≠ C := fun b u e z => by rw [z, hn] at e; cases e
  refine (x b u e).stay (fun c v hc q => k c v ?_ q) (fun _ q => q) fun _ _ q => q
  rcases hc with z | z
  · rw [z]; exact nit b u e
  · exact nit c _ z

def tComp (wi : TI) (k : Nat) (pull : List Nat) (g : TG) (te : TE) : TE := fun σ H Q => wi σ H fun J H1 => ∀ d, H1 d = none →
  ∃ W : Nat → Nat → St → Hp → Prop, (∃ m, W 0 m (bst k pull σ) (upd H1 d (.lst []))) ∧ ∀ i m σ' H', W i m σ' H' →
    (J.stop i H' ∧ Q (.ref d) H') ∨
    (J.go i H' ∧ ∀ x H2, J.yld i H' x H2 → g x σ' H2 fun σ3 H3 => te σ3 H3 fun y H4 => ∃ xs, H4 d = some (.lst xs) ∧ xs.length < sizeLine ∧ ∃ m', m' < m ∧ W (i + 1) m' σ3 (upd H4 d (.lst (xs ++ [y]))))

section
variable {X : Cx} {elt tg iter : Expr} {sc : Scope} {pos : Pos} {wi : TI} {g : TG} {te : TE} {N : List Str} {names : List (Str × NameKind)} {N' : List Str} {k : Nat} {pull : List Nat}

theorem blk_start {pins : List (Addr × Obj)} {σ : St} {H1 : Hp} {s2 : Shared} {fp : List Addr} {cl : List (Str × Addr)} {h₁ : Heap} {tk : Nat} (B : BScope N names N' k pull sc) (hN : X.N = N) (hnm : X.env.scope.names = names)
    (I2 : Inv X pins σ H1 s2) (f2 : ∀ b ∈ fp, FpOk X pins H1 b) (ho : ∀ b ∈ fp, ∃ o, s2.heap.get? b = some o)
    (c1 : ∀ x c, cl.lookup x = some c → X.env.cells.lookup x = some c) (c3 : ∀ y ∈ sc.names, y.2 = .free → ∃ c, cl.lookup y.1 = some c)
    (hns : h₁.Ns (s2.heap.objs.size + 1) (fun x => ([] : List (Str × Value)).reverse.lookup x))
    (hk : ∀ b o, s2.heap.get? b = some o → h₁.get? b = some o) (hd : h₁.get? s2.heap.objs.size = some { cls := .type "list", data := .seq ([] : List Value).toArray }) :
    Inv (blk X sc cl (s2.heap.objs.size + 1) N' s2 H1 fp pins) [] (bst k pull σ) (upd H1 s2.heap.objs.size (.lst [])) { s2 with heap := h₁, toks := tk } := by
  have hfd : H1 s2.heap.objs.size = none := I2.hok.fresh (Nat.le_refl _)
  have hfC : (upd H1 s2.heap.objs.size (.lst [])) (s2.heap.objs.size + 1) = none := by
    rw [upd_ne (Nat.succ_ne_self _)]; exact I2.hok.fresh (Nat.le_succ _)
  have hlook : ∀ x, (compEnvC sc cl (s2.heap.objs.size + 1) X.env).kindOf x = some .cell ∨ (compEnvC sc cl (s2.heap.objs.size + 1) X.env).kindOf x = some .free → (x, NameKind.free) ∈ sc.names := fun x hx =>
    relabel_was (env := X.env) B.nocell hx
  have cellKind : ∀ y ∈ sc.names, y.2 = .free → X.env.kindOf y.1 = some .cell := fun y hy hf => by
    show X.env.scope.names.lookup y.1 = _
    rw [hnm]; exact B.fre y hy hf
  refine ⟨⟨I2.ok.mod, B.kind, I2.ok.glob, I2.ok.blt, Nat.le_succ _, fun x y c e1 e2 => I2.ok.inj x y c (c1 x c e1) (c1 y c e2), fun x hx => c3 _ (hlook x hx) rfl, (fun x c h _ => nomatch h), I2.ok.hd, I2.ok.frames, .inl rfl, fun b hb => ⟨?_, fun x c e => ?_⟩, I2.bs, Nat.le_trans I2.ok.bsz I2.sz, fun b o e hb => ?_, fun b hb hs => ?_, I2.stack, I2.stkFree⟩,
    rfl, I2.bare, Un.laid hk (Nat.le_refl _) hfd, ⟨_, hns, fun i x v e1 e2 e3 => ?_⟩, fun x c e => ?_, hfC, fun x c e => ?_, fun p hp => ?_, I2.hok.laid hk (Nat.le_refl _) ⟨Nat.zero_le _, [], 0, .nil, hd⟩, ?_⟩
  · obtain ⟨o, e⟩ := ho b hb
    exact Nat.ne_of_lt (Nat.lt_succ_of_lt (Heap.lt_size e))
  · exact (f2 b hb).2.2.2.2.1 x c (c1 x c e)
  · rcases (f2 b hb).2.2.2.1 with z | z
    · exact I2.ok.noex b o e z
    · exact absurd (Nat.lt_of_lt_of_le (Heap.lt_size e) (Nat.le_trans I2.ok.bsz z)) (Nat.lt_irrefl _)
  · rcases List.mem_cons.mp (I2.stkSub b hs) with z | z
    · exact (f2 b hb).2.1 z
    · exact (f2 b hb).2.2.1 z
  · -- a slot that is set is a caught name
    have e2 : (bst k pull σ)[i]? = some (some v) := e2
    unfold bst at e2
    by_cases hi : i < k
    · rw [List.getElem?_append_left (by simpa using hi), List.getElem?_replicate, if_pos hi] at e2
      cases e2
    · rw [List.getElem?_append_right (by simpa using hi), List.length_replicate, List.getElem?_map] at e2
      cases ej : pull[i - k]? with
      | none => rw [ej] at e2; cases e2
      | some j =>
        rw [ej] at e2
        have e2 : σ.getD j none = some v := Option.some.inj e2
        have hj : σ[j]? = some (some v) := by
          rw [List.getD_eq_getElem?_getD] at e2
          cases q : σ[j]? with
          | none => rw [q] at e2; cases e2
          | some z => rw [q] at e2; simpa using e2
        have hil : i - k < pull.length := (List.getElem?_eq_some_iff.mp ej).1
        obtain ⟨q1, q2⟩ := B.cap (i - k) (List.mem_range.mpr hil)
        have ei : k + (i - k) = i := by omega
        have ep : pull.getD (i - k) 0 = j := by rw [List.getD_eq_getElem?_getD, ej]; rfl
        have e1 : N'[i]? = some x := e1
        rw [ei, ep, e1] at q1
        rw [ei, e1] at q2
        have hf := q2 x (by simp)
        have hmem := PySem.mem_of_lookup hf
        have hc := cellKind (x, .free) hmem rfl
        obtain ⟨m, hn, hl⟩ := I2.loc
        obtain ⟨u, r, l⟩ := hl j x v (by rw [hN]; exact q1.symm) hj (.inr (.inl hc))
        refine ⟨u, r, .inr ⟨.inl (lookup_relabel_free I2.ok.kind hf hc), ?_⟩⟩
        rcases l with ⟨hloc, _⟩ | ⟨_, c, ec, hcell⟩
        · rw [hc] at hloc; cases hloc
        · obtain ⟨c', ec'⟩ := c3 (x, .free) hmem rfl
          have := c1 x c' ec'
          rw [ec] at this
          cases this
          obtain ⟨o, h1, h2⟩ := hcell
          exact ⟨c, ec', o, hk c o h1, h2⟩
  · obtain ⟨v, o, h1, h2⟩ := I2.cell x c (c1 x c e)
    exact ⟨v, o, hk c o h1, h2⟩
  · obtain ⟨v, o, h1, h2⟩ := I2.cell x c (c1 x c e)
    rw [upd_ne (Nat.ne_of_lt (Heap.lt_size h1))]
    exact I2.freeC x c (c1 x c e)
  · have hp : p ∈ X.pn ++ pins := by simpa [blk] using hp
    obtain ⟨a1, a2, a3, a4, a5⟩ := I2.pin p hp
    have hlt := Heap.lt_size a1
    refine ⟨hk _ _ a1, by rw [upd_ne (Nat.ne_of_lt hlt)]; exact a2, ?_, fun hs => ?_, a5⟩
    · exact Nat.ne_of_lt (Nat.lt_succ_of_lt hlt)
    · rcases List.mem_cons.mp (I2.stkSub p.1 hs) with z | z
      · exact a3 z
      · exact a4 z
  · show (bst k pull σ).length = N'.length
    unfold bst
    rw [List.length_append, List.length_replicate, List.length_map, B.len]

theorem pe_comp (hc : X.calm = true) (B : BScope N names N' k pull sc) (hN : X.N = N) (hnm : X.env.scope.names = names) (hi : PI X tg iter wi)
    (hg : ∀ cl C s₂ H₁ fp pins, PG (blk X sc cl C N' s₂ H₁ fp pins) tg g) (he : ∀ cl C s₂ H₁ fp pins, PE (blk X sc cl C N' s₂ H₁ fp pins) elt te)
    (hs : ∀ x, foldedSetIterable iter X.env x = pure x := by intro _; rfl) : PE X (.ListComp elt [⟨tg, iter, [], 0⟩] sc pos) (tComp wi k pull g te) := by
  intro pins s σ H Q I h
  rw [eval_ListComp]
  have hcells : ∀ y ∈ sc.names, y.2 = .free → ∃ c, X.env.cells.lookup y.1 = some c := fun y hy hf => I.ok.has y.1 (.inl (by
    show X.env.scope.names.lookup y.1 = _
    rw [hnm]; exact B.fre y hy hf))
  obtain ⟨cl, ecl, c1, _, c3⟩ := closureFor_is (env := X.env) sc.names [] hcells (fun x c e => nomatch e)
  rw [← closureFor_eq] at ecl
  refine wpAny_comprehension_free (use := none) rfl hs ecl B.kind B.loc (thn (hi pins s σ H _ I h) fun xv s1 h1 => thn h1 fun itv s2 h2 => ?_)
  obtain ⟨it, fp, tn, J, H1, e, I2, T, st2, f2, hW⟩ := h2
  subst e
  have ho : ∀ b ∈ fp, ∃ o, s2.heap.get? b = some o := fun b hb => let ⟨o, e, _⟩ := T.obj _ _ st2 b hb; ⟨o, e⟩
  refine wpAny_newObj_type (wpAny_newFunctionEnv B.nocell (by intro y hy; simp at hy) (fun h₁ hns₁ hsb₁ => ?_) B.kind)
  dsimp only at hns₁ hsb₁ ⊢
  rw [Heap.size_push] at hns₁ hsb₁ ⊢
  have old : ∀ b o, s2.heap.get? b = some o → h₁.get? b = some o := fun b o e => by
    have hlt := Heap.lt_size e
    exact (hsb₁.2 b (Nat.ne_of_lt (Nat.lt_succ_of_lt hlt))).trans (Heap.get?_push_of_some _ (Heap.get?_push_of_some _ e))
  have hd : h₁.get? s2.heap.objs.size = some { cls := .type "list", data := .seq ([] : List Value).toArray } :=
    (hsb₁.2 _ (Nat.ne_of_lt (Nat.lt_succ_self _))).trans (Heap.get?_push_of_some _ (Heap.get?_push_size _ rfl))
  have I4 := blk_start (tk := s2.toks + ([] : List (Str × Value)).length) B hN hnm I2 f2 ho c1 c3 hns₁ old hd
  have st4 : tn 0 h₁ := T.keep _ _ _ st2 fun b _ o e => old b o e
  obtain ⟨W, ⟨m0, w0⟩, turn⟩ := hW s2.heap.objs.size (I2.hok.fresh (Nat.le_refl _))
  have fr4 : ∀ b ∈ fp, (upd H1 s2.heap.objs.size (.lst [])) b = none := fun b hb => by
    obtain ⟨o, e⟩ := ho b hb
    rw [upd_ne (Nat.ne_of_lt (Heap.lt_size e))]
    exact (f2 b hb).1
  -- what stays true of the iterator's objects
  have stat : ∀ {H' : Hp}, (∀ b ∈ fp, H' b = none) → ∀ b ∈ fp, FpOk (blk X sc cl (s2.heap.objs.size + 1) N' s2 H1 fp pins) [] H' b := fun hn b hb => by
    refine ⟨hn b hb, (I4.ok.exf b hb).1, I4.ok.exfs b hb, .inl hb, (I4.ok.exf b hb).2, fun p hp => ?_⟩
    have hp : p ∈ X.pn ++ pins := by simpa [blk] using hp
    exact (f2 b hb).2.2.2.2.2 p hp
  have loop : ∀ s₃ : Shared, s₃ = { s2 with heap := h₁, toks := s2.toks + ([] : List (Str × Value)).length } →
      codeAny (model X.prog X.w) X.A (.compLoop (.ListComp elt [⟨tg, iter, [], 0⟩] sc pos) 0 (.ref it) (.ref s2.heap.objs.size) (compEnvC sc cl (s2.heap.objs.size + 1) X.env))
        (compPost (model X.prog X.w) X.A X.xe none (EP X pins σ Q) (.ref s2.heap.objs.size) (s2.heap.objs.size + 1)) s₃ := by
    rintro s₃ rfl
    refine comp_turn (fun n s' => ∃ i σ' H', Inv (blk X sc cl (s2.heap.objs.size + 1) N' s2 H1 fp pins) [] σ' H' s' ∧ tn i s'.heap ∧ (∀ b ∈ fp, H' b = none) ∧ W i n σ' H') ?_ m0 ⟨0, _, _, I4, st4, fr4, w0⟩
    rintro n s3 ⟨i, σ3, H3, I3, st3, fr3, w3⟩
    rcases turn i n σ3 H3 w3 with ⟨stop, q⟩ | ⟨go, step⟩
    · refine thn (T.done (blk X sc cl (s2.heap.objs.size + 1) N' s2 H1 fp pins) rfl rfl rfl hc i [] s3 σ3 H3 _ I3 (stat fr3) st3 stop) fun r s4 ⟨hr, I5⟩ => ?_
      subst hr
      obtain ⟨m, hn, _⟩ := id I5.loc
      refine ⟨m, hn, fun h' hs' => ?_⟩
      have ne : ∀ b o, s2.heap.get? b = some o → b ≠ s2.heap.objs.size + 1 := fun b o e => Nat.ne_of_lt (Nat.lt_succ_of_lt (Heap.lt_size e))
      have U : Un (frs X.stack) fp H1 H3 s2.heap s4.heap := I5.base
      have U' : Un (frs X.stack) fp H1 H3 s2.heap h' := ⟨fun b o e n hb hx => (hs'.2 b (ne b o e)).trans (U.keep b o e n hb hx), fun b o e n hb hx => by
          obtain ⟨sl, z⟩ := U.slot b o e n hb hx
          exact ⟨sl, (hs'.2 b (ne b o e)).trans z⟩, U.free, fun b o e hx => by
          obtain ⟨o', z⟩ := U.there b o e hx
          exact ⟨o', (hs'.2 b (ne b o e)).trans z⟩, U.tups, U.frzs, U.tbls⟩
      have hok : HOk X.prog X.w H3 h' := HOk.but (C := s2.heap.objs.size + 1) I5.hok I5.free fun b o hb e => (hs'.2 b hb).trans e
      refine ⟨.ref s2.heap.objs.size, H3, I2.call' (s' := { s4 with heap := h' }) I5.os U' hok I5.bare fun b hb => ?_, rfl, q⟩
      exact ⟨(f2 b hb).2.2.2.1, (f2 b hb).2.1, (f2 b hb).2.2.2.2.1, (f2 b hb).2.2.2.2.2⟩
    · refine thn (T.item (blk X sc cl (s2.heap.objs.size + 1) N' s2 H1 fp pins) rfl rfl rfl hc i [] s3 σ3 H3 _ I3 (stat fr3) st3 go) fun r s4 ⟨u, hr, h4⟩ => ?_
      subst hr
      refine thn h4 fun _ s5 ⟨x, H5, I5, r5, y5, st5, fr5⟩ => ?_
      have I5' := I5.pinned (stat fr5) (T.obj _ _ st5)
      refine wpAny_mono (hg _ _ _ _ _ _ _ s5 σ3 H5 x u _ I5' r5 (step x H5 y5)) (fun _ s6 ⟨σ6, H6, I6, q6⟩ => ?_) fun _ _ z => z.elim
      refine wpAny_mono (he _ _ _ _ _ _ _ s6 σ6 H6 _ I6 q6) (fun y s7 ⟨z, H7, I7, r7, xs, hx7, hz7, m', hm, w7⟩ => ?_) fun _ _ z => z.elim
      refine wpAny_mono (mt_append (X := blk X sc cl (s2.heap.objs.size + 1) N' s2 H1 fp pins) _ s7 σ6 H7 (.ref s2.heap.objs.size) [z] (.ref s2.heap.objs.size) [y] (fun _ H8 => H8 = upd H7 s2.heap.objs.size (.lst (xs ++ [z]))) I7 rfl (.cons r7 .nil) ⟨_, xs, z, rfl, rfl, hx7, hz7, rfl⟩) (fun _ s8 ⟨_, H8, I8, _, e8⟩ => ?_) fun _ _ z => z.elim
      subst e8
      refine ⟨m', hm, i + 1, σ6, _, I8.unpinned, T.keep _ _ _ st5 fun b hb o e => (I8.pin (b, o) (List.mem_append_right _ (List.mem_append_right _ (mem_pinsAt hb e)))).1, fun b hb => ?_, w7⟩
      obtain ⟨o, e, _⟩ := T.obj _ _ st5 b hb
      exact (I8.pin (b, o) (List.mem_append_right _ (List.mem_append_right _ (mem_pinsAt hb e)))).2.1
  exact codeAny_compStart_list (loop _ rfl) (T.self _ 0 _ _ _ st4 (loop _ rfl))
end
end L2
namespace L2
open PySem
open AutoSeq1 (wpAny_loadPart')
section
variable {prog : Program} {w : World} {A : Around} {E : Value → Shared → Prop} {s : Shared}
theorem nextOf_tuple_item {it l : Addr} {i : Nat} {items} {x : Value} {Q : Value → Shared → Prop} (hit : s.heap.IsTupleIter it l i)
    (hl : s.heap.IsTuple l items) (hx : items[i]? = some x)
    (hQ : ∀ h', h'.IsTupleIter it l (i + 1) → Heap.SameBut it s.heap h' → Q x { s with heap := h' }) :
    wpAny (model prog w) A (Builtin.SmallTypes.nextOf (.ref it)) Q E s := by
  obtain ⟨o, ho, hc, hd⟩ := id hit
  obtain ⟨ol, hol, _, nl, hdl⟩ := hl
  unfold Builtin.SmallTypes.nextOf
  refine wpAny_bind (wpAny_callSpecial?_slot (name := Str.ofString "__next__") hit.typeIs F.slot_tuple_iterator_next
    (wpAny_call_entry F.slot_tuple_iterator_next hit.typeIs F.entry_tuple_iterator_next ?_ (F.args_tuple_iterator_next_1 _)))
  show wpAny _ _ (field (.ref it) 0 >>= _) _ _ s
  refine wpAny_bind (wpAny_field ho hd (x := .ref l) rfl ?_)
  show wpAny _ _ (if (Value.ref l == Value.none) = true then _ else _) _ _ s
  rw [if_neg (show ¬ ((Value.ref l == Value.none) = true) from Bool.false_ne_true)]
  show wpAny _ _ (field (.ref it) 1 >>= _) _ _ s
  refine wpAny_bind (wpAny_field ho hd (x := .int i 0) rfl ?_)
  show wpAny _ _ (seqItems? (.ref l) >>= _) _ _ s
  refine wpAny_bind (wpAny_seqItems hol hdl ?_)
  simp only [Int.toNat_natCast, hx]
  refine wpAny_bind (wpAny_setField ho hd (by simp) (wpAny_pure ⟨x, rfl, wpAny_pure (hQ _ ?_ (Heap.SameBut.update ..))⟩))
  exact ⟨_, Heap.get?_update_self _ ho (Obj.isFreed_of_fields (Obj.data_mapFields hd _)), (Obj.cls_mapFields ..).trans hc, by
    rw [Obj.data_mapFields hd]; simp [rawInt]⟩
theorem nextOf_tuple_end {it l : Addr} {i : Nat} {items} {Q : Value → Shared → Prop} (hh : A.handled = none)
    (hit : s.heap.IsTupleIter it l i) (hl : s.heap.IsTuple l items) (hx : items[i]? = none)
    (hE : ∀ h' e, Heap.ExtBut it s.heap h' → (∃ o, h'.get? e = some o ∧ o.cls = .type "StopIteration") → E (.ref e) { s with heap := h' }) :
    wpAny (model prog w) A (Builtin.SmallTypes.nextOf (.ref it)) Q E s := by
  obtain ⟨o, ho, hc, hd⟩ := id hit
  obtain ⟨ol, hol, _, nl, hdl⟩ := hl
  unfold Builtin.SmallTypes.nextOf
  refine wpAny_bind (wpAny_callSpecial?_slot (name := Str.ofString "__next__") hit.typeIs F.slot_tuple_iterator_next
    (wpAny_call_entry F.slot_tuple_iterator_next hit.typeIs F.entry_tuple_iterator_next ?_ (F.args_tuple_iterator_next_1 _)))
  show wpAny _ _ (field (.ref it) 0 >>= _) _ _ s
  refine wpAny_bind (wpAny_field ho hd (x := .ref l) rfl ?_)
  show wpAny _ _ (if (Value.ref l == Value.none) = true then _ else _) _ _ s
  rw [if_neg (show ¬ ((Value.ref l == Value.none) = true) from Bool.false_ne_true)]
  show wpAny _ _ (field (.ref it) 1 >>= _) _ _ s
  refine wpAny_bind (wpAny_field ho hd (x := .int i 0) rfl ?_)
  show wpAny _ _ (seqItems? (.ref l) >>= _) _ _ s
  refine wpAny_bind (wpAny_seqItems hol hdl ?_)
  simp only [Int.toNat_natCast, hx]
  refine wpAny_bind (wpAny_rule (wpAny_bind (wpAny_setField ho hd (by simp) ?_)))
  show wpAny _ _ (newExc (.type "StopIteration") [] >>= _) _ _ _
  refine wpAny_bind ?_
  simp only [newExc, newTuple]
  refine wpAny_bind (wpAny_newObj_type ?_ (by size_fits))
  refine wpAny_bind (m := firstArgMember _ _) (wpAny_of_eq (a := Value.none) (by first | rfl | (simp only [firstArgMember]; rfl)) ?_)
  refine wpAny_newObj_type ?_ (by size_fits)
  simp only [raiseNew]
  refine wpAny_bind (wpAny_handled ?_)
  first | rw [show A.in1.handled = none from hh] | rw [hh]
  refine wpAny_bind (wpAny_pure (wpAny_throw ?_))
  exact hE _ _ (((Heap.SameBut.update ..).extBut.push _).push _) ⟨_, Heap.get?_push_size _ rfl, rfl⟩
end
theorem Draws_tuple {prog : Program} {w : World} {A : Around} (hh : A.handled = none) (it l : Addr) (hne : l ≠ it) (items : Array Value) :
    Draws prog w A it [it, l] items.size (fun i v => items[i]? = some v) (fun i h => h.IsTupleIter it l i ∧ h.IsTuple l items) where
  live := fun _ _ st => let ⟨⟨o, ho, _⟩, _⟩ := st; ⟨o, ho⟩
  frame := fun _ _ _ st hk => ⟨let ⟨o, ho, r⟩ := st.1; ⟨o, hk it (by simp) o ho, r⟩, let ⟨o, ho, r⟩ := st.2; ⟨o, hk l (by simp) o ho, r⟩⟩
  item := fun i s Q E hi st hQ => by
    refine nextOf_tuple_item st.1 st.2 (x := items[i]) (by simp [hi]) fun h' hit' hs' => ?_
    exact hQ _ h' s.toks (by simp [hi]) ⟨hit', let ⟨o, ho, r⟩ := st.2; ⟨o, (hs'.2 l hne).trans ho, r⟩⟩ hs'
  done := fun s Q E st hE => nextOf_tuple_end hh st.1 st.2 (by simp) hE

theorem meets_enumerate_newT (l : Addr) (items : Array Value) (o : Obj) (hc : o.cls = .type "tuple") (n : Nat) (hd : o.data = .seq items n) :
    Meets (Builtin.«enumerate.__new__» ⟨[.type "enumerate", .ref l], []⟩) (fun _ R s => s.heap.get? l = some o ∧
      R (.ok (.ret (.ref (s.heap.push { cls := .type "tuple_iterator", data := .fields #[.ref l, .int 0 0] }).objs.size)))
        { s with heap := (s.heap.push { cls := .type "tuple_iterator", data := .fields #[.ref l, .int 0 0] }).push { cls := .type "enumerate", data := .fields #[.none, .bool false, .ref s.heap.objs.size, rawInt 0, .none, .none] } }) :=
  .of_wp fun prog w A R s h => by
    obtain ⟨hp, g, d, tk, os⟩ := s; obtain ⟨hl, h⟩ := h
    have hsub := sub_enumerate
    have hL : Heap.IsTuple (Shared.heap ⟨hp, g, d, tk, os⟩) l items := ⟨_, hl, hc, n, hd⟩
    wp_walk using wpAny_loadPart' hl
    refine wpAny_stack_any fun st => wpAny_pure ?_
    split
    · rename_i c _ _ _ _ _
      cases (c == Value.type "enumerate")
      · wp_walk using wpAny_loadPart' hl, wpAny_pyIter_tuple hL
        exact ⟨_, rfl, h⟩
      · wp_walk using wpAny_loadPart' hl, wpAny_pyIter_tuple hL
        exact ⟨_, rfl, h⟩
    · wp_walk using wpAny_loadPart' hl, wpAny_pyIter_tuple hL
      exact ⟨_, rfl, h⟩
theorem call_enumerate_tuple {prog : Program} {w : World} {A : Around} {E : Value → Shared → Prop} {s : Shared} {l : Addr} {items : Array Value} {Q : Value → Shared → Prop} (hL : s.heap.IsTuple l items)
    (h : ∀ h', IsEnum h' (s.heap.objs.size + 1) s.heap.objs.size 0 .none → h'.IsTupleIter s.heap.objs.size l 0 → h'.objs.size = s.heap.objs.size + 2 →
      (∀ b o, s.heap.get? b = some o → h'.get? b = some o) → Q (.ref (s.heap.objs.size + 1)) { s with heap := h' }) :
    wpAny (model prog w) A (call (.type "enumerate") [.ref l]) Q E s := by
  obtain ⟨o, hl, hc, n, hd⟩ := hL
  refine callType_new F.called_enumerate (by decide) (F.typeCall_enumerate_1 _) (F.newCall_enumerate_1 _) (fun obj => F.args_object_init_2 obj _) F.entry_enumerate_new
    (meets_enumerate_newT l items o hc n hd) ⟨hl, ?_⟩
  have hz : (s.heap.push { cls := .type "tuple_iterator", data := .fields #[.ref l, .int 0 0] }).objs.size = s.heap.objs.size + 1 := Heap.size_push ..
  show _ ∧ _
  rw [hz]
  have he : IsEnum ((s.heap.push { cls := .type "tuple_iterator", data := .fields #[.ref l, .int 0 0] }).push
      { cls := .type "enumerate", data := .fields #[.none, .bool false, .ref s.heap.objs.size, rawInt 0, .none, .none] }) (s.heap.objs.size + 1) s.heap.objs.size 0 .none := by
    have := Heap.get?_push_size (s.heap.push { cls := .type "tuple_iterator", data := .fields #[.ref l, .int 0 0] })
      (o := { cls := .type "enumerate", data := .fields #[.none, .bool false, .ref s.heap.objs.size, rawInt 0, .none, .none] }) rfl
    rw [hz] at this; exact this
  refine ⟨⟨_, he, rfl⟩, h _ he ⟨_, Heap.get?_push_of_some _ (Heap.get?_push_size _ rfl), rfl, rfl⟩ (by rw [Heap.size_push, hz]) fun b o x => Heap.get?_push_of_some _ (Heap.get?_push_of_some _ x)⟩
end L2
namespace L2
open PySem PySem.Spec PyProof.Rows

section
variable {X : Cx}
theorem call_isinst : CallR X (.builtin "isinstance") (fun xs H Q => ∃ x c t b, xs = [x, .ty c] ∧ TyOf X.K H x t ∧ PySem.W.kitOne X.K t (.type c) = some b ∧ Q (.bl b) H) := by
  intro pins s σ H xs us Q I r h
  obtain ⟨x, c, t, b, rfl, ty, e, q⟩ := h
  obtain ⟨u, w', rfl, ru, rc⟩ := vals2 r
  obtain rfl : w' = Value.type c := rc
  exact isinst_ok I ru ty e fun tk => ⟨.bl b, H, I.tok _, rfl, q⟩
end
theorem kit_int_int (K : PySem.W.Frag) : PySem.W.kitOne K (.type "int") (.type "int") = some true := by kernel_rfl
theorem kit_int_bool (K : PySem.W.Frag) : PySem.W.kitOne K (.type "int") (.type "bool") = some false := by kernel_rfl
theorem kit_tup_tup (K : PySem.W.Frag) : PySem.W.kitOne K (.type "tuple") (.type "tuple") = some true := by kernel_rfl
theorem kit_list_list (K : PySem.W.Frag) : PySem.W.kitOne K (.type "list") (.type "list") = some true := by kernel_rfl

mutual
inductive Dt (K : PySem.W.Frag) (H : Hp) : V → PyData → Prop
  | non : Dt K H .non .none
  | bl (b : Bool) : Dt K H (.bl b) (.bool b)
  | int (i : Int) : Dt K H (.int i) (.int i)
  | str (x : Str) : Dt K H (.str x) (.str x)
  | lst {a : Addr} {xs : List V} {ds : List PyData} : SqL K H a xs → DtAll K H xs ds → Dt K H (.ref a) (.list ds)
  | tup {a : Addr} {xs : List V} {ds : List PyData} : SqT K H a xs → DtAll K H xs ds → Dt K H (.ref a) (.tuple ds)
inductive DtAll (K : PySem.W.Frag) (H : Hp) : List V → List PyData → Prop
  | nil : DtAll K H [] []
  | cons {x : V} {d : PyData} {xs : List V} {ds : List PyData} : Dt K H x d → DtAll K H xs ds → DtAll K H (x :: xs) (d :: ds)
end
section
variable {X : Cx} {pins : List (Addr × Obj)} {σ : St} {H : Hp} {s : Shared}
mutual
theorem Dt.reads (I : Inv X pins σ H s) : ∀ {x : V} {d : PyData} {u : Value}, Dt X.K H x d → RelV x u → ∃ as, Reads s.heap u d as
  | _, _, _, .non, r => by obtain rfl := (show _ = Value.none from r); exact ⟨_, .none⟩
  | _, _, _, .bl b, r => by obtain rfl := (show _ = Value.bool b from r); exact ⟨_, .bool b⟩
  | _, _, _, .int i, r => by obtain ⟨t, rfl⟩ := r; exact ⟨_, .int i t⟩
  | _, _, _, .str x, r => by obtain ⟨t, rfl⟩ := r; exact ⟨_, .str x t⟩
  | _, _, _, @Dt.lst _ _ a xs ds hq ha, r => by
    obtain rfl := (show _ = Value.ref a from r)
    obtain ⟨its, rv, ⟨o, n, h1, h2, h3, h4⟩, hz⟩ := I.list hq
    obtain ⟨as, ra⟩ := DtAll.reads I ha rv
    exact ⟨_, .list h1 h2 h4 (by simpa using ra)⟩
  | _, _, _, @Dt.tup _ _ a xs ds hq ha, r => by
    obtain rfl := (show _ = Value.ref a from r)
    obtain ⟨its, rv, ⟨o, h1, h2, n, h3⟩, hz⟩ := I.tuple hq
    obtain ⟨as, ra⟩ := DtAll.reads I ha rv
    exact ⟨_, .tuple h1 h2 h3 (by simpa using ra)⟩
theorem DtAll.reads (I : Inv X pins σ H s) : ∀ {xs : List V} {ds : List PyData} {us : List Value}, DtAll X.K H xs ds → Vals xs us → ∃ as, ReadsAll s.heap us ds as
  | _, _, _, .nil, r => by cases r; exact ⟨_, .nil⟩
  | _, _, _, .cons h t, r => by
    cases r with
    | cons r rr =>
      obtain ⟨a1, h1⟩ := Dt.reads I h r
      obtain ⟨a2, h2⟩ := DtAll.reads I t rr
      exact ⟨_, .cons h1 h2⟩
end
def rEqD (K : PySem.W.Frag) (A : Around) (neg : Bool) : R2 := fun x y H Q => ∃ d e, Dt K H x d ∧ Dt K H y e ∧ d.canLay0 = true ∧ e.canLay0 = true ∧ A.units + min d.depth e.depth < cLine ∧ Q (.bl (if neg then !PyData.eqv d e else PyData.eqv d e)) H
theorem op_neD : OpR X (compareOp .NotEq) (rEqD X.K X.A true) := by
  intro pins s σ H x y v u Q I rx ry h
  obtain ⟨d, e, hd, he, c1, c2, hu, q⟩ := h
  obtain ⟨as, ra⟩ := Dt.reads I hd rx
  obtain ⟨bs, rb⟩ := Dt.reads I he ry
  exact SeqAt.compareNe_reads ra rb c1 c2 hu ⟨.bl _, H, I, rfl, q⟩
end
/-- rows of squares as values, as data -/
def nv (xs : List Nat) : List V := xs.map fun (n : Nat) => V.int (n : Int)
def nd (xs : List Nat) : List PyData := xs.map fun (n : Nat) => PyData.int (n : Int)
theorem nv_len (xs : List Nat) : (nv xs).length = xs.length := by simp [nv]
theorem nv_get {xs : List Nat} {i : Nat} {x : Nat} (h : xs[i]? = some x) : (nv xs)[i]? = some (.int (x : Int)) := by simp [nv, h]
theorem nv_get' {xs : List Nat} {i : Nat} {v : V} (h : (nv xs)[i]? = some v) : ∃ x, xs[i]? = some x ∧ v = .int (x : Int) := by
  rw [nv, List.getElem?_map] at h
  cases e : xs[i]? with
  | none => rw [e] at h; cases h
  | some x => rw [e] at h; exact ⟨x, rfl, (Option.some.inj h).symm⟩
theorem nv_snoc (xs : List Nat) (x : Nat) : nv xs ++ [.int (x : Int)] = nv (xs ++ [x]) := by simp [nv]
theorem nd_all {K : PySem.W.Frag} {H : Hp} : ∀ xs : List Nat, DtAll K H (nv xs) (nd xs)
  | [] => .nil
  | x :: xs => .cons (.int _) (nd_all xs)
theorem nd_lay : ∀ xs : List Nat, PyData.canLayAll0 (nd xs) = true
  | [] => rfl
  | x :: xs => by show (PyData.canLay0 (PyData.int _) && PyData.canLayAll0 (nd xs)) = true; rw [nd_lay xs]; rfl
theorem nd_eqv : ∀ xs ys : List Nat, PyData.eqvAll (nd xs) (nd ys) = decide (xs = ys)
  | [], [] => rfl
  | [], y :: ys => rfl
  | x :: xs, [] => rfl
  | x :: xs, y :: ys => by
    show (((x : Int) == (y : Int)) && PyData.eqvAll (nd xs) (nd ys)) = _
    rw [nd_eqv xs ys]
    by_cases e : x = y
    · subst e
      by_cases e' : xs = ys <;> simp [e']
    · have : ((x : Int) == (y : Int)) = false := by simpa using fun h : (x : Int) = y => e (by omega)
      simp [this, e]
/-- a sheet's two rows as data -/
def sd (r u : List Nat) : PyData := .tuple [.tuple (nd r), .tuple (nd u)]
theorem sd_eqv (r u r' u' : List Nat) : PyData.eqv (sd r u) (sd r' u') = (decide (r = r') && decide (u = u')) := by
  show (PyData.eqvAll (nd r) (nd r') && (PyData.eqvAll (nd u) (nd u') && true)) = _
  rw [nd_eqv, nd_eqv, Bool.and_true]
theorem sd_lay (r u : List Nat) : (sd r u).canLay0 = true := by
  show (PyData.canLayAll0 (nd r) && (PyData.canLayAll0 (nd u) && true)) = true
  rw [nd_lay, nd_lay]; rfl
/-- the sheet at a: a tuple of two tuples -/
def ShAt (H : Hp) (a : Addr) (r u : List Nat) : Prop := ∃ p q, H a = some (.tup [.ref p, .ref q]) ∧ H p = some (.tup (nv r)) ∧ H q = some (.tup (nv u))
theorem ShAt.dt {K : PySem.W.Frag} {H : Hp} {a : Addr} {r u : List Nat} (h : ShAt H a r u) : Dt K H (.ref a) (sd r u) := by
  obtain ⟨p, q, h1, h2, h3⟩ := h
  exact .tup (SqT.of h1) (.cons (.tup (SqT.of h2) (nd_all r)) (.cons (.tup (SqT.of h3) (nd_all u)) .nil))
theorem ShAt.same {H H' : Hp} {a : Addr} {r u : List Nat} (e : Same H H') (h : ShAt H a r u) : ShAt H' a r u := by
  obtain ⟨p, q, h1, h2, h3⟩ := h
  exact ⟨p, q, e _ _ h1, e _ _ h2, e _ _ h3⟩
end L2
namespace L2
open PySem PySem.Spec PyProof.Rows
theorem sub_ts : isSubtype (.type "tuple") (.type "set") = pure false := by rw [isSubtype_type]; kernel_rfl
theorem sub_tf : isSubtype (.type "tuple") (.type "frozenset") = pure false := by rw [isSubtype_type]; kernel_rfl
section
variable {prog : Program} {w : World} {A : Around} {E : Value → Shared → Prop} {s : Shared}
abbrev freshSet (led : Bool) : Obj := { cls := .type "set", dict := none, data := .set #[] 0 (.fresh 0 0 led) }
/-- what set(t) leaves -/
def SetMade (prog : Program) (w : World) (s : Shared) (ns : List Int) (n : Nat) (s' : Shared) : Prop := ∃ h' tk, s' = { s with heap := h', toks := tk } ∧
  h'.SetOf (intKind prog w) s.heap.objs.size (fun k' => (firstMet (fun i => ns.getD i 0) n).any (· == k')) (firstMet (fun i => ns.getD i 0) n).length ∧
  ∀ b o, b < s.heap.objs.size → s.heap.get? b = some o → h'.get? b = some o
set_option maxHeartbeats 3200000 in
theorem set_init_tup {l : Addr} {items : Array Value} {ns : List Int} {led : Bool} (hh : A.handled = none) (hl : s.heap.IsTuple l items) (hi : IntsAre items.toList ns) (hb : items.size + 1 < scanBound) :
    wpAny (model prog w) A (Builtin.«set.__init__» ⟨[.ref s.heap.objs.size, .ref l], []⟩) (fun fin s₂ => fin = .done (.ret .none) ∧ SetMade prog w s ns items.size s₂) E { s with heap := s.heap.push (freshSet led) } := by
  have hS : (s.heap.push (freshSet led)).get? s.heap.objs.size = some (freshSet led) := Heap.get?_push_size _ rfl
  obtain ⟨ol, hol, hcl, nl, hdl⟩ := hl
  obtain ⟨oc, od, oda, osl⟩ := ol
  simp only at hcl hdl
  subst hcl; subst hdl
  have hol' := Heap.get?_push_of_some (freshSet led) hol
  have q1 := sub_ts
  have q2 := sub_tf
  have q3 : (Value.type "tuple" == Value.type "dict") = false := by decide
  have hl1 : (s.heap.push (freshSet led)).IsTuple l items := ⟨_, hol', rfl, nl, rfl⟩
  have hlS : l < s.heap.objs.size := Heap.lt_size hol
  unfold Builtin.«set.__init__» noKeywords Builtin.Frozenset.updateFrom
  generalize hPI : pyIter = PI
  wp_walk
  subst hPI
  refine wpAny_pyIter_tuple hl1 (wpAny_bind (wpAny_runValue ?_))
  have hz : (s.heap.push (freshSet led)).objs.size = s.heap.objs.size + 1 := Heap.size_push ..
  rw [hz]
  refine codeAny_set_update_loopS ((Walks.tuple (by simp [hh]) (s.heap.objs.size + 1) l (Nat.ne_of_lt (Nat.lt_succ_of_lt hlS)) items).toS) s.heap.objs.size (fun hm => (List.mem_cons.mp hm).elim (Nat.ne_of_lt (Nat.lt_succ_self _)) fun hm => Nat.ne_of_gt hlS (List.mem_singleton.mp hm)) (fun i => ns.getD i 0) (fun i v hv => IntsAre.int_at hi i v (by rw [Array.getElem?_toList]; exact hv)) hb (items.size - 0) 0 _ (by omega) (Nat.zero_le _)
    ⟨⟨_, hz ▸ Heap.get?_push_size _ rfl, rfl, rfl⟩, ⟨_, Heap.get?_push_of_some _ hol', rfl, nl, rfl⟩⟩ ?_ ?_
  · exact SetOf_congr ((setObjOf_fresh (knd := intKind prog w) led).setOf (Heap.get?_push_of_some _ hS) (by unfold scanBound; omega)) (fun _ => rfl) rfl
  · intro s' hm hS'
    obtain ⟨h', g', d', tk', os'⟩ := s'
    have eg : g' = s.gens := hm.gens
    have ed : d' = s.drawn := hm.drawn
    have eo : os' = s.os := hm.os
    subst eg; subst ed; subst eo
    show wpAny _ _ _ _ _ _
    refine wpAny_pure ?_
    show wpAny _ _ (ret Value.none) _ _ _
    refine wpAny_pure ⟨rfl, h', tk', rfl, hS', fun b o hlt e => ?_⟩
    exact hm.heap b o (fun q => (List.mem_cons.mp q).elim (Nat.ne_of_lt hlt) fun q => Nat.ne_of_lt (Nat.lt_succ_of_lt hlt) (List.mem_singleton.mp q)) (Heap.get?_push_of_some _ (Heap.get?_push_of_some _ e))
/-- set(t), t a tuple of ints -/
theorem call_set_tup {l : Addr} {items : Array Value} {ns : List Int} {Q : Value → Shared → Prop} (hh : A.handled = none) (hl : s.heap.IsTuple l items) (hi : IntsAre items.toList ns) (hb : items.size + 1 < scanBound)
    (h : ∀ s', SetMade prog w s ns items.size s' → Q (.ref s.heap.objs.size) s') : wpAny (model prog w) A (call (.type "set") [.ref l]) Q E s := by
  have m0 := F.called_set.mro
  obtain ⟨c, tl, m1⟩ := m0
  have m2 := F.called_set.made
  have m3 := F.called_set.sub
  have m4 := F.called_set.notType
  have m5 := F.called_set.canCreate
  have m6 := F.typeCall_set_1 (.ref l)
  refine wpAny_call (codeAny_of_tree (show wpAny _ _ (callAny (.type "set") _) _ _ _ from ?_))
  refine wpAny_pure ⟨Code.quiet_builtin _ (by decide +kernel), codeAny_builtin F.entry_type_call ?_⟩
  rw [Around.under_plain (weight_type_call_type "set" [.ref l] []) rfl]
  repeat (any_goals (first | assumption | wp_step))
  refine codeAny_mono (code_set_new_1 (.ref l) (E := E) (Q₁ := fun obj s₁ => ∃ led : Bool, obj = .ref s.heap.objs.size ∧ s₁ = { s with heap := s.heap.push (freshSet led) }) fun led => ⟨led, rfl, rfl⟩) fun r s₁ hr => ?_
  match r, hr with
  | .error e, hr => exact hr
  | .ok .next, hr => exact hr.elim
  | .ok .brk, hr => exact hr.elim
  | .ok .cont, hr => exact hr.elim
  | .ok (.ret obj), hr =>
    obtain ⟨led, rfl, rfl⟩ := hr
    have hT : Shared.TypeIs { s with heap := s.heap.push (freshSet led) } (.ref s.heap.objs.size) "set" := ⟨_, Heap.get?_push_size _ rfl, rfl⟩
    have m7 := F.called_set.init.lookup
    have m8 := F.called_set.init.bind (.ref s.heap.objs.size)
    repeat (any_goals (first | assumption | wp_step))
    refine codeAny_mono (codeAny_call_builtin (R := wants (fun r s₂ => r = .none ∧ SetMade prog w s ns items.size s₂) E) F.called_set.init.plain F.entry_set_init (check_set_init_1 hT ?_)) fun r₂ s₂ hr₂ => ?_
    · refine wpAny_mono (set_init_tup (by simp [hh]) hl hi hb) (fun fin s₂ ⟨e, q⟩ => ?_) fun e s₂ q => q
      subst e
      exact ⟨rfl, q⟩
    · match r₂, hr₂ with
      | .error e, hr₂ => exact hr₂
      | .ok .next, hr₂ => exact hr₂.elim
      | .ok .brk, hr₂ => exact hr₂.elim
      | .ok .cont, hr₂ => exact hr₂.elim
      | .ok (.ret r), hr₂ =>
        obtain ⟨rfl, q⟩ := hr₂
        repeat (any_goals (first | assumption | wp_step))
        exact h _ q
end
end L2
namespace L2
open PySem PySem.Spec PyProof.Rows
section
variable {prog : Program} {w : World} {A : Around} {E : Value → Shared → Prop} {s : Shared}
theorem collect_tup {l : Addr} {vs : List Value} {Q : List Value → Shared → Prop} (hl : s.heap.IsTuple l vs.toArray) (hz : vs.length ≤ sizeLine)
    (h : ∀ h', (∀ b o, s.heap.get? b = some o → h'.get? b = some o) → Q vs { s with heap := h' }) : wpAny (model prog w) A (collect (.ref l)) Q E s := by
  obtain ⟨o, ho, hc, n, hd⟩ := hl
  unfold collect
  refine wpAny_bind (wpAny_runValue (codeAny_builtin entry_proto_collect' ?_))
  show wpAny _ _ (do again (.builtin "list.__iadd__" ⟨[← newList [], .ref l], []⟩)) _ _ s
  refine wpAny_bind (wpAny_newList (wpAny_pure ⟨Code.quiet_builtin _ (by decide +kernel), codeAny_builtin entry_list_iadd' ?_⟩))
  have ho' : (s.heap.push (seqObj "list" #[] 0)).get? l = some o := Heap.get?_push_of_some _ ho
  show wpAny _ _ (Builtin.List.listExtendWith (.ref s.heap.objs.size) (.ref l) (.ref s.heap.objs.size)) _ _ { s with heap := s.heap.push (seqObj "list" #[] 0) }
  unfold Builtin.List.listExtendWith
  refine wpAny_bind (wpAny_typeOf (T := "tuple") ⟨o, ho', hc⟩ ?_)
  rw [if_pos (show (Builtin.List.listSameRef (.ref s.heap.objs.size) (.ref l) || Value.type "tuple" == Value.type "list" || Value.type "tuple" == Value.type "tuple") = true by
    rw [show (Value.type "tuple" == Value.type "tuple") = true from rfl, Bool.or_true])]
  refine wpAny_bind (listItems_at ho' hd (wpAny_bind (listItems_at (xs := #[]) (n := 0) (Heap.get?_push_size _ rfl) rfl ?_)))
  rw [if_neg (by simp)]
  refine wpAny_bind (listUpdate_at (xs := #[]) (n := 0) (Heap.get?_push_size _ rfl) rfl ?_ (Nat.zero_le _) (by show (#[] ++ vs.toArray).size ≤ sizeLine + 1; simp; omega))
  refine wpAny_pure ?_
  refine wpAny_bind (wpAny_load (get?_update_seq (Heap.get?_push_size _ rfl) _) ?_)
  show wpAny _ _ (pure ((#[] : Array Value) ++ vs.toArray).toList) Q E _
  rw [show ((#[] : Array Value) ++ vs.toArray).toList = vs by simp]
  exact wpAny_pure (h _ fun b o e => (Heap.get?_update_other _ _ (Nat.ne_of_gt (Heap.lt_size e))).trans (Heap.get?_push_of_some _ e))
/-- sorted(x), by what collect tells of x -/
theorem sorted_by {x : Value} {vs : List Value} {ns : List Int} {Q : Value → Shared → Prop} (hI : IntsAre vs ns) (h64 : vs.length < 64)
    (hcol : ∀ (A : Around) (R : List Value → Shared → Prop), A.handled = none → (∀ vs ns' h' tk, IntsAre vs ns' → ns' = ns → (∀ b o, s.heap.get? b = some o → h'.get? b = some o) → R vs { s with heap := h', toks := tk }) → wpAny (model prog w) A (collect x) R E s)
    (hh : A.handled = none)
    (h : ∀ (h1 h2 : Heap) (tk e : Nat) (out : Array Value) (ns' : List Int), IntsAre out.toList ns' → ns'.Perm ns → ns'.Pairwise (· ≤ ·) → (∀ b o, s.heap.get? b = some o → h1.get? b = some o) → h2.get? h1.objs.size = some (seqObj "list" out e) →
      (∀ b o, h1.get? b = some o → h2.get? b = some o) → Q (.ref h1.objs.size) { s with heap := h2, toks := tk }) :
    wpAny (model prog w) A (call (.builtin "sorted") [x]) Q E s := by
  refine Calls.call_function_entry kind_sorted plain_sorted entry_sorted (args_sorted1 _) ?_
  unfold Builtin.«sorted»
  refine wpAny_bind (m := checkCount "sorted" 1 1 _) (wpAny_pure ?_)
  refine wpAny_bind (hcol _ _ (by simp [hh]) fun vs ms h' tk hI' e hk => ?_)
  subst e
  have hl : vs.length < 64 := by rw [hI'.length, ← hI.length]; exact h64
  refine wpAny_bind (wpAny_newList ?_)
  refine wpAny_bind (wpAny_holding (wpAny_call_entry slot_list_sort ⟨_, Heap.get?_push_size _ rfl, rfl⟩ entry_list_sort (list_sort_tree (Heap.get?_push_size _ rfl) hI' hl fun out ns' a1 a2 a3 => ⟨_, rfl, ?_⟩) (args_list_sort _)))
  obtain ⟨e, he⟩ := sortedHeap_at (out := out) (n := 0) (show (h'.push (seqObj "list" vs.toArray 0)).get? h'.objs.size = some (seqObj "list" vs.toArray 0) from Heap.get?_push_size _ rfl)
  have old : ∀ b o, h'.get? b = some o → (sortedHeap (h'.push (seqObj "list" vs.toArray 0)) h'.objs.size vs out).get? b = some o := fun b o q1 => by
    have q2 := Heap.lt_size q1
    rw [sortedHeap_old (Nat.ne_of_lt q2) (by rw [Heap.size_push]; exact Nat.lt_succ_of_lt q2)]
    exact Heap.get?_push_of_some _ q1
  exact wpAny_pure ⟨_, rfl, h _ _ _ _ out ns' a1 a2 a3 hk he old⟩
end
end L2
namespace L2
open PySem PySem.Spec PyProof.Rows
section
variable {prog : Program} {w : World} {A : Around} {E : Value → Shared → Prop} {s : Shared}
/-- a list of two is unpacked -/
theorem unpack_two {t : Addr} {v u : Value} {targets : List (Bool × (Value → Sem Unit))} {Q : Unit → Shared → Prop} (hh : A.handled = none) (ht : s.heap.IsList t #[v, u])
    (hn : targets.length = 2) (hstar : targets.findIdx? (·.1) = none)
    (h : ∀ h', (∀ b o, s.heap.get? b = some o → h'.get? b = some o) → wpAny (model prog w) A (assignInOrder (targets.map (·.2)) [v, u]) Q E { s with heap := h' }) :
    wpAny (model prog w) A (unpack (.ref t) targets) Q E s := by
  unfold unpack
  rw [hn, hstar]
  refine wpAny_bind (wpAny_holding ?_)
  unfold unpackItems notIterableAtAll
  have hlt : t ≠ s.heap.objs.size := by obtain ⟨o, ho, _⟩ := ht; exact Nat.ne_of_lt (Heap.lt_size ho)
  refine wpAny_bind (wpAny_bind (wpAny_specialOf ht.typeIs F.slot_list_iter.lookup (wpAny_pure ?_)))
  simp only [Bool.false_eq_true, if_false]
  refine wpAny_bind (wpAny_holding (wpAny_pyIter_list ht ?_))
  refine wpAny_bind (wpAny_holding ?_)
  have l0 := ht.push { cls := .type "list_iterator", data := .fields #[.ref t, .int 0 0] }
  show wpAny _ _ (pyNext (.ref s.heap.objs.size) >>= _) _ _ _
  refine wpAny_bind (wpAny_pyNext_list_item (i := 0) (x := v) ⟨_, Heap.get?_push_size _ rfl, rfl, rfl⟩ l0 rfl fun h1 i1 s1 => ?_)
  have l1 := l0.extBut s1.extBut hlt
  refine wpAny_bind (wpAny_holding ?_)
  show wpAny _ _ (pyNext (.ref s.heap.objs.size) >>= _) _ _ _
  refine wpAny_bind (wpAny_pyNext_list_item (i := 1) (x := u) i1 l1 rfl fun h2 i2 s2 => ?_)
  have l2 := l1.extBut s2.extBut hlt
  refine wpAny_bind (wpAny_holding (wpAny_pure (wpAny_pure (wpAny_pure ?_))))
  rw [if_neg (by simp)]
  refine wpAny_bind (wpAny_holding (wpAny_pyNext_list_end hh i2 l2 rfl fun h3 e3 => ?_))
  simp only [Option.isSome_none, Bool.false_eq_true, if_false]
  refine wpAny_pure (h h3 fun b o e => ?_)
  have hb := Nat.ne_of_lt (Heap.lt_size e)
  exact e3 b o hb (s2.extBut b o hb (s1.extBut b o hb (Heap.get?_push_of_some _ e)))
end
end L2
namespace L2
open PySem PySem.Spec PyProof.Rows

section
variable {X : Cx} {pins : List (Addr × Obj)} {σ : St} {H : Hp} {s : Shared}
/-- records of ours at fp have turned, a new object T is laid and tracked -/
theorem Inv.turnLaid {fp : List Addr} {T : Addr} {o : HO} {h' : Heap} {t' : Nat} (I : Inv X pins σ H s) (hf : ∀ b ∈ fp, FpOk X pins H b) (hT : s.heap.objs.size ≤ T)
    (k : ∀ b ob, b ∉ fp → s.heap.get? b = some ob → h'.get? b = some ob) (new : ObjOk X.prog X.w (upd H T o) h' T o) : Inv X pins σ (upd H T o) { s with heap := h', toks := t' } := by
  have hn : H T = none := I.hok.fresh hT
  have neT : ∀ b ob, s.heap.get? b = some ob → b ≠ T := fun b ob e => Nat.ne_of_lt (Nat.lt_of_lt_of_le (Heap.lt_size e) hT)
  have nfp : ∀ b u, H b = some u → b ∉ fp := fun b u e hb => by rw [(hf b hb).1] at e; cases e
  refine I.step (g' := s.gens) (d' := s.drawn) (ch := fp) (fun b hb => ⟨(hf b hb).2.2.2.1, (hf b hb).2.1, (hf b hb).2.2.2.2.1, (hf b hb).2.2.2.2.2⟩) (fun b ob _ _ hc e _ => k b ob hc e) (fun b ob _ _ hc e _ => ⟨ob.slots, k b ob hc e⟩)
    (fun b ob _ e n => by rw [upd_ne (neT b ob e)]; exact n) (fun b ob hc e => ⟨ob, k b ob hc e⟩) (fun b xs e => by rw [upd_ne (ne_of_none e hn)]; exact e) (fun b ob u e => by rw [upd_ne (ne_of_none e hn)]; exact e)
    (fun b ps e => ⟨#[], by rw [upd_ne (ne_of_none e hn), e]; simp⟩) (fun m hm => ?_) (fun b u e => ?_) I.bare
  · obtain ⟨ob, es, ep, ho, r⟩ := hm
    exact ⟨ob, es, ep, k _ ob (fun hb => (hf _ hb).2.1 rfl) ho, r⟩
  · by_cases hb : b = T
    · subst hb; rw [upd_same] at e; cases e; exact new
    · rw [upd_ne hb] at e
      refine (I.hok b u e).stay (fun c v hc q => k c v ?_ q) (fun c q => by rw [upd_ne (ne_of_none q hn)]; exact q) fun c xs q => by rw [upd_ne (ne_of_none q hn)]; exact q
      rcases hc with z | z
      · rw [z]; exact nfp b u e
      · exact nfp c _ z
/-- records of ours at fp have turned -/
theorem Inv.turnedL {fp : List Addr} {h' : Heap} {t' : Nat} (I : Inv X pins σ H s) (hf : ∀ b ∈ fp, FpOk X pins H b) (k : ∀ b ob, b ∉ fp → s.heap.get? b = some ob → h'.get? b = some ob) : Inv X pins σ H { s with heap := h', toks := t' } := by
  have nfp : ∀ b u, H b = some u → b ∉ fp := fun b u e hb => by rw [(hf b hb).1] at e; cases e
  refine I.step (g' := s.gens) (d' := s.drawn) (ch := fp) (fun b hb => ⟨(hf b hb).2.2.2.1, (hf b hb).2.1, (hf b hb).2.2.2.2.1, (hf b hb).2.2.2.2.2⟩) (fun b ob _ _ hc e _ => k b ob hc e) (fun b ob _ _ hc e _ => ⟨ob.slots, k b ob hc e⟩)
    (fun _ _ _ _ n => n) (fun b ob hc e => ⟨ob, k b ob hc e⟩) (fun _ _ e => e) (fun _ _ _ e => e) (fun b ps e => ⟨#[], by rw [e]; simp⟩) (fun m hm => ?_) (fun b u e => ?_) I.bare
  · obtain ⟨ob, es, ep, ho, r⟩ := hm
    exact ⟨ob, es, ep, k _ ob (fun hb => (hf _ hb).2.1 rfl) ho, r⟩
  · refine (I.hok b u e).stay (fun c v hc q => k c v ?_ q) (fun _ q => q) fun _ _ q => q
    rcases hc with z | z
    · rw [z]; exact nfp b u e
    · exact nfp c _ z
end

/-- enumerate's own pair: a tuple, nothing said of a dict -/
def tupE (T : Addr) (xs : List V) : HO := .ext fun h => xs.length ≤ sizeLine ∧ ∃ its : List Value, Vals xs its ∧ IsTup h T its.toArray
theorem tupE_ok {P : Program} {w : World} {H : Hp} {h : Heap} {T : Addr} {xs : List V} (q : xs.length ≤ sizeLine ∧ ∃ its : List Value, Vals xs its ∧ IsTup h T its.toArray) : ObjOk P w H h T (tupE T xs) := by
  obtain ⟨z, its, r, o, e, c⟩ := id q
  exact ⟨q, ⟨o, e⟩, fun h1 h2 ⟨z', its', r', o', e', c'⟩ k => ⟨z', its', r', o', k _ e', c'⟩⟩
def gTupE (n : Nat) (t : TGs) : TG := fun v σ H Q => ∃ a xs, v = .ref a ∧ H a = some (tupE a xs) ∧ xs.length = n ∧ t xs σ H Q
theorem pg_tupE {es : List Expr} {k : Nat} {t : TGs} {n : Nat} {pos : Pos} (hc : X.calm = true) (h : PGs X es t)
    (hn : (assignEach es X.env).length = n := by rfl) (hst : (assignEach es X.env).findIdx? (·.1) = none := by rfl) : PG X (.Tuple es k pos) (gTupE n t) := by
  intro pins s σ H v u Q I r hw
  obtain ⟨a, xs, e1, hq, hl, hw⟩ := hw
  subst e1
  cases r
  obtain ⟨⟨hz, its, rv, ht⟩, _⟩ := I.hok a _ hq
  refine assign_Tuple_tuple (I.ok.hd hc) ht (by simp [hn, ← hl, rv.length]) hst fun h' hx => ?_
  have I1 : Inv X pins σ H { s with heap := h' } := I.kept (t' := s.toks) fun b o e => hx b o (Nat.ne_of_lt (Heap.lt_size e)) e
  exact h pins _ σ H xs _ Q I1 (by simpa using rv) hw
def Iten (sq : Hp → List V → Prop) : It :=
  ⟨fun i H => ∃ xs x, sq H xs ∧ xs[i]? = some x, fun i H x H' => ∃ T y, H T = none ∧ x = .ref T ∧ (∀ xs, sq H xs → xs[i]? = some y) ∧ H' = upd H T (tupE T [.int (i : Int), y]), fun i H => ∃ xs, sq H xs ∧ xs.length = i⟩

theorem ne_cls {h : Heap} {a b : Addr} {o u : Obj} (h1 : h.get? a = some o) (h2 : h.get? b = some u) (d : o.cls ≠ u.cls) : a ≠ b := by
  intro e; subst e; rw [h1] at h2; cases h2; exact d rfl

theorem turn_enum {P : Program} {w : World} {K : PySem.W.Frag} {elts : List Expr} {k : Nat} {pos : Pos} (sq : Hp → List V → Prop) (isq : Heap → Array Value → Prop) (isit : Nat → Heap → Prop) (e it : Addr)
    (obj : ∀ i h, isit i h → ∃ o, h.get? it = some o ∧ ∀ v, o.data ≠ .cell v) (keep : ∀ i h h', isit i h → (∀ o, h.get? it = some o → h'.get? it = some o) → isit i h')
    (rd : ∀ (X : Cx) (pins : List (Addr × Obj)) (σ : St) (H : Hp) (s : Shared) (xs : List V), X.K = K → Inv X pins σ H s → sq H xs → (∃ its : List Value, Vals xs its ∧ isq s.heap its.toArray) ∧ ∀ ys, sq H ys → ys = xs)
    (W : ∀ (A : Around) (items : Array Value) (h : Heap) (i : Nat), A.handled = none → isq h items → isit i h → (∃ old, IsEnum h e it i old) → ∃ fp Mid, WalksT P w A e fp [e, it] items.size (fun i vals => ∃ t x, items[i]? = some x ∧ vals = #[.int (i : Int) t, x])
      (fun i h => (∃ old, IsEnum h e it i old) ∧ isit i h ∧ isq h items) Mid) :
    Turn P w K (.Tuple elts k pos) (Iten sq) [e, it] e (fun i h => (∃ old, IsEnum h e it i old) ∧ isit i h) where
  mem := by simp
  obj := fun i h st b hb => by
    obtain ⟨⟨old, he⟩, q⟩ := st
    rcases List.mem_cons.mp hb with rfl | hb
    · exact ⟨_, he, fun v z => nomatch z⟩
    · rw [List.mem_singleton.mp hb]; exact obj i h q
  keep := fun i h h' st kp => ⟨let ⟨old, he⟩ := st.1; ⟨old, kp e (by simp) _ he⟩, keep i h h' st.2 fun o q => kp it (by simp) o q⟩
  item := by
    intro X hP hw hK hc i pins s σ H E I hf st hg
    subst hP hw
    obtain ⟨xs, x, hq, hx⟩ := hg
    obtain ⟨⟨its, rv, hL⟩, inj⟩ := rd X pins σ H s xs hK I hq
    obtain ⟨old, he⟩ := id st.1
    obtain ⟨oi, hoi, _⟩ := obj _ _ st.2
    have hlt : i < its.toArray.size := by
      have := (List.getElem?_eq_some_iff.mp hx).1
      rw [rv.length] at this; simpa using this
    obtain ⟨fp, Mid, W⟩ := W X.A its.toArray s.heap i (I.ok.hd hc) hL st.2 st.1
    refine W.item i s _ E hlt ⟨st.1, st.2, hL⟩ fun T vals h' tk hPt hT htup hMid hk => ⟨.ref T, rfl, ?_⟩
    refine W.go elts k pos i T _ _ E hMid fun h'' hSt hk2 => ?_
    obtain ⟨t, y', hy', rfl⟩ := hPt
    obtain ⟨u, hu, ry⟩ := rv.get hx
    have e1 : y' = u := by
      have : its[i]? = some y' := by simpa using hy'
      rw [hu] at this; exact (Option.some.inj this).symm
    subst e1
    have htup2 : IsTup h'' T #[.int (i : Int) t, y'] := by
      obtain ⟨o, q1, q2⟩ := htup
      exact ⟨o, hk2 T o (W.apart _ _ _ hMid) q1, q2⟩
    refine ⟨.ref T, upd H T (tupE T [.int (i : Int), x]), ?_, rfl, ⟨T, x, I.hok.fresh hT, rfl, fun zs hzs => by rw [inj zs hzs]; exact hx, rfl⟩, ⟨hSt.1, hSt.2.1⟩, fun b hb => ?_⟩
    · exact I.turnLaid (s := s) (h' := h'') (t' := tk) hf hT (fun b ob hb q => hk2 b ob hb (hk b ob hb q)) (tupE_ok ⟨by show 2 ≤ sizeLine; decide, [.int (i : Int) t, y'], .cons ⟨t, rfl⟩ (.cons ry .nil), htup2⟩)
    · have hbT : b ≠ T := fun z => by
        have : b < s.heap.objs.size := by
          rcases List.mem_cons.mp hb with rfl | hb
          · exact Heap.lt_size he
          · rw [List.mem_singleton.mp hb]; exact Heap.lt_size hoi
        exact absurd (Nat.lt_of_lt_of_le this hT) (by rw [z]; exact Nat.lt_irrefl _)
      rw [upd_ne hbT]; exact (hf b hb).1
  done := by
    intro X hP hw hK hc i pins s σ H E I hf st hs
    subst hP hw
    obtain ⟨xs, hq, hle⟩ := hs
    obtain ⟨⟨its, rv, hL⟩, inj⟩ := rd X pins σ H s xs hK I hq
    obtain ⟨fp, Mid, W⟩ := W X.A its.toArray s.heap i (I.ok.hd hc) hL st.2 st.1
    have hi : i = its.toArray.size := by rw [← hle, rv.length]; simp
    refine W.done s _ E (by rw [← hi]; exact ⟨st.1, st.2, hL⟩) fun h' tk hk => ⟨rfl, ?_⟩
    exact I.turnedL hf hk
  self := fun A i s Q E st h => by obtain ⟨⟨old, he⟩, _⟩ := st; exact wpAny_pyIter_enum he h

section
variable {X : Cx} {elts : List Expr} {k : Nat} {tpos : Pos}
def iEnumL (K : PySem.W.Frag) (ta : TA) : TI := fun σ H R => ta σ H fun vs H1 => ∃ a, vs = [.ref a] ∧ (∃ xs, SqL K H1 a xs) ∧ R (Iten fun H xs => SqL K H a xs) H1
def iEnumT (K : PySem.W.Frag) (ta : TA) : TI := fun σ H R => ta σ H fun vs H1 => ∃ a, vs = [.ref a] ∧ (∃ xs, SqT K H1 a xs) ∧ R (Iten fun H xs => SqT K H a xs) H1
theorem boot_enum : bootBuiltins "enumerate" = some (.type "enumerate") := by decide +kernel
theorem pi_enumL {l : Expr} {ta : TA} {p pos : Pos} (hg : Gl X "enumerate") (hm : X.mg "enumerate" = none) (ha : PA X [l] ta) (hs : starEach [l] X.env = [(false, eval l X.env)] := by rfl) :
    PI X (.Tuple elts k tpos) (.Call (.Name "enumerate" p) [l] [] pos) (iEnumL X.K ta) := by
  intro pins s σ H R I h
  refine Call_ (ld_blt I hg hm boot_enum (PyProof.Rows.callWith_type1 (thn (ha pos pins s σ H _ I h) fun us s1 ⟨vs, H1, I1, r1, q1⟩ => ?_) hs rfl))
  obtain ⟨a, rfl, ⟨xs, hq⟩, q⟩ := q1
  obtain ⟨u, rfl, ru⟩ := vals1 r1
  obtain rfl : u = Value.ref a := ru
  obtain ⟨its, rv, p, hz⟩ := I1.list hq
  have ha : a < s1.heap.objs.size := by obtain ⟨o, ho, _⟩ := p.isList; exact Heap.lt_size ho
  refine call_enumerate_list p.isList fun h' he hit hsz hk => ?_
  refine wpAny_pyIter_enum he ?_
  have I2 : Inv X pins σ H1 { s1 with heap := h' } := I1.kept (t' := s1.toks) hk
  refine ⟨s1.heap.objs.size + 1, [s1.heap.objs.size + 1, s1.heap.objs.size], _, _, H1, rfl, I2, turn_enum (fun H xs => SqL X.K H a xs) (fun h its => h.IsList a its) (fun i h => h.IsListIter s1.heap.objs.size a i) (s1.heap.objs.size + 1) s1.heap.objs.size ?_ ?_ ?_ ?_, ⟨⟨_, he⟩, hit⟩, fun b hb => ?_, q⟩
  · rintro i h ⟨o, q1, q2, q3⟩
    exact ⟨o, q1, fun v z => by rw [q3] at z; cases z⟩
  · intro i h h' st kp
    exact st.at kp
  · intro X' pins' σ' H' s' ys hK I' hq'
    rw [← hK] at hq'
    obtain ⟨its', rv', p', _⟩ := I'.list hq'
    exact ⟨⟨its', rv', p'.isList⟩, fun zs hz => I'.list_inj (by rw [hK]; exact hz) hq'⟩
  · intro A items h i hh hL hI hE
    obtain ⟨old, hE⟩ := hE
    obtain ⟨ol, hol, hcl, _⟩ := id hL
    obtain ⟨oi, hoi, hci, _⟩ := id hI
    exact ⟨_, _, WalksT.enumerate hh _ _ a (Nat.succ_ne_self _) (ne_cls hol hE (by rw [hcl]; show Value.type "list" ≠ Value.type "enumerate"; decide)) (ne_cls hol hoi (by rw [hcl, hci]; decide)) items⟩
  · rcases List.mem_cons.mp hb with rfl | hb
    · exact I1.fpOk (Nat.le_succ _) (I1.hok.fresh (Nat.le_succ _))
    · rw [List.mem_singleton.mp hb]; exact I1.fpOk (Nat.le_refl _) (I1.hok.fresh (Nat.le_refl _))
theorem pi_enumT {l : Expr} {ta : TA} {p pos : Pos} (hg : Gl X "enumerate") (hm : X.mg "enumerate" = none) (ha : PA X [l] ta) (hs : starEach [l] X.env = [(false, eval l X.env)] := by rfl) :
    PI X (.Tuple elts k tpos) (.Call (.Name "enumerate" p) [l] [] pos) (iEnumT X.K ta) := by
  intro pins s σ H R I h
  refine Call_ (ld_blt I hg hm boot_enum (PyProof.Rows.callWith_type1 (thn (ha pos pins s σ H _ I h) fun us s1 ⟨vs, H1, I1, r1, q1⟩ => ?_) hs rfl))
  obtain ⟨a, rfl, ⟨xs, hq⟩, q⟩ := q1
  obtain ⟨u, rfl, ru⟩ := vals1 r1
  obtain rfl : u = Value.ref a := ru
  obtain ⟨its, rv, p, hz⟩ := I1.tuple hq
  refine call_enumerate_tuple (show s1.heap.IsTuple a its.toArray from p) fun h' he hit hsz hk => ?_
  refine wpAny_pyIter_enum he ?_
  have I2 : Inv X pins σ H1 { s1 with heap := h' } := I1.kept (t' := s1.toks) hk
  refine ⟨s1.heap.objs.size + 1, [s1.heap.objs.size + 1, s1.heap.objs.size], _, _, H1, rfl, I2, turn_enum (fun H xs => SqT X.K H a xs) (fun h its => h.IsTuple a its) (fun i h => h.IsTupleIter s1.heap.objs.size a i) (s1.heap.objs.size + 1) s1.heap.objs.size ?_ ?_ ?_ ?_, ⟨⟨_, he⟩, hit⟩, fun b hb => ?_, q⟩
  · rintro i h ⟨o, q1, q2, q3⟩
    exact ⟨o, q1, fun v z => by rw [q3] at z; cases z⟩
  · rintro i h h' ⟨o, q1, q2⟩ kp
    exact ⟨o, kp o q1, q2⟩
  · intro X' pins' σ' H' s' ys hK I' hq'
    rw [← hK] at hq'
    obtain ⟨its', rv', p', _⟩ := I'.tuple hq'
    exact ⟨⟨its', rv', p'⟩, fun zs hz => I'.tuple_inj (by rw [hK]; exact hz) hq'⟩
  · intro A items h i hh hL hI hE
    obtain ⟨old, hE⟩ := hE
    obtain ⟨ol, hol, hcl, _⟩ := id hL
    obtain ⟨oi, hoi, hci, _⟩ := id hI
    have hne : a ≠ s1.heap.objs.size := ne_cls hol hoi (by rw [hcl, hci]; decide)
    have hne2 : a ≠ s1.heap.objs.size + 1 := ne_cls hol hE (by rw [hcl]; show Value.type "tuple" ≠ Value.type "enumerate"; decide)
    exact ⟨_, _, WalksT.enumerateD (Draws_tuple (A := A.in1) hh s1.heap.objs.size a hne items) (s1.heap.objs.size + 1) (Nat.succ_ne_self _) (fun hm => (List.mem_cons.mp hm).elim (Nat.succ_ne_self _) fun hm => hne2 (List.mem_singleton.mp hm).symm) (by simp)⟩
  · rcases List.mem_cons.mp hb with rfl | hb
    · exact I1.fpOk (Nat.le_succ _) (I1.hok.fresh (Nat.le_succ _))
    · rw [List.mem_singleton.mp hb]; exact I1.fpOk (Nat.le_refl _) (I1.hok.fresh (Nat.le_refl _))
end
end L2
namespace L2
open PySem PySem.Spec PyProof.Rows

def Itd (a : Addr) (kvs : List (Key × V)) (o : Obj) : It :=
  ⟨fun i H => H a = some (.frz o (.dK kvs)) ∧ ∃ kv, kvs[i]? = some kv, fun i H x H' => ∃ T k v, H T = none ∧ x = .ref T ∧ kvs[i]? = some (k, v) ∧ H' = upd H T (.tup [kV k, v]), fun i H => H a = some (.frz o (.dK kvs)) ∧ kvs.length ≤ i⟩

theorem KV.get {kvs : List (Key × V)} {vs : List (Key × Value)} (r : KV kvs vs) : ∀ {i : Nat} {k : Key} {v : V}, kvs[i]? = some (k, v) → ∃ u, vs[i]? = some (k, u) ∧ RelV v u := by
  unfold KV at r
  induction r with
  | nil => intro i k v e; simp at e
  | @cons p q ps qs h t ih =>
    intro i k v e
    cases i with
    | zero =>
      simp at e
      subst e
      obtain ⟨q1, q2⟩ := q
      obtain ⟨h1, h2⟩ := h
      have h1 : k = q1 := h1
      subst h1
      exact ⟨q2, rfl, h2⟩
    | succ i => simpa using ih (by simpa using e)
theorem rel_of_kind {P : Program} {w : World} {k : Key} {u : Value} (h : (mixKind P w).is k u = true) : RelV (kV k) u := by
  rcases keyIs_shape (show keyIs k u = true from h) with ⟨i, t, rfl, rfl⟩ | ⟨x, t, rfl, rfl⟩
  · exact ⟨t, rfl⟩
  · exact ⟨t, rfl⟩
/-- a frozen dict, with its epoch -/
theorem frz_at {X : Cx} {pins : List (Addr × Obj)} {σ : St} {H : Hp} {s : Shared} {a : Addr} {o : Obj} {es : Array DictEntry} {ep : Nat} {kvs : List (Key × V)} (I : Inv X pins σ H s) (h : H a = some (.frz o (.dK kvs))) (hd : o.data = .dict es ep) :
    ∃ vs, KV kvs vs ∧ s.heap.DictAt (mixKind X.prog X.w) a vs ep ∧ s.heap.get? a = some o := by
  obtain ⟨h1, z, hs, vs, rv, o', es', ep', e, r⟩ := (show ObjOk X.prog X.w H s.heap a (.frz o (.dK kvs)) from I.hok a _ h)
  rw [h1] at e; cases e
  obtain ⟨r1, r2, r3⟩ := r
  rw [hd] at r2; cases r2
  exact ⟨vs, rv, ⟨o, es, h1, r1, hd, r3⟩, h1⟩

theorem turn_items {P : Program} {w : World} {K : PySem.W.Frag} {elts : List Expr} {k : Nat} {pos : Pos} (a it : Addr) (o : Obj) (es : Array DictEntry) (ep : Nat) (kvs : List (Key × V)) (hd : o.data = .dict es ep) :
    Turn P w K (.Tuple elts k pos) (Itd a kvs o) [it] it (fun i h => ∃ ok ov, IsItemIter h it a i kvs.length ep ok ov) where
  mem := by simp
  obj := fun i h st b hb => by
    obtain ⟨ok, ov, he⟩ := st
    rw [List.mem_singleton.mp hb]
    exact ⟨_, he, fun v z => nomatch z⟩
  keep := fun i h h' ⟨ok, ov, he⟩ kp => ⟨ok, ov, kp it (by simp) _ he⟩
  item := by
    intro X hP hw hK hc i pins s σ H E I hf st hg
    subst hP hw
    obtain ⟨hz, ⟨kk, v⟩, hx⟩ := hg
    obtain ⟨vs, rv, dd, ha⟩ := frz_at I hz hd
    obtain ⟨ok, ov, hit⟩ := st
    obtain ⟨u, hu, ru⟩ := rv.get hx
    have hl : kvs.length = vs.length := rv.length
    rw [hl] at hit
    refine wpAny_pyNext_items_item hit dd hu fun key h' hkey hout htup hsz hk => ⟨.ref s.heap.objs.size, rfl, ?_⟩
    refine wpAny_letOwnedTupleGo_items hout fun h'' hit'' hs'' => ?_
    have hitlt : it < s.heap.objs.size := Heap.lt_size hit
    have hne : s.heap.objs.size ≠ it := Nat.ne_of_gt hitlt
    refine ⟨.ref s.heap.objs.size, upd H s.heap.objs.size (.tup [kV kk, v]), ?_, rfl, ⟨_, kk, v, I.hok.fresh (Nat.le_refl _), rfl, hx, rfl⟩, ⟨key, u, by rw [hl]; exact hit''⟩, fun b hb => ?_⟩
    · refine I.turnLaid (s := s) (h' := h'') (t' := s.toks) hf (Nat.le_refl _) (fun b ob hb q => ?_) ⟨⟨by show 2 ≤ sizeLine; decide, _, (hs''.2 _ hne).trans htup, rfl⟩, [key, u], .cons (rel_of_kind hkey) (.cons ru .nil), ⟨_, (hs''.2 _ hne).trans htup, rfl, _, rfl⟩⟩
      have hbi : b ≠ it := fun z => hb (by simp [z])
      exact (hs''.2 b hbi).trans (hk b ob hbi q)
    · rw [List.mem_singleton.mp hb, upd_ne (Ne.symm hne)]
      exact (hf it (by simp)).1
  done := by
    intro X hP hw hK hc i pins s σ H E I hf st hs
    subst hP hw
    obtain ⟨hz, hle⟩ := hs
    obtain ⟨vs, rv, dd, ha⟩ := frz_at I hz hd
    obtain ⟨ok, ov, hit⟩ := st
    have hl : kvs.length = vs.length := rv.length
    rw [hl] at hit
    refine wpAny_pyNext_items_end (I.ok.hd hc) hit dd (List.getElem?_eq_none (by omega)) fun h' hk => ⟨rfl, ?_⟩
    exact I.turnedL (t' := s.toks) hf fun b ob hb q => hk b ob (fun z => hb (by simp [z])) q
  self := fun A i s Q E ⟨ok, ov, he⟩ h => PySem.W.kcp_self he h

section
variable {X : Cx} {elts : List Expr} {k : Nat} {tpos : Pos}
/-- a tracked dict becomes a frozen one -/
theorem Inv.freeze {pins : List (Addr × Obj)} {σ : St} {H : Hp} {s : Shared} {a : Addr} {kvs : List (Key × V)} (I : Inv X pins σ H s) (h : H a = some (.dK kvs)) :
    ∃ o es ep, o.data = .dict es ep ∧ Inv X pins σ (upd H a (.frz o (.dK kvs))) s := by
  obtain ⟨z, hs, vs, rv, o, es, ep, e, r1, r2, r3⟩ := (show ObjOk X.prog X.w H s.heap a (.dK kvs) from I.hok a _ h)
  refine ⟨o, es, ep, r2, ?_⟩
  have := I.write (x := a) (e := a) (o := .frz o (.dK kvs)) (h' := s.heap) (t' := s.toks) (by rw [h]; exact True.intro) (.inl rfl) (fun _ _ _ q => q) ⟨o, e⟩ ⟨e, z, hs, vs, rv, o, es, ep, e, r1, r2, r3⟩
  exact this
def iItems (tl : TE) : TI := fun σ H R => tl σ H fun x H1 => ∃ a kvs, x = .ref a ∧ Rd H1 a (.dK kvs) ∧ ∀ o H2, H2 a = some (.frz o (.dK kvs)) → (∀ b, b ≠ a → H2 b = H1 b) → R (Itd a kvs o) H2
theorem pi_items {d : Expr} {tl : TE} {apos cpos : Pos} (hl : PE X d tl) (hb : attributeBase d "items" X.env (eval d X.env) = eval d X.env := by rfl) (hline : (apos.endLine == cpos.line) = true := by rfl) :
    PI X (.Tuple elts k tpos) (.Call (.Attribute d "items" apos) [] [] cpos) (iItems tl) := by
  intro pins s σ H R I h
  have fin : ∀ {s1 : Shared} {H1 : Hp} {a : Addr} {kvs : List (Key × V)} {o : Obj} {es : Array DictEntry} {ep : Nat}, Inv X pins σ H1 s1 → H1 a = some (.frz o (.dK kvs)) → o.data = .dict es ep → R (Itd a kvs o) H1 →
      s1.TypeIs (.ref a) "dict" ∧ (∀ b, Value.ref a = .ref b → ∃ ob, s1.heap.get? b = some ob ∧ ob.dict = none) ∧
      wpAny (model X.prog X.w) X.A (callWith cpos (.builtin "dict.items") [.ref a] [] []) (fun v s1 => wpAny (model X.prog X.w) X.A (pyIter v) (PIE X pins σ (.Tuple elts k tpos) R) X.xe s1) X.xe s1 := by
    intro s1 H1 a kvs o es ep I1 hz hd q
    obtain ⟨vs, rv, dd, ha⟩ := frz_at I1 hz hd
    have hS : (a == sysModules) = false := by
      obtain ⟨_, _, hs, _⟩ := (show ObjOk X.prog X.w H1 s1.heap a (.frz o (.dK kvs)) from I1.hok a _ hz)
      exact hs
    have dd' := dd.dictOf
    refine ⟨dd'.typeIs, dd'.mapOf.noDict, ?_⟩
    refine method_meetsIn F.slot_dict_items F.entry_dict_items rfl (PySem.evalArgs_none ⟨rfl, dd'.typeIs, F.args_dict_items_1 _, _, meets_dict_items (mixKind X.prog X.w) a hS, ⟨vs, dd'⟩, ?_⟩)
    refine wpAny_pyIter_items (knd := mixKind X.prog X.w) (kvs := vs) (ep := ep) ⟨_, Heap.get?_push_size _ rfl, rfl, rfl⟩ (dd.push _) ?_
    have I2 := (I1.kept (h' := s1.heap.push { cls := .type "dict_items", data := .fields #[.ref a] }) (t' := s1.toks) fun b o e => Heap.get?_push_of_some _ e)
    have I3 := (I2.kept (h' := (s1.heap.push { cls := .type "dict_items", data := .fields #[.ref a] }).push { cls := .type "dict_itemiterator", data := .fields #[.none, .bool false, .ref a, .int 0 0, .int vs.length 0, .int ep 0, .none, .none] }) (t' := s1.toks) fun b o e => Heap.get?_push_of_some _ e)
    refine ⟨_, [_], _, _, H1, rfl, I3, turn_items a _ o es ep kvs hd, ⟨.none, .none, ?_⟩, fun b hb => ?_, q⟩
    · have hlen : kvs.length = vs.length := rv.length
      rw [hlen]
      exact Heap.get?_push_size _ rfl
    · rw [List.mem_singleton.mp hb]
      exact I2.fpOk (Nat.le_refl _) (I2.hok.fresh (Nat.le_refl _))
  refine wpAny_Call_method (T := "dict") (id := "dict.items") hb rfl hline F.plainAttrs_dict F.slot_dict_items F.type_dict_items (thn (hl pins s σ H _ I h) fun v s1 ⟨x, H1, I1, r1, a, kvs, e, rd, q⟩ => ?_)
  subst e
  obtain rfl : v = Value.ref a := r1
  rcases rd with hz | ⟨o, hz⟩
  · obtain ⟨o, es, ep, hd, I2⟩ := I1.freeze hz
    exact fin I2 upd_same hd (q o _ upd_same fun b hb => upd_ne hb)
  · obtain ⟨h1, z, hs, vs, rv, o', es, ep, e, r1, r2, r3⟩ := (show ObjOk X.prog X.w H1 s1.heap a (.frz o (.dK kvs)) from I1.hok a _ hz)
    rw [h1] at e; cases e
    exact fin I1 hz r2 (q o _ hz fun _ _ => rfl)
end

section
variable {X : Cx}
theorem call_all_bools (hc : X.calm = true) : CallR X (.builtin "all") (fun xs H Q => ∃ (p : Addr) (bs : List Bool), xs = [.ref p] ∧ SqL X.K H p (bs.map V.bl) ∧ Q (.bl (bs.all id)) H) := by
  intro pins s σ H xs us Q I r h
  obtain ⟨p, bs, rfl, hq, q⟩ := h
  obtain ⟨u, rfl, ru⟩ := vals1 r
  obtain rfl : u = Value.ref p := ru
  obtain ⟨its, rv, pl, hz⟩ := I.list hq
  have hL := pl.isList
  have hlt : p < s.heap.objs.size := by obtain ⟨o, ho, _⟩ := id hL; exact Heap.lt_size ho
  have hlen : its.length = bs.length := by rw [← rv.length]; simp
  refine call_all_walkS (wpAny_pyIter_list hL ⟨s.heap.objs.size, _, _, _, its.toArray.size, _, _, fun i => bs.getD i true, rfl, (Walks.list (A := X.A.in1) (I.ok.hd hc) s.heap.objs.size p (Nat.ne_of_lt hlt) its.toArray).toS, ⟨⟨_, Heap.get?_push_size _ rfl, rfl, rfl⟩, hL.push _⟩, ?_, fun s' hm => ?_⟩)
  · intro i v s2 Q2 E2 hP hQ
    have hv : its[i]? = some v := by simpa using hP
    have hi : i < bs.length := by rw [← hlen]; exact (List.getElem?_eq_some_iff.mp hv).1
    have hb : (bs.map V.bl)[i]? = some (.bl bs[i]) := by simp [hi]
    obtain ⟨u, hu, ru⟩ := rv.get hb
    rw [hv] at hu; cases hu
    obtain rfl : v = Value.bool bs[i] := ru
    have e : bs.getD i true = bs[i] := by simp [List.getD_eq_getElem?_getD, hi]
    simp only [e] at hQ
    exact wpAny_truthy_bool hQ
  · rw [Moved.eq_with hm]
    refine ⟨.bl _, H, I.kept (h' := s'.heap) (t' := s'.toks) fun b o e => hm.heap b o (fun z => ?_) (Heap.get?_push_of_some _ e), rfl, ?_⟩
    · exact absurd (Heap.lt_size e) (by rw [List.mem_singleton.mp z]; exact Nat.lt_irrefl _)
    · have e : (List.range its.toArray.size).all (fun i => bs.getD i true) = bs.all id := by
        have : its.toArray.size = bs.length := by simpa using hlen
        rw [this]
        apply Bool.eq_iff_iff.mpr
        simp only [List.all_eq_true, List.mem_range, id]
        constructor
        · intro h b hb
          obtain ⟨i, hi, rfl⟩ := List.mem_iff_getElem.mp hb
          have := h i hi
          simpa [List.getD_eq_getElem?_getD, hi] using this
        · intro h i hi
          have := h bs[i] (List.getElem_mem hi)
          simpa [List.getD_eq_getElem?_getD, hi] using this
      rw [e]; exact q
theorem call_range1 : CallR X (.type "range") (fun xs H Q => ∃ j : Int, xs = [.int j] ∧ ∀ r, H r = none → Q (.ref r) (upd H r (.rng 0 j))) := by
  intro pins s σ H xs us Q I r h
  obtain ⟨j, rfl, q⟩ := h
  obtain ⟨u, rfl, t, rfl⟩ := vals1 r
  refine call_range_1 ⟨.ref s.heap.objs.size, _, I.laid (a := s.heap.objs.size) (o := .rng 0 j) (fun _ _ e => Heap.get?_push_of_some _ e) (Nat.le_refl _) ⟨_, _, _, Heap.get?_push_size _ rfl⟩, rfl, q _ (I.hok.fresh (Nat.le_refl _))⟩
theorem call_list_rng (hc : X.calm = true) : CallR X (.type "list") (fun xs H Q => ∃ (r : Addr) (n : Nat), xs = [.ref r] ∧ H r = some (.rng 0 (n : Int)) ∧ n ≤ 1000 ∧ ∀ l, H l = none → Q (.ref l) (upd H l (.lst (nv (List.range n))))) := by
  intro pins s σ H xs us Q I r h
  obtain ⟨a, n, rfl, ha, hn, q⟩ := h
  obtain ⟨u, rfl, ru⟩ := vals1 r
  obtain rfl : u = Value.ref a := ru
  obtain ⟨t, u', v', e⟩ := (show ObjOk X.prog X.w H s.heap a (.rng 0 (n : Int)) from I.hok a _ ha)
  refine call_list_range (n := n) (I.ok.hd hc) (show IsRange s.heap a 0 (n : Int) 1 t u' v' from e) (small_one (by decide) (by decide) (by omega) (by omega)) (by rw [rangeSize_one]; split <;> omega) (by omega) fun h' tk acc c hk hacc hI => ?_
  refine ⟨.ref s.heap.objs.size, _, I.laid (a := s.heap.objs.size) (o := .lst (nv (List.range n))) (h' := h') (t' := tk) hk (Nat.le_refl _) ⟨?_, acc.toList, c, ?_, by simpa using hacc⟩, rfl, q _ (I.hok.fresh (Nat.le_refl _))⟩
  · rw [nv_len, List.length_range]; exact Nat.le_of_lt (small1000 hn)
  · obtain ⟨hsz, hi⟩ := hI
    have key : ∀ (m : Nat) (l : List Value), l.length = m → (∀ (j : Nat) (v : Value), l[j]? = some v → ∃ t, v = Value.int ((0 : Int) + (j : Nat) * 1) t) → Vals (nv (List.range m)) l := by
      intro m
      induction m with
      | zero => intro l hl _; rw [List.length_eq_zero_iff.mp hl]; exact .nil
      | succ m ih =>
        intro l hl hv
        have hne : l ≠ [] := by intro e; rw [e] at hl; simp at hl
        rw [← List.dropLast_concat_getLast hne, List.range_succ]
        have e1 : nv (List.range m ++ [m]) = nv (List.range m) ++ nv [m] := by simp [nv]
        rw [e1]
        refine Vals.append (ih l.dropLast (by simp [hl]) fun j v hj => ?_) (.cons ?_ .nil)
        · have hjl : j < l.dropLast.length := (List.getElem?_eq_some_iff.mp hj).1
          refine hv j v ?_
          rw [List.getElem?_dropLast] at hj
          split at hj
          · exact hj
          · cases hj
        · obtain ⟨t, e⟩ := hv m (l.getLast hne) (by rw [List.getLast_eq_getElem, ← List.getElem?_eq_getElem]; congr 1; omega)
          exact ⟨t, by rw [e]; congr 1; omega⟩
    exact key n acc.toList (by simpa using hsz) fun j v hj => hi j v (by simpa using hj)

/-- what may be sorted: a list, a tuple, the keys of a dict -/
def SortSrc (K : PySem.W.Frag) (H : Hp) (p : Addr) (r : List Nat) : Prop := SqL K H p (nv r) ∨ SqT K H p (nv r) ∨ ∃ kvs, H p = some (.dK kvs) ∧ kvs.map (·.1) = r.map fun (n : Nat) => Sum.inl (n : Int)
theorem ints_nv : ∀ {r : List Nat} {us : List Value}, Vals (nv r) us → IntsAre us (r.map fun (n : Nat) => (n : Int)) := fun {r us} h => intsAre_of (by rw [List.map_map]; exact h)
theorem nats_of {ms : List Int} {r : List Nat} (p : ms.Perm (r.map fun (n : Nat) => (n : Int))) (so : ms.Pairwise (· ≤ ·)) : ∃ S : List Nat, ms = S.map (fun (n : Nat) => (n : Int)) ∧ S.Perm r ∧ S.Pairwise (· ≤ ·) := by
  have hn : ∀ m ∈ ms, 0 ≤ m := fun m hm => by
    obtain ⟨n, _, rfl⟩ := List.mem_map.mp (p.mem_iff.mp hm)
    exact Int.natCast_nonneg n
  have e : ms = (ms.map Int.toNat).map fun (n : Nat) => (n : Int) := by
    rw [List.map_map]
    conv => lhs; rw [← List.map_id ms]
    exact List.map_congr_left fun m hm => by simp [Int.toNat_of_nonneg (hn m hm)]
  refine ⟨ms.map Int.toNat, e, ?_, ?_⟩
  · have := p.map Int.toNat
    rw [List.map_map] at this
    have e2 : r.map (Int.toNat ∘ fun (n : Nat) => (n : Int)) = r := by
      conv => rhs; rw [← List.map_id r]
      exact List.map_congr_left fun m _ => by simp
    rw [e2] at this; exact this
  · exact List.pairwise_map.mpr (so.imp_of_mem fun ha hb h => by have := hn _ ha; have := hn _ hb; omega)
theorem vals_of_ints {us : List Value} {S : List Nat} (h : IntsAre us (S.map fun (n : Nat) => (n : Int))) : Vals (nv S) us := by
  have := vals_ints h
  rw [List.map_map] at this
  exact this
def rSorted (K : PySem.W.Frag) : List V → Hp → VK → Prop := fun xs H Q => ∃ (p : Addr) (r : List Nat), xs = [.ref p] ∧ SortSrc K H p r ∧ r.length < 64 ∧ ∀ l S, H l = none → S.Perm r → S.Pairwise (· ≤ ·) → Q (.ref l) (upd H l (.lst (nv S)))
theorem call_sorted (hc : X.calm = true) : CallR X (.builtin "sorted") (rSorted X.K) := by
  intro pins s σ H xs us Q I rr h
  obtain ⟨p, r, rfl, src, h64, q⟩ := h
  obtain ⟨u, rfl, ru⟩ := vals1 rr
  obtain rfl : u = Value.ref p := ru
  have hh := I.ok.hd hc
  have fin : ∀ (vs : List Value), IntsAre vs (r.map fun (n : Nat) => (n : Int)) →
      (∀ (A : Around) (R : List Value → Shared → Prop), A.handled = none → (∀ vs ns' h' tk, IntsAre vs ns' → ns' = (r.map fun (n : Nat) => (n : Int)) → (∀ b o, s.heap.get? b = some o → h'.get? b = some o) → R vs { s with heap := h', toks := tk }) → wpAny (model X.prog X.w) A (collect (.ref p)) R X.xe s) →
      wpAny (model X.prog X.w) X.A (call (.builtin "sorted") [.ref p]) (EP X pins σ Q) X.xe s := by
    intro vs hI hcol
    refine sorted_by hI (by rw [hI.length, List.length_map]; exact h64) hcol hh fun h1 h2 tk e out ns' a1 a2 a3 hk ho hk2 => ?_
    obtain ⟨S, rfl, pS, sS⟩ := nats_of a2 a3
    have I1 : Inv X pins σ H { s with heap := h1, toks := tk } := I.kept hk
    have hlen : S.length < 64 := by rw [pS.length_eq]; exact h64
    refine ⟨.ref h1.objs.size, _, I1.laid (a := h1.objs.size) (o := .lst (nv S)) (h' := h2) (t' := tk) hk2 (Nat.le_refl _) ⟨?_, out.toList, e, vals_of_ints a1, by simpa using ho⟩, rfl, q _ S (I1.hok.fresh (Nat.le_refl _)) pS sS⟩
    rw [nv_len]; exact Nat.le_of_lt (small1000 (by omega))
  rcases src with hq | hq | ⟨kvs, hd, hkeys⟩
  · obtain ⟨its, rv, pl, hz⟩ := I.list hq
    refine fin its (ints_nv rv) fun A R hA hR => ?_
    refine collect_list pl.isList (hR its _ _ s.toks (ints_nv rv) rfl fun b o e => ?_) (by rw [← rv.length]; exact hz)
    exact (Heap.get?_update_other _ _ (Nat.ne_of_gt (Heap.lt_size e))).trans (Heap.get?_push_of_some _ e)
  · obtain ⟨its, rv, pl, hz⟩ := I.tuple hq
    refine fin its (ints_nv rv) fun A R hA hR => ?_
    exact collect_tup (show s.heap.IsTuple p its.toArray from pl) (by rw [← rv.length]; exact hz) fun h' hk => hR its _ _ s.toks (ints_nv rv) rfl hk
  · obtain ⟨z, hs, vs, rv, dd⟩ := dk_of I.hok hd
    obtain ⟨ep, da⟩ := dd.dictAt
    have hks : vs.map (·.1) = r.map fun (n : Nat) => Sum.inl (n : Int) := by rw [← rv.keys]; exact hkeys
    have key : ∀ (l : List Value), l.length = vs.length → (∀ (j : Nat) (v : Value), l[j]? = some v → ∃ k x, vs[j]? = some (k, x) ∧ (mixKind X.prog X.w).is k v = true) → IntsAre l (r.map fun (n : Nat) => (n : Int)) := by
      intro l hl hj
      refine ints_nv ?_
      have hlr : l.length = r.length := by rw [hl]; simpa using congrArg List.length hks
      have : ∀ (r' : List Nat) (l' : List Value), l'.length = r'.length → (∀ (j : Nat) (v : Value), l'[j]? = some v → ∃ n, r'[j]? = some n ∧ ∃ t, v = Value.int (n : Int) t) → Vals (nv r') l' := by
        intro r'
        induction r' with
        | nil => intro l' hl _; rw [List.length_eq_zero_iff.mp hl]; exact .nil
        | cons n r' ih =>
          intro l' hl hj
          cases l' with
          | nil => simp at hl
          | cons v l' =>
            obtain ⟨m, em, t, ev⟩ := hj 0 v rfl
            simp at em
            subst em
            exact .cons ⟨t, ev⟩ (ih l' (by simpa using hl) fun j v hv => by simpa using hj (j + 1) v (by simpa using hv))
      refine this r l hlr fun j v hv => ?_
      obtain ⟨k, x, e1, e2⟩ := hj j v hv
      have e3 : (r.map fun (n : Nat) => (Sum.inl (n : Int) : Key))[j]? = some k := by rw [← hks, List.getElem?_map, e1]; rfl
      rw [List.getElem?_map] at e3
      cases en : r[j]? with
      | none => rw [en] at e3; cases e3
      | some n =>
        rw [en] at e3
        have e4 : (Sum.inl (n : Int) : Key) = k := Option.some.inj e3
        subst e4
        obtain ⟨t, et⟩ := (show ∃ t, v = Value.int (n : Int) t from rel_of_kind e2)
        exact ⟨n, rfl, t, et⟩
    obtain ⟨l0, hl0, hj0⟩ : ∃ l : List Value, l.length = vs.length ∧ ∀ (j : Nat) (v : Value), l[j]? = some v → ∃ k x, vs[j]? = some (k, x) ∧ (mixKind X.prog X.w).is k v = true := by
      refine ⟨vs.map fun kv => match kv.1 with | Sum.inl i => Value.int i 0 | Sum.inr x => Value.str x 0, by simp, fun j v hv => ?_⟩
      rw [List.getElem?_map] at hv
      cases e : vs[j]? with
      | none => rw [e] at hv; cases hv
      | some kv =>
        rw [e] at hv
        obtain ⟨k, x⟩ := kv
        refine ⟨k, x, rfl, ?_⟩
        cases k with
        | inl i => cases hv; exact mixKind_int _ _ i 0
        | inr x => cases hv; exact mixKind_str _ _ x 0
    refine fin l0 (key l0 hl0 hj0) fun A R hA hR => ?_
    refine PySem.W.kdu_collect (PySem.W.kdl_dict (knd := mixKind X.prog X.w) (kvs := vs) (ep := ep) hs) hA da (by rw [← rv.length]; exact z) fun h' tk acc hk hacc => ?_
    exact hR acc.toList _ h' tk (key acc.toList (by simpa using hacc.1) fun j v hv => hacc.2 j v (by simpa using hv)) rfl hk

/-- set(row): a set of so many numbers -/
def dcount (r : List Nat) : Nat := (firstMet (fun i => (r.map fun (n : Nat) => (n : Int)).getD i 0) r.length).length
def rSet (K : PySem.W.Frag) : List V → Hp → VK → Prop := fun xs H Q => ∃ (p : Addr) (r : List Nat), xs = [.ref p] ∧ (SqL K H p (nv r) ∨ SqT K H p (nv r)) ∧ r.length ≤ 1000 ∧ ∀ d S, H d = none → Q (.ref d) (upd H d (.set S (dcount r)))
theorem call_set (hc : X.calm = true) : CallR X (.type "set") (rSet X.K) := by
  intro pins s σ H xs us Q I rr h
  obtain ⟨p, r, rfl, src, hl, q⟩ := h
  obtain ⟨u, rfl, ru⟩ := vals1 rr
  obtain rfl : u = Value.ref p := ru
  have hh := I.ok.hd hc
  have fin : ∀ {its : List Value} {h' : Heap} {tk : Nat}, its.length = r.length → h'.SetOf (intKind X.prog X.w) s.heap.objs.size (fun k' => (firstMet (fun i => (r.map fun (n : Nat) => (n : Int)).getD i 0) its.toArray.size).any (· == k')) (firstMet (fun i => (r.map fun (n : Nat) => (n : Int)).getD i 0) its.toArray.size).length →
      (∀ b o, b < s.heap.objs.size → s.heap.get? b = some o → h'.get? b = some o) → EP X pins σ Q (.ref s.heap.objs.size) { s with heap := h', toks := tk } := by
    intro its h' tk hlen hS hk
    have e : its.toArray.size = r.length := by simpa using hlen
    rw [e] at hS
    exact ⟨.ref s.heap.objs.size, _, I.laid (a := s.heap.objs.size) (o := .set _ (dcount r)) (fun b o z => hk b o (Heap.lt_size z) z) (Nat.le_refl _) hS, rfl, q _ _ (I.hok.fresh (Nat.le_refl _))⟩
  rcases src with hq | hq
  · obtain ⟨its, rv, pl, hz⟩ := I.list hq
    have hlen : its.length = r.length := by rw [← rv.length, nv_len]
    exact call_set_list hh pl.isList (by simpa using ints_nv rv) (by unfold scanBound; simp; omega) fun h' tk hS hk => fin hlen hS hk
  · obtain ⟨its, rv, pl, hz⟩ := I.tuple hq
    have hlen : its.length = r.length := by rw [← rv.length, nv_len]
    refine call_set_tup hh (show s.heap.IsTuple p its.toArray from pl) (by simpa using ints_nv rv) (by unfold scanBound; simp; omega) fun s' hs' => ?_
    obtain ⟨h', tk, rfl, hS, hk⟩ := hs'
    exact fin hlen hS hk
theorem dcount_nd {r : List Nat} (h : r.Nodup) : dcount r = r.length := by
  unfold dcount
  have key : ∀ n, n ≤ r.length → firstMet (fun i => (r.map fun (n : Nat) => (n : Int)).getD i 0) n = (r.take n).map fun (n : Nat) => (n : Int) := by
    intro n
    induction n with
    | zero => intro _; rfl
    | succ n ih =>
      intro hn
      have hlt : n < r.length := hn
      rw [firstMet_succ, ih (by omega), List.take_add_one, List.getElem?_eq_getElem hlt]
      have e : (r.map fun (n : Nat) => (n : Int)).getD n 0 = (r[n] : Int) := by simp [List.getD_eq_getElem?_getD, hlt]
      rw [e]
      unfold step_dedup
      rw [if_neg]
      · rw [List.map_append]; rfl
      · intro hc
        have hmem : r[n] ∈ r.take n := by
          rw [List.any_eq_true] at hc
          obtain ⟨z, hz, ez⟩ := hc
          obtain ⟨m, hm, rfl⟩ := List.mem_map.mp hz
          have : m = r[n] := by have := beq_iff_eq.mp ez; omega
          rw [← this]; exact hm
        obtain ⟨i, hi, ei⟩ := List.mem_iff_getElem.mp hmem
        have hi' : i < n := by simp at hi; omega
        have : r[i] = r[n] := by rw [← ei]; simp
        have hp := List.pairwise_iff_getElem.mp h i n (by omega) hlt hi'
        exact hp this
  rw [key r.length (Nat.le_refl _)]
  simp
theorem call_len_set' : CallR X (.builtin "len") (fun xs H Q => ∃ (p : Addr) (S : Int → Bool) (n : Nat), xs = [.ref p] ∧ H p = some (.set S n) ∧ Q (.int (n : Int)) H) := by
  intro pins s σ H xs us Q I r h
  obtain ⟨p, S, n, rfl, hp, q⟩ := h
  obtain ⟨u, rfl, ru⟩ := vals1 r
  obtain rfl : u = Value.ref p := ru
  obtain ⟨o, es, ep, t, h1, h2, h3, h4, h5, h6, h7, h8⟩ := (show ObjOk X.prog X.w H s.heap p (.set S n) from I.hok p _ hp)
  refine call_len_set h1 h2 h3 h7 (by unfold scanBound at h6; omega) ⟨.int (n : Int), H, I.tok _, ⟨_, by rw [h8]⟩, q⟩

/-- a, b = a list of two -/
def gLst2 (K : PySem.W.Frag) (t : TGs) : TG := fun v σ H Q => ∃ a x y, v = .ref a ∧ SqL K H a [x, y] ∧ t [x, y] σ H Q
theorem pg_lst2 {es : List Expr} {k : Nat} {pos : Pos} {t : TGs} (hc : X.calm = true) (h : PGs X es t)
    (hn : (assignEach es X.env).length = 2 := by rfl) (hst : (assignEach es X.env).findIdx? (·.1) = none := by rfl) : PG X (.Tuple es k pos) (gLst2 X.K t) := by
  intro pins s σ H v u Q I r hw
  obtain ⟨a, x, y, rfl, hq, hw⟩ := hw
  obtain rfl : u = Value.ref a := r
  obtain ⟨its, rv, pl, hz⟩ := I.list hq
  obtain ⟨v1, v2, rfl, r1, r2⟩ := vals2 rv
  rw [assign_Tuple]
  refine wpAny_bind (wpAny_standAt (unpack_two (I.ok.hd hc) pl.isList hn hst fun h' hk => ?_))
  exact h pins _ σ H [x, y] _ Q (I.kept (t' := s.toks) hk) (.cons r1 (.cons r2 .nil)) hw
end
end L2
namespace L2
open PySem PySem.Spec PyProof.Rows
/-- for i, x in enumerate(xs), xs left as it is -/
theorem for_en {sq : Hp → List V → Prop} {xs : List V} {g : TG} {tb : TS} {D : Ends} {σ : St} {H : Hp} (Pv : Nat → St → Hp → Prop) (h0 : Pv 0 σ H) (hl : ∀ i σ H, i ≤ xs.length → Pv i σ H → sq H xs)
    (hs : ∀ i x σ H T, xs[i]? = some x → H T = none → Pv i σ H → g (.ref T) σ (upd H T (tupE T [.int (i : Int), x])) fun σ2 H2 => tb { D with nx := Pv (i + 1), ct := Pv (i + 1), bk := D.nx } σ2 H2) (hd : ∀ σ H, Pv xs.length σ H → D.nx σ H) :
    ∃ W : Nat → Nat → St → Hp → Prop, (∃ m, W 0 m σ H) ∧ ∀ i m σ H, W i m σ H →
      ((Iten sq).stop i H ∧ D.nx σ H) ∨ ((Iten sq).go i H ∧ ∃ N : St → Hp → Prop, (∀ σ' H', N σ' H' → ∃ m', m' < m ∧ W (i + 1) m' σ' H') ∧ ∀ x H', (Iten sq).yld i H x H' → g x σ H' fun σ2 H2 => tb { D with nx := N, ct := N, bk := D.nx } σ2 H2) := by
  refine ⟨fun i m σ H => m = xs.length - i ∧ i ≤ xs.length ∧ Pv i σ H, ⟨xs.length, by simp, Nat.zero_le _, h0⟩, ?_⟩
  rintro i m σ H ⟨rfl, hi, p⟩
  have q := hl i σ H hi p
  by_cases hlt : i < xs.length
  · refine .inr ⟨⟨xs, xs[i], q, by simp [hlt]⟩, Pv (i + 1), fun σ' H' p' => ⟨xs.length - (i + 1), by omega, rfl, hlt, p'⟩, fun x H' y => ?_⟩
    obtain ⟨T, z, hT, rfl, hz, rfl⟩ := y
    exact hs i z σ H T (hz xs q) hT p
  · have e : i = xs.length := by omega
    subst e
    exact .inl ⟨⟨xs, q, rfl⟩, hd σ H p⟩
/-- for k, v in d.items() -/
theorem for_items {a : Addr} {kvs : List (Key × V)} {o : Obj} {g : TG} {tb : TS} {D : Ends} {σ : St} {H : Hp} (Pv : Nat → St → Hp → Prop) (h0 : Pv 0 σ H) (hl : ∀ i σ H, i ≤ kvs.length → Pv i σ H → H a = some (.frz o (.dK kvs)))
    (hs : ∀ i k v σ H T, kvs[i]? = some (k, v) → H T = none → Pv i σ H → g (.ref T) σ (upd H T (.tup [kV k, v])) fun σ2 H2 => tb { D with nx := Pv (i + 1), ct := Pv (i + 1), bk := D.nx } σ2 H2) (hd : ∀ σ H, Pv kvs.length σ H → D.nx σ H) :
    ∃ W : Nat → Nat → St → Hp → Prop, (∃ m, W 0 m σ H) ∧ ∀ i m σ H, W i m σ H →
      ((Itd a kvs o).stop i H ∧ D.nx σ H) ∨ ((Itd a kvs o).go i H ∧ ∃ N : St → Hp → Prop, (∀ σ' H', N σ' H' → ∃ m', m' < m ∧ W (i + 1) m' σ' H') ∧ ∀ x H', (Itd a kvs o).yld i H x H' → g x σ H' fun σ2 H2 => tb { D with nx := N, ct := N, bk := D.nx } σ2 H2) := by
  refine ⟨fun i m σ H => m = kvs.length - i ∧ i ≤ kvs.length ∧ Pv i σ H, ⟨kvs.length, by simp, Nat.zero_le _, h0⟩, ?_⟩
  rintro i m σ H ⟨rfl, hi, p⟩
  have q := hl i σ H hi p
  by_cases hlt : i < kvs.length
  · refine .inr ⟨⟨q, kvs[i], by simp [hlt]⟩, Pv (i + 1), fun σ' H' p' => ⟨kvs.length - (i + 1), by omega, rfl, hlt, p'⟩, fun x H' y => ?_⟩
    obtain ⟨T, k, v, hT, rfl, hz, rfl⟩ := y
    exact hs i k v σ H T hz hT p
  · have e : i = kvs.length := by omega
    subst e
    exact .inl ⟨⟨q, Nat.le_refl _⟩, hd σ H p⟩
/-- behind an element of a comprehension: n in all, ys the list that comes -/
def CPost (n : Nat) (ys : List V) (Pv : Nat → St → Hp → Prop) (d : Addr) (i : Nat) (σ3 : St) (y : V) (H4 : Hp) : Prop :=
  ∃ xs, H4 d = some (.lst xs) ∧ xs.length < sizeLine ∧ ∃ m', m' < n - i ∧ m' = n - (i + 1) ∧ i + 1 ≤ n ∧ Pv (i + 1) σ3 (upd H4 d (.lst (xs ++ [y]))) ∧ (upd H4 d (.lst (xs ++ [y]))) d = some (.lst (ys.take (i + 1)))
theorem cpost {n : Nat} {ys : List V} {Pv : Nat → St → Hp → Prop} {d : Addr} {i : Nat} {σ3 : St} {y : V} {H4 : Hp} (hi : i < n) (hn : n ≤ 1000) (hd : H4 d = some (.lst (ys.take i))) (hy : ys[i]? = some y) (hp : Pv (i + 1) σ3 (upd H4 d (.lst (ys.take (i + 1))))) :
    CPost n ys Pv d i σ3 y H4 := by
  have e : ys.take (i + 1) = ys.take i ++ [y] := by rw [List.take_add_one, hy]; rfl
  refine ⟨_, hd, ?_, n - (i + 1), by omega, rfl, hi, by rw [← e]; exact hp, by rw [upd_same, e]⟩
  have : (ys.take i).length ≤ i := by rw [List.length_take]; exact Nat.min_le_left _ _
  exact small1000 (by omega)
theorem comp_by {J : It} {g : TG} {te : TE} {d : Addr} {σ0 : St} {H1 : Hp} {Q : Addr → Hp → Prop} (n : Nat) (ys : List V) (hy : ys.length = n) (Pv : Nat → St → Hp → Prop) (h0 : Pv 0 σ0 (upd H1 d (.lst [])))
    (go : ∀ i σ H, i < n → Pv i σ H → H d = some (.lst (ys.take i)) → J.go i H ∧ ∀ x H2, J.yld i H x H2 → g x σ H2 fun σ3 H3 => te σ3 H3 fun y H4 => CPost n ys Pv d i σ3 y H4)
    (stop : ∀ σ H, Pv n σ H → H d = some (.lst ys) → J.stop n H ∧ Q d H) :
    ∃ W : Nat → Nat → St → Hp → Prop, (∃ m, W 0 m σ0 (upd H1 d (.lst []))) ∧ ∀ i m σ' H', W i m σ' H' →
      (J.stop i H' ∧ Q d H') ∨ (J.go i H' ∧ ∀ x H2, J.yld i H' x H2 → g x σ' H2 fun σ3 H3 => te σ3 H3 fun y H4 => ∃ xs, H4 d = some (.lst xs) ∧ xs.length < sizeLine ∧ ∃ m', m' < m ∧ W (i + 1) m' σ3 (upd H4 d (.lst (xs ++ [y])))) := by
  refine ⟨fun i m σ H => m = n - i ∧ i ≤ n ∧ Pv i σ H ∧ H d = some (.lst (ys.take i)), ⟨n, by simp, Nat.zero_le _, h0, upd_same⟩, ?_⟩
  rintro i m σ H ⟨rfl, hi, p, hd⟩
  by_cases hlt : i < n
  · exact .inr (go i σ H hlt p hd)
  · have e : i = n := by omega
    subst e
    rw [List.take_of_length_le (by omega)] at hd
    exact .inl (stop σ H p hd)
end L2
namespace Sq

theorem sub_len {α : Type} [DecidableEq α] : ∀ (l l' : List α), l.Nodup → (∀ x ∈ l, x ∈ l') → l.length ≤ l'.length
  | [], _, _, _ => Nat.zero_le _
  | a :: l, l', nd, h => by
    have nd' := List.nodup_cons.mp nd
    have ha : a ∈ l' := h a List.mem_cons_self
    have := sub_len l (l'.erase a) nd'.2 fun x hx => by
      have hne : x ≠ a := fun e => nd'.1 (e ▸ hx)
      exact (List.mem_erase_of_ne hne).mpr (h x (List.mem_cons_of_mem _ hx))
    rw [List.length_erase_of_mem ha] at this
    have := List.length_pos_of_mem ha
    simp only [List.length_cons]; omega

theorem full {α : Type} [DecidableEq α] {l l' : List α} (nd : l.Nodup) (h : ∀ x ∈ l, x ∈ l') (hl : l'.length ≤ l.length) : ∀ x ∈ l', x ∈ l := fun x hx => by
  refine Classical.byContradiction fun hn => ?_
  have h1 : (x :: l).Nodup := List.nodup_cons.mpr ⟨hn, nd⟩
  have h2 := sub_len (x :: l) l' h1 fun y hy => by
    rcases List.mem_cons.mp hy with rfl | hy
    · exact hx
    · exact h y hy
  simp only [List.length_cons] at h2; omega

theorem nd_inj {α : Type} {l : List α} (nd : l.Nodup) {i j : Nat} (hi : i < l.length) (hj : j < l.length) (e : l[i] = l[j]) : i = j := by
  have h := List.pairwise_iff_getElem.mp nd
  rcases Nat.lt_trichotomy i j with c | c | c
  · exact absurd e (h i j hi hj c)
  · exact c
  · exact absurd e.symm (h j i hj hi c)

/-- a row of n squares: each stands once -/
structure Row (n : Nat) (r : List Nat) : Prop where
  len : r.length = n
  nd : r.Nodup
  lt : ∀ x ∈ r, x < n

abbrev nx (r : List Nat) (x : Nat) : Nat := r.getD x 0

section
variable {n : Nat} {r : List Nat}
theorem Row.get (h : Row n r) {i : Nat} (hi : i < n) : r[i]? = some (nx r i) := by
  have : i < r.length := by rw [h.len]; exact hi
  simp [nx, List.getD, List.getElem?_eq_getElem this]
theorem Row.mem (h : Row n r) {i : Nat} (hi : i < n) : nx r i ∈ r := List.mem_of_getElem? (h.get hi)
theorem Row.nlt (h : Row n r) {i : Nat} (hi : i < n) : nx r i < n := h.lt _ (h.mem hi)
theorem Row.has (h : Row n r) {x : Nat} (hx : x < n) : x ∈ r := by
  refine full h.nd (l' := List.range n) (fun y hy => List.mem_range.mpr (h.lt y hy)) (by simp [h.len]) x (List.mem_range.mpr hx)
theorem Row.inj (h : Row n r) {i j : Nat} (hi : i < n) (hj : j < n) (e : nx r i = nx r j) : i = j := by
  have h1 : i < r.length := by rw [h.len]; exact hi
  have h2 : j < r.length := by rw [h.len]; exact hj
  have e' : r[i] = r[j] := by simpa [nx, List.getD, List.getElem?_eq_getElem h1, List.getElem?_eq_getElem h2] using e
  exact nd_inj h.nd h1 h2 e'
theorem Row.idx_lt (h : Row n r) {x : Nat} (hx : x < n) : r.idxOf x < n := by
  have := List.idxOf_lt_length_of_mem (h.has hx)
  rwa [h.len] at this
theorem Row.nx_idx (h : Row n r) {x : Nat} (hx : x < n) : nx r (r.idxOf x) = x := by
  have h1 := List.idxOf_lt_length_of_mem (h.has hx)
  simp [nx, List.getD, List.getElem?_eq_getElem h1]
theorem Row.of_perm {l : List Nat} (p : l.Perm (List.range n)) : Row n l where
  len := by simpa using p.length_eq
  nd := p.nodup_iff.mpr List.nodup_range
  lt := fun x hx => List.mem_range.mp (p.mem_iff.mp hx)
theorem Row.perm (h : Row n r) : r.Perm (List.range n) := by
  refine (List.perm_ext_iff_of_nodup h.nd List.nodup_range).mpr fun x => ⟨fun hx => List.mem_range.mpr (h.lt x hx), fun hx => h.has (List.mem_range.mp hx)⟩
end

/-- the row turned round -/
def back (r : List Nat) : List Nat := (List.range r.length).map fun x => r.idxOf x
theorem back_len (r : List Nat) : (back r).length = r.length := by simp [back]
theorem back_nx {n : Nat} {r : List Nat} (h : Row n r) {x : Nat} (hx : x < n) : nx (back r) x = r.idxOf x := by
  have : x < r.length := by rw [h.len]; exact hx
  simp [nx, back, List.getD, this]
theorem Row.back {n : Nat} {r : List Nat} (h : Row n r) : Row n (back r) where
  len := by rw [back_len, h.len]
  nd := by
    refine List.pairwise_map.mpr (List.Pairwise.imp_of_mem (fun {a b} ha hb hne e => hne ?_) (List.nodup_range (n := r.length)))
    rw [h.len] at ha hb
    have ha := List.mem_range.mp ha
    have hb := List.mem_range.mp hb
    rw [← h.nx_idx ha, e, h.nx_idx hb]
  lt := fun x hx => by
    obtain ⟨y, hy, rfl⟩ := List.mem_map.mp hx
    rw [h.len] at hy
    exact h.idx_lt (List.mem_range.mp hy)

/-- a set of squares that right and up do not leave -/
def Shut (n : Nat) (r u : List Nat) (T : Nat → Prop) : Prop := ∀ x, x < n → T x → T (nx r x) ∧ T (nx u x)

/-- a sheet -/
structure Sheet (n : Nat) (r u : List Nat) : Prop where
  pos : 1 ≤ n
  most : n ≤ 36
  row : Row n r
  col : Row n u
  conn : ∀ T : Nat → Prop, T 0 → Shut n r u T → ∀ x, x < n → T x

theorem pop_perm {n : Nat} {line left : List Nat} {k : Nat} {y : Nat} (p : (line ++ left).Perm (List.range n)) (e : left[k]? = some y) :
    ((line ++ [y]) ++ left.eraseIdx k).Perm (List.range n) := by
  refine List.Perm.trans ?_ p
  rw [List.append_assoc]
  refine List.Perm.append_left _ ?_
  have hk : k < left.length := (List.getElem?_eq_some_iff.mp e).1
  have hy : left[k] = y := (List.getElem?_eq_some_iff.mp e).2
  have h1 : left = left.take k ++ left[k] :: left.drop (k + 1) := by
    rw [← List.drop_eq_getElem_cons hk, List.take_append_drop]
  rw [List.eraseIdx_eq_take_drop_succ]
  conv => rhs; rw [h1, hy]
  exact (List.perm_middle (a := y) (l₁ := left.take k) (l₂ := left.drop (k + 1))).symm

structure Met (n : Nat) (r u : List Nat) (first : Nat) (M : List Nat) (k : Nat) : Prop where
  nd : M.Nodup
  hd : first ∈ M
  lt : ∀ x ∈ M, x < n
  kle : k ≤ M.length
  shut : ∀ i x, i < k → M[i]? = some x → nx r x ∈ M ∧ nx u x ∈ M
  least : ∀ T : Nat → Prop, T first → Shut n r u T → ∀ x ∈ M, T x
theorem Met.len {n : Nat} {r u : List Nat} {first : Nat} {M : List Nat} {k : Nat} (h : Met n r u first M k) : M.length ≤ n := by
  have := sub_len M (List.range n) h.nd fun x hx => List.mem_range.mpr (h.lt x hx)
  simpa using this
theorem Met.start {n : Nat} {r u : List Nat} {first : Nat} (h : first < n) : Met n r u first [first] 0 where
  nd := by simp
  hd := by simp
  lt := fun x hx => by rw [List.mem_singleton.mp hx]; exact h
  kle := Nat.zero_le _
  shut := fun i x hi => absurd hi (Nat.not_lt_zero _)
  least := fun T h0 _ x hx => by rw [List.mem_singleton.mp hx]; exact h0
/-- put at the end where it is not there yet -/
def put (M : List Nat) (y : Nat) : List Nat := if y ∈ M then M else M ++ [y]
theorem mem_put {M : List Nat} {y x : Nat} : x ∈ put M y ↔ x ∈ M ∨ x = y := by
  unfold put; split
  · rename_i h; exact ⟨.inl, fun q => q.elim id fun e => e ▸ h⟩
  · simp
theorem put_get {M : List Nat} {y x : Nat} {i : Nat} (h : M[i]? = some x) : (put M y)[i]? = some x := by
  unfold put; split
  · exact h
  · rw [List.getElem?_append_left (List.getElem?_eq_some_iff.mp h).1]; exact h
theorem put_len {M : List Nat} {y : Nat} : M.length ≤ (put M y).length := by
  unfold put; split <;> simp
theorem put_nd {M : List Nat} {y : Nat} (h : M.Nodup) : (put M y).Nodup := by
  unfold put; split
  · exact h
  · rename_i hy; exact List.nodup_append.mpr ⟨h, by simp, fun a ha b hb e => hy (by rw [List.mem_singleton.mp hb] at e; exact e ▸ ha)⟩
theorem Met.step {n : Nat} {r u : List Nat} {first : Nat} {M : List Nat} {k x : Nat} (h : Met n r u first M k) (hr : Row n r) (hu : Row n u) (hx : M[k]? = some x) :
    Met n r u first (put (put M (nx r x)) (nx u x)) (k + 1) where
  nd := put_nd (put_nd h.nd)
  hd := mem_put.mpr (.inl (mem_put.mpr (.inl h.hd)))
  lt := fun y hy => by
    have hxn := h.lt x (List.mem_of_getElem? hx)
    rcases mem_put.mp hy with hy | rfl
    · rcases mem_put.mp hy with hy | rfl
      · exact h.lt y hy
      · exact hr.nlt hxn
    · exact hu.nlt hxn
  kle := by
    have := (List.getElem?_eq_some_iff.mp hx).1
    have h1 := put_len (M := M) (y := nx r x)
    have h2 := put_len (M := put M (nx r x)) (y := nx u x)
    omega
  shut := fun i y hi hy => by
    have hk := (List.getElem?_eq_some_iff.mp hx).1
    have hi' : i < M.length := by omega
    have e : M[i]? = some M[i] := List.getElem?_eq_getElem hi'
    have e2 := put_get (y := nx u x) (put_get (y := nx r x) e)
    rw [hy] at e2
    have e3 : y = M[i] := Option.some.inj e2
    rw [← e3] at e
    rcases Nat.lt_or_ge i k with hlt | hge
    · obtain ⟨a, b⟩ := h.shut i y hlt e
      exact ⟨mem_put.mpr (.inl (mem_put.mpr (.inl a))), mem_put.mpr (.inl (mem_put.mpr (.inl b)))⟩
    · have : i = k := by omega
      subst this
      rw [hx] at e
      cases e
      exact ⟨mem_put.mpr (.inl (mem_put.mpr (.inr rfl))), mem_put.mpr (.inr rfl)⟩
  least := fun T h0 hs y hy => by
    have hxM := List.mem_of_getElem? hx
    have hxn := h.lt x hxM
    have hT := h.least T h0 hs x hxM
    rcases mem_put.mp hy with hy | rfl
    · rcases mem_put.mp hy with hy | rfl
      · exact h.least T h0 hs y hy
      · exact (hs x hxn hT).1
    · exact (hs x hxn hT).2
/-- all that is met -/
structure MetAll (n : Nat) (r u : List Nat) (first : Nat) (M : List Nat) : Prop where
  nd : M.Nodup
  hd : first ∈ M
  lt : ∀ x ∈ M, x < n
  shut : ∀ x ∈ M, nx r x ∈ M ∧ nx u x ∈ M
  least : ∀ T : Nat → Prop, T first → Shut n r u T → ∀ x ∈ M, T x
theorem Met.all {n : Nat} {r u : List Nat} {first : Nat} {M : List Nat} {k : Nat} (h : Met n r u first M k) (hk : M.length ≤ k) : MetAll n r u first M where
  nd := h.nd
  hd := h.hd
  lt := h.lt
  shut := fun x hx => by
    obtain ⟨i, hi, e⟩ := List.mem_iff_getElem.mp hx
    exact h.shut i x (by omega) (by rw [List.getElem?_eq_getElem hi, e])
  least := h.least
theorem MetAll.perm {n : Nat} {r u : List Nat} {first : Nat} {M S : List Nat} (h : MetAll n r u first M) (p : S.Perm M) : MetAll n r u first S where
  nd := p.nodup_iff.mpr h.nd
  hd := p.mem_iff.mpr h.hd
  lt := fun x hx => h.lt x (p.mem_iff.mp hx)
  shut := fun x hx => ⟨p.mem_iff.mpr (h.shut x (p.mem_iff.mp hx)).1, p.mem_iff.mpr (h.shut x (p.mem_iff.mp hx)).2⟩
  least := fun T h0 hs x hx => h.least T h0 hs x (p.mem_iff.mp hx)
theorem MetAll.full {n : Nat} {r u : List Nat} {M : List Nat} (s : Sheet n r u) (h : MetAll n r u 0 M) : Row n M := by
  have all : ∀ x, x < n → x ∈ M := s.conn (fun x => x ∈ M) h.hd fun x _ hx => h.shut x hx
  have l1 := sub_len M (List.range n) h.nd fun x hx => List.mem_range.mpr (h.lt x hx)
  have l2 := sub_len (List.range n) M List.nodup_range fun x hx => all x (List.mem_range.mp hx)
  simp only [List.length_range] at l1 l2
  exact ⟨by omega, h.nd, h.lt⟩

def among (r S : List Nat) : List Nat := S.map fun x => S.idxOf (nx r x)
theorem among_len (r S : List Nat) : (among r S).length = S.length := by simp [among]
theorem among_nx {r S : List Nat} {i : Nat} {x : Nat} (h : S[i]? = some x) : nx (among r S) i = S.idxOf (nx r x) := by
  simp [nx, among, List.getD, h]
theorem idx_get {S : List Nat} (nd : S.Nodup) {i x : Nat} (h : S[i]? = some x) : S.idxOf x = i := by
  obtain ⟨hi, e⟩ := List.getElem?_eq_some_iff.mp h
  have hm : x ∈ S := List.mem_of_getElem? h
  have h1 := List.idxOf_lt_length_of_mem hm
  have e1 : S[S.idxOf x] = x := List.getElem_idxOf h1
  exact nd_inj nd h1 hi (e1.trans e.symm)
theorem get_idx {S : List Nat} {x : Nat} (h : x ∈ S) : S[S.idxOf x]? = some x := by
  have h1 := List.idxOf_lt_length_of_mem h
  rw [List.getElem?_eq_getElem h1, List.getElem_idxOf h1]
theorem among_row {n : Nat} {r S : List Nat} (hr : Row n r) (nd : S.Nodup) (lt : ∀ x ∈ S, x < n) (cl : ∀ x ∈ S, nx r x ∈ S) : Row S.length (among r S) where
  len := among_len r S
  nd := by
    refine List.pairwise_map.mpr (List.Pairwise.imp_of_mem (fun {a b} ha hb hne e => hne ?_) nd)
    have h1 := get_idx (cl a ha)
    rw [e, get_idx (cl b hb)] at h1
    exact hr.inj (lt a ha) (lt b hb) (Option.some.inj h1).symm
  lt := fun x hx => by
    obtain ⟨y, hy, rfl⟩ := List.mem_map.mp hx
    exact List.idxOf_lt_length_of_mem (cl y hy)
theorem among_sheet {n : Nat} {r u S : List Nat} (hn : n ≤ 36) (hr : Row n r) (hu : Row n u) (h : MetAll n r u 0 S) (so : S.Pairwise (· ≤ ·)) : Sheet S.length (among r S) (among u S) where
  pos := List.length_pos_of_mem h.hd
  most := by
    have := sub_len S (List.range n) h.nd fun x hx => List.mem_range.mpr (h.lt x hx)
    simp only [List.length_range] at this; omega
  row := among_row hr h.nd h.lt fun x hx => (h.shut x hx).1
  col := among_row hu h.nd h.lt fun x hx => (h.shut x hx).2
  conn := fun T h0 hs i hi => by
    have z : S[0]? = some 0 := by
      cases S with
      | nil => exact absurd h.hd (by simp)
      | cons a S =>
        rcases List.mem_cons.mp h.hd with e | hm
        · simp [← e]
        · have := (List.pairwise_cons.mp so).1 0 hm
          have : a = 0 := by omega
          simp [this]
    have key := h.least (fun x => x ∈ S ∧ T (S.idxOf x)) ⟨h.hd, by rw [idx_get h.nd z]; exact h0⟩ fun x _ ⟨hx, t⟩ => by
      have hlt := List.idxOf_lt_length_of_mem hx
      have := hs (S.idxOf x) hlt t
      rw [among_nx (get_idx hx), among_nx (get_idx hx)] at this
      exact ⟨⟨(h.shut x hx).1, this.1⟩, (h.shut x hx).2, this.2⟩
    have e : S[i]? = some S[i] := List.getElem?_eq_getElem hi
    have := (key S[i] (List.getElem_mem hi)).2
    rwa [idx_get h.nd e] at this

theorem sorted_unique : ∀ {l l' : List Nat}, l.Perm l' → l.Pairwise (· ≤ ·) → l'.Pairwise (· ≤ ·) → l = l'
  | [], l', p, _, _ => (List.nil_perm.mp p).symm
  | a :: l, [], p, _, _ => absurd p.length_eq (by simp)
  | a :: l, b :: l', p, h, h' => by
    have ha := List.pairwise_cons.mp h
    have hb := List.pairwise_cons.mp h'
    have e : a = b := by
      have h1 : a ∈ b :: l' := p.mem_iff.mp List.mem_cons_self
      have h2 : b ∈ a :: l := p.mem_iff.mpr List.mem_cons_self
      rcases List.mem_cons.mp h1 with e | h1
      · exact e
      · rcases List.mem_cons.mp h2 with e | h2
        · exact e.symm
        · have := hb.1 a h1
          have := ha.1 b h2
          omega
    subst e
    rw [sorted_unique (List.Perm.cons_inv p) ha.2 hb.2]
theorem range_sorted (n : Nat) : (List.range n).Pairwise (· ≤ ·) := List.Pairwise.imp (fun h => Nat.le_of_lt h) List.pairwise_lt_range
theorem Row.sorted {n : Nat} {r S : List Nat} (h : Row n r) (p : S.Perm r) (so : S.Pairwise (· ≤ ·)) : S = List.range n :=
  sorted_unique (p.trans h.perm) so (range_sorted n)
end Sq
namespace Sq
/-- the four rows: right, left, up, down -/
def rw4 (r u : List Nat) (c : Nat) : List Nat := match c with
  | 0 => r
  | 1 => back r
  | 2 => u
  | _ => back u
theorem rw4_row {n : Nat} {r u : List Nat} (hr : Row n r) (hu : Row n u) (c : Nat) : Row n (rw4 r u c) := by
  unfold rw4; split
  · exact hr
  · exact hr.back
  · exact hu
  · exact hu.back
/-- where a path leads -/
def go (r u : List Nat) (x : Nat) (p : List Nat) : Nat := p.foldl (fun x c => nx (rw4 r u c) x) x
theorem go_snoc (r u : List Nat) (x : Nat) (p : List Nat) (c : Nat) : go r u x (p ++ [c]) = nx (rw4 r u c) (go r u x p) := by simp [go]

/-- F: the squares found; P: their paths; the first k of F are through, of the next one the first j letters -/
structure Pth (n : Nat) (r u : List Nat) (first : Nat) (F : List Nat) (P : List (List Nat)) (k j : Nat) : Prop where
  nd : F.Nodup
  hd : first ∈ F
  lt : ∀ x ∈ F, x < n
  len : P.length = F.length
  kle : k ≤ F.length
  shut : ∀ i x, i < k → F[i]? = some x → ∀ c, c < 4 → nx (rw4 r u c) x ∈ F
  part : ∀ x, F[k]? = some x → ∀ c, c < j → nx (rw4 r u c) x ∈ F
  jz : j = 0 ∨ k < F.length
  ok : ∀ i x p, F[i]? = some x → P[i]? = some p → go r u first p = x ∧ p.length ≤ i ∧ ∀ c ∈ p, c < 4
variable {n : Nat} {r u : List Nat} {first : Nat} {F : List Nat} {P : List (List Nat)} {k j : Nat}
theorem Pth.start (h : first < n) : Pth n r u first [first] [[]] 0 0 where
  nd := by simp
  hd := by simp
  lt := fun x hx => by rw [List.mem_singleton.mp hx]; exact h
  len := rfl
  kle := Nat.zero_le _
  shut := fun i x hi => absurd hi (Nat.not_lt_zero _)
  part := fun x _ c hc => absurd hc (Nat.not_lt_zero _)
  jz := .inl rfl
  ok := fun i x p hx hp => by
    cases i with
    | zero => simp at hx hp; subst hx hp; simp [go]
    | succ i => simp at hx
theorem Pth.flen (h : Pth n r u first F P k j) : F.length ≤ n := by
  have := sub_len F (List.range n) h.nd fun x hx => List.mem_range.mpr (h.lt x hx)
  simpa using this
/-- the letter leads to a square that is there -/
theorem Pth.old {x : Nat} (h : Pth n r u first F P k j) (hx : F[k]? = some x) (hm : nx (rw4 r u j) x ∈ F) : Pth n r u first F P k (j + 1) :=
  { h with
    part := fun y hy c hc => by
      rw [hx] at hy; cases hy
      rcases Nat.lt_or_ge c j with q | q
      · exact h.part x hx c q
      · have : c = j := by omega
        subst this; exact hm
    jz := .inr (List.getElem?_eq_some_iff.mp hx).1 }
/-- the letter leads to a new square -/
theorem Pth.new {x : Nat} {p : List Nat} (h : Pth n r u first F P k j) (hr : Row n r) (hu : Row n u) (hj : j < 4) (hx : F[k]? = some x) (hp : P[k]? = some p) (hm : nx (rw4 r u j) x ∉ F) :
    Pth n r u first (F ++ [nx (rw4 r u j) x]) (P ++ [p ++ [j]]) k (j + 1) := by
  have hk := (List.getElem?_eq_some_iff.mp hx).1
  have old : ∀ i y, i ≤ k → (F ++ [nx (rw4 r u j) x])[i]? = some y → F[i]? = some y := fun i y hi hy => by
    rwa [List.getElem?_append_left (by omega)] at hy
  refine ⟨?_, by simp [h.hd], ?_, by simp [h.len], by simp; omega, ?_, ?_, .inr (by simp; omega), ?_⟩
  · exact List.nodup_append.mpr ⟨h.nd, by simp, fun a ha b hb e => hm (by rw [List.mem_singleton.mp hb] at e; exact e ▸ ha)⟩
  · intro y hy
    rcases List.mem_append.mp hy with hy | hy
    · exact h.lt y hy
    · rw [List.mem_singleton.mp hy]
      exact (rw4_row hr hu j).nlt (h.lt x (List.mem_of_getElem? hx))
  · intro i y hi hy c hc
    exact List.mem_append_left _ (h.shut i y hi (old i y (by omega) hy) c hc)
  · intro y hy c hc
    have hy' := old k y (Nat.le_refl _) hy
    rw [hx] at hy'; cases hy'
    rcases Nat.lt_or_ge c j with q | q
    · exact List.mem_append_left _ (h.part x hx c q)
    · have : c = j := by omega
      subst this; simp
  · intro i y q hy hq
    rcases Nat.lt_trichotomy i F.length with c | c | c
    · rw [List.getElem?_append_left c] at hy
      rw [List.getElem?_append_left (by rw [h.len]; exact c)] at hq
      exact h.ok i y q hy hq
    · subst c
      rw [List.getElem?_append_right (Nat.le_refl _)] at hy
      rw [List.getElem?_append_right (by rw [h.len]; exact Nat.le_refl _)] at hq
      simp [h.len] at hy hq
      subst hy hq
      obtain ⟨a, b, d⟩ := h.ok k x p hx hp
      refine ⟨by rw [go_snoc, a]; simp [nx], by simp; omega, fun c hc => ?_⟩
      rcases List.mem_append.mp hc with hc | hc
      · exact d c hc
      · rw [List.mem_singleton.mp hc]; exact hj
    · rw [List.getElem?_eq_none (by simp; omega)] at hy; cases hy
theorem Pth.next {x : Nat} (h : Pth n r u first F P k 4) (hx : F[k]? = some x) : Pth n r u first F P (k + 1) 0 :=
  { h with
    kle := (List.getElem?_eq_some_iff.mp hx).1
    shut := fun i y hi hy c hc => by
      rcases Nat.lt_or_ge i k with q | q
      · exact h.shut i y q hy c hc
      · have : i = k := by omega
        subst this; exact h.part y hy c hc
    part := fun y _ c hc => absurd hc (Nat.not_lt_zero _)
    jz := .inl rfl }
/-- all squares to which paths lead -/
structure PthAll (n : Nat) (r u : List Nat) (first : Nat) (F : List Nat) (P : List (List Nat)) : Prop where
  nd : F.Nodup
  hd : first ∈ F
  lt : ∀ x ∈ F, x < n
  len : P.length = F.length
  shut : ∀ x ∈ F, ∀ c, c < 4 → nx (rw4 r u c) x ∈ F
  ok : ∀ i x p, F[i]? = some x → P[i]? = some p → go r u first p = x ∧ p.length ≤ i ∧ ∀ c ∈ p, c < 4
theorem Pth.all (h : Pth n r u first F P k j) (hk : F.length ≤ k) : PthAll n r u first F P :=
  { h with
    shut := fun x hx c hc => by
      obtain ⟨i, hi, e⟩ := List.mem_iff_getElem.mp hx
      exact h.shut i x (by omega) (by rw [List.getElem?_eq_getElem hi, e]) c hc }
theorem PthAll.full (s : Sheet n r u) (h : PthAll n r u 0 F P) : Row n F := by
  have all : ∀ x, x < n → x ∈ F := s.conn (fun x => x ∈ F) h.hd fun x _ hx => ⟨h.shut x hx 0 (by decide), h.shut x hx 2 (by decide)⟩
  have l1 := sub_len F (List.range n) h.nd fun x hx => List.mem_range.mpr (h.lt x hx)
  have l2 := sub_len (List.range n) F List.nodup_range fun x hx => all x (List.mem_range.mp hx)
  simp only [List.length_range] at l1 l2
  exact ⟨by omega, h.nd, h.lt⟩
end Sq
namespace K1
open PySem L2
def top (i : Nat) : Stmt := PySem.Challenge.pw_squaresheet_k91_drawn_and_seen.main.body.getD i (.Pass ⟨0, 0, 0, 0⟩)
abbrev sSheetOf : Stmt := top 7
abbrev sSize : Stmt := top 8
abbrev sBackRow : Stmt := top 9
abbrev sChecked : Stmt := top 10
abbrev sEach : Stmt := top 11
abbrev sIsWhole : Stmt := top 12
abbrev sIsSq : Stmt := top 13
abbrev sGroups : Stmt := top 14
abbrev sSteps : Stmt := top 15
abbrev sPaths : Stmt := top 16
abbrev sCycleFrom : Stmt := top 17
abbrev sCycles : Stmt := top 18
abbrev sDrawn : Stmt := top 21
abbrev sSeen : Stmt := top 22
abbrev sBetween : Stmt := top 23
abbrev sSquaresIn : Stmt := top 24
abbrev sSheetTold : Stmt := top 25
abbrev sInOrder : Stmt := top 26
abbrev sCell : Stmt := top 28
abbrev sWhole : Stmt := top 29
abbrev sLines : Stmt := top 30
abbrev sMet : Stmt := top 31
abbrev sAmong : Stmt := top 32
abbrev sSheet : Stmt := top 33
abbrev sPicked : Stmt := top 34
abbrev sIsSheet : Stmt := top 35
abbrev sLSigns : Stmt := top 36
abbrev sLDrawn : Stmt := top 37
abbrev sLEvenRows : Stmt := top 38
abbrev sLaw : Stmt := top 39
end K1
namespace K1
open PySem L2 Sq
/-- the builtins' names are not taken by the text -/
structure Bi (mg : Str → Option Value) : Prop where
  len : mg "len" = none
  range : mg "range" = none
  list : mg "list" = none
  tuple : mg "tuple" = none
  isin : mg "isinstance" = none
  int : mg "int" = none
  bool : mg "bool" = none
  all : mg "all" = none
  set : mg "set" = none
  sorted : mg "sorted" = none
  enum : mg "enumerate" = none
/-- a def of the text -/
structure Fn (K : PySem.W.Frag) (mg : Str → Option Value) (x : Str) (st : Stmt) (ps : List Str) (f : Addr) (fd : FuncData) : Prop where
  F : Fun K x x st f fd
  b : Binds K fd ps []
  m : mg x = some (.ref f)

def RowAt (K : PySem.W.Frag) (H : Hp) (p : Addr) (r : List Nat) : Prop := SqL K H p (nv r) ∨ SqT K H p (nv r)

def spCell (K : PySem.W.Frag) : Sp := fun vs H Q _ => ∃ (a : Addr) (ns : List Int) (j : Int), vs = [.ref a, .int j] ∧ SqL K H a (ns.map V.int) ∧ 0 ≤ j ∧ Q (.int (ns.getD j.toNat 0)) H
def spWhole : Sp := fun vs H Q _ => ∃ i : Int, vs = [.int i] ∧ Q (.bl true) H
def spSize : Sp := fun vs H Q _ => ∃ (a : Addr) (r u : List Nat), vs = [.ref a] ∧ ShAt H a r u ∧ Q (.int (r.length : Int)) H
def spIsSq : Sp := fun vs H Q _ => ∃ i n : Int, vs = [.int i, .int n] ∧ Q (.bl (decide (0 ≤ i ∧ i < n))) H

theorem boot_isin : bootBuiltins "isinstance" = some (.builtin "isinstance") := by decide +kernel
theorem boot_int : bootBuiltins "int" = some (.type "int") := by decide +kernel
theorem boot_bool : bootBuiltins "bool" = some (.type "bool") := by decide +kernel
theorem boot_tuple : bootBuiltins "tuple" = some (.type "tuple") := by decide +kernel
theorem boot_list : bootBuiltins "list" = some (.type "list") := by decide +kernel
theorem boot_set : bootBuiltins "set" = some (.type "set") := by decide +kernel
theorem boot_all : bootBuiltins "all" = some (.builtin "all") := by decide +kernel
theorem boot_sorted : bootBuiltins "sorted" = some (.builtin "sorted") := by decide +kernel
theorem nv_erase (xs : List Nat) (k : Nat) : (nv xs).eraseIdx k = nv (xs.eraseIdx k) := by
  unfold nv
  induction xs generalizing k with
  | nil => rfl
  | cons x xs ih => cases k with
    | zero => rfl
    | succ k => simp only [List.map_cons, List.eraseIdx_cons_succ, ih]
theorem same_upd {H H' : Hp} {l : Addr} {o : HO} (e : Same H H') (h : H l = none) : Same H (upd H' l o) := fun b u q => by
  rw [upd_ne (ne_of_none q h)]; exact e b u q
theorem len2 {α : Type} {l : List α} (h : l.length = 2) : ∃ x y, l = [x, y] := by
  match l, h with
  | [x, y], _ => exact ⟨x, y, rfl⟩
/-- a square is drawn out of those that are left -/
theorem popDraw {H : Hp} {lf : Addr} {left : List Nat} {x : Int} {Q : VK} (h : H lf = some (.lst (nv left))) (h0 : 0 < left.length) (h1 : left.length ≤ 36)
    (q : ∀ (k y : Nat), left[k]? = some y → Q (.int (y : Int)) (upd H lf (.lst (nv (left.eraseIdx k))))) : rPopAt (.ref lf) [.int (x % ((nv left).length : Int))] H Q := by
  have hl := nv_len left
  have a0 : 0 ≤ x % ((nv left).length : Int) := Int.emod_nonneg _ (by omega)
  have a1 : x % ((nv left).length : Int) < ((nv left).length : Int) := Int.emod_lt_of_pos _ (by omega)
  have a2 : (x % ((nv left).length : Int)).toNat < left.length := by omega
  have a3 : left[(x % ((nv left).length : Int)).toNat]? = some left[(x % ((nv left).length : Int)).toNat] := List.getElem?_eq_getElem a2
  refine ⟨lf, _, _, (x % ((nv left).length : Int)).toNat, _, rfl, rfl, h, by omega, by omega, seqIndex_of a0 a1, nv_get a3, ?_⟩
  rw [nv_erase]
  exact q _ _ a3
theorem Same.tseq {K : PySem.W.Frag} {H H' : Hp} {a : Addr} {xs : List V} (e : Same H H') (h : SqT K H a xs) : SqT K H' a xs := by
  rcases h with (h | ⟨o, h⟩) | h
  · exact .inl (.inl (e _ _ h))
  · exact .inl (.inr ⟨o, e _ _ h⟩)
  · exact .inr h
theorem RowAt.same {K : PySem.W.Frag} {H H' : Hp} {p : Addr} {r : List Nat} (e : Same H H') (h : RowAt K H p r) : RowAt K H' p r := h.imp e.seq (Same.tseq e)
theorem rowIx {K : PySem.W.Frag} {H : Hp} {p : Addr} {r : List Nat} {n i : Nat} {Q : VK} (h : RowAt K H p r) (hr : Row n r) (hi : i < n) (q : Q (.int (nx r i : Int)) H) : rIx K (.ref p) (.int (i : Int)) H Q := by
  rcases h with h | h
  · exact .inl ⟨p, _, _, _, rfl, rfl, h, atI_nat (nv_get (hr.get hi)), q⟩
  · exact .inr (.inl ⟨p, _, _, _, rfl, rfl, h, atI_nat (nv_get (hr.get hi)), q⟩)
theorem nv_flat (xs : List Nat) : (nv xs).all flatV = true := by
  rw [List.all_eq_true]
  intro x hx
  obtain ⟨n, _, rfl⟩ := List.mem_map.mp hx
  rfl
theorem inV_nv (x : Nat) (xs : List Nat) : inV (.int (x : Int)) (nv xs) = decide (x ∈ xs) := by
  unfold inV nv
  rw [List.any_map]
  apply Bool.eq_iff_iff.mpr
  rw [List.any_eq_true, decide_eq_true_iff]
  constructor
  · rintro ⟨y, hy, e⟩
    have : (y : Int) = (x : Int) := by simpa [eqV, scal] using e
    have : y = x := by omega
    rw [← this]; exact hy
  · intro h
    exact ⟨x, h, by simp [eqV, scal]⟩
/-- how far the fifth slot is from 100 -/
def mu (j : Nat) (σ : St) : Nat := match σ[j]? with
  | some (some (.int k)) => (100 - k).toNat
  | _ => 0
theorem foldl_put_len : ∀ (l M : List Nat), (l.foldl put M).length ≤ M.length + l.length
  | [], M => Nat.le_refl _
  | x :: l, M => by
    have h1 := foldl_put_len l (put M x)
    have h2 : (put M x).length ≤ M.length + 1 := by unfold put; split <;> simp
    simp only [List.foldl_cons, List.length_cons]; omega
end K1
namespace K1
open PySem L2 Sq
section
variable {P : Program} {w : World} {K : PySem.W.Frag} {mg : Str → Option Value} {base : Heap}
theorem scCell : FnScope ["_law_script", "_law_k"] ["_law_script", "_law_k"] (defScope sCell) := ⟨rfl, rfl, rfl, by decide +kernel, rfl, by decide +kernel, by decide +kernel⟩
theorem ok_cell {f : Addr} {fd : FuncData} (T : Bi mg) (F : Fn K mg "_law_cell" sCell ["_law_script", "_law_k"] f fd) : FnOk P w K mg base CX0 1 f fd ["_law_script", "_law_k"] (spCell K) := by
  refine F.F.ok scCell (fun vs H Q E h => ?_) (fun cdv A outer s H vs Q E hr h => ?_)
  · obtain ⟨a, ns, j, rfl, _⟩ := h; rfl
  · obtain ⟨a, ns, j, rfl, hS, h0, k⟩ := h
    refine ⟨_, pss_cons (ps_if (pt_cmpR op_lt (pv 1) (pe_callB call_len_seq (by rfl) T.len PySem.boot_len (pa_cons (pv 0) pa_nil)) (nomark _)) (pss_one (ps_ret (pe_ix ix_list (pv 0) (pv 1) (fun _ _ => rfl)))) pss_nil)
      (pss_one (ps_ret pe_int)), ?_⟩
    refine ⟨_, rfl, _, rfl, a, _, rfl, .inl hS, _, _, rfl, rfl, _, rfl, ?_⟩
    refine ite2 (fun hlt => ?_) (fun hge => ?_)
    · have hlt : j < ((ns.map V.int).length : Int) := of_decide_eq_true hlt
      rw [List.length_map] at hlt
      have hj : j.toNat < ns.length := by omega
      refine ⟨_, rfl, _, rfl, a, _, j, _, rfl, rfl, hS, ?_, k⟩
      have e : (ns.map V.int)[j.toNat]? = some (.int (ns.getD j.toNat 0)) := by simp [List.getD_eq_getElem?_getD, hj]
      have := atI_nat e
      rwa [Int.toNat_of_nonneg h0] at this
    · have hge : ¬ j < ((ns.map V.int).length : Int) := fun z => hge (decide_eq_true z)
      rw [List.length_map] at hge
      have e : ns.getD j.toNat 0 = 0 := by rw [List.getD_eq_getElem?_getD, List.getElem?_eq_none (by omega)]; rfl
      rw [e] at k
      exact k
end
end K1
namespace K1
open PySem L2 Sq
section
variable {P : Program} {w : World} {K : PySem.W.Frag} {mg : Str → Option Value} {base : Heap}
theorem scWhole : FnScope ["_law_found"] ["_law_found"] (defScope sWhole) := ⟨rfl, rfl, rfl, by decide +kernel, rfl, by decide +kernel, by decide +kernel⟩
theorem ok_whole {f : Addr} {fd : FuncData} (T : Bi mg) (F : Fn K mg "_law_whole" sWhole ["_law_found"] f fd) : FnOk P w K mg base CX0 1 f fd ["_law_found"] spWhole := by
  refine F.F.ok scWhole (fun vs H Q E h => ?_) (fun cdv A outer s H vs Q E hr h => ?_)
  · obtain ⟨i, rfl, _⟩ := h; rfl
  · obtain ⟨i, rfl, k⟩ := h
    refine ⟨_, pss_one (ps_ret (pe_and (pe_callB call_isinst (by rfl) T.isin boot_isin (pa_cons (pv 0) (pa_cons (pe_bltn (v := .ty "int") (by rfl) T.int boot_int rfl) pa_nil)))
      (pe_one (pe_not (pe_callB call_isinst (by rfl) T.isin boot_isin (pa_cons (pv 0) (pa_cons (pe_bltn (v := .ty "bool") (by rfl) T.bool boot_bool rfl) pa_nil))))))), ?_⟩
    refine ⟨_, rfl, _, _, _, _, rfl, .int i, kit_int_int K, _, rfl, ?_⟩
    refine iteT ?_
    exact ⟨_, rfl, _, _, _, _, rfl, .int i, kit_int_bool K, _, rfl, k⟩
end
end K1
namespace K1
open PySem L2 Sq
section
variable {P : Program} {w : World} {K : PySem.W.Frag} {mg : Str → Option Value} {base : Heap}
theorem scSize : FnScope ["sheet"] ["sheet"] (defScope sSize) := ⟨rfl, rfl, rfl, by decide +kernel, rfl, by decide +kernel, by decide +kernel⟩
theorem ok_size {f : Addr} {fd : FuncData} (T : Bi mg) (F : Fn K mg "size" sSize ["sheet"] f fd) : FnOk P w K mg base CX0 1 f fd ["sheet"] spSize := by
  refine F.F.ok scSize (fun vs H Q E h => ?_) (fun cdv A outer s H vs Q E hr h => ?_)
  · obtain ⟨a, r, u, rfl, _⟩ := h; rfl
  · obtain ⟨a, r, u, rfl, ⟨p, q, h1, h2, h3⟩, k⟩ := h
    refine ⟨_, pss_one (ps_ret (pe_callB call_len_seq (by rfl) T.len PySem.boot_len (pa_cons (pe_ix ix_tup (pv 0) pe_int (fun _ _ => rfl)) pa_nil))), ?_⟩
    refine ⟨_, rfl, a, _, 0, _, rfl, rfl, SqT.of h1, atI_nat (j := 0) rfl, p, _, rfl, .inr (SqT.of h2), ?_⟩
    rw [nv_len]; exact k
end
end K1
namespace K1
open PySem L2 Sq
section
variable {P : Program} {w : World} {K : PySem.W.Frag} {mg : Str → Option Value} {base : Heap}
theorem scIsSq : FnScope ["thing", "squares"] ["thing", "squares"] (defScope sIsSq) := ⟨rfl, rfl, rfl, by decide +kernel, rfl, by decide +kernel, by decide +kernel⟩
theorem scIsWh : FnScope ["thing"] ["thing"] (defScope sIsWhole) := ⟨rfl, rfl, rfl, by decide +kernel, rfl, by decide +kernel, by decide +kernel⟩
theorem ok_isWh {f : Addr} {fd : FuncData} (T : Bi mg) (F : Fn K mg "is_whole" sIsWhole ["thing"] f fd) : FnOk P w K mg base CX0 1 f fd ["thing"] spWhole := by
  refine F.F.ok scIsWh (fun vs H Q E h => ?_) (fun cdv A outer s H vs Q E hr h => ?_)
  · obtain ⟨i, rfl, _⟩ := h; rfl
  · obtain ⟨i, rfl, k⟩ := h
    refine ⟨_, pss_one (ps_ret (pe_and (pe_callB call_isinst (by rfl) T.isin boot_isin (pa_cons (pv 0) (pa_cons (pe_bltn (v := .ty "int") (by rfl) T.int boot_int rfl) pa_nil)))
      (pe_one (pe_not (pe_callB call_isinst (by rfl) T.isin boot_isin (pa_cons (pv 0) (pa_cons (pe_bltn (v := .ty "bool") (by rfl) T.bool boot_bool rfl) pa_nil))))))), ?_⟩
    refine ⟨_, rfl, _, _, _, _, rfl, .int i, kit_int_int K, _, rfl, ?_⟩
    refine iteT ?_
    exact ⟨_, rfl, _, _, _, _, rfl, .int i, kit_int_bool K, _, rfl, k⟩
theorem ok_isSq {f fw : Addr} {fd fdw : FuncData} (T : Bi mg) (F : Fn K mg "is_square" sIsSq ["thing", "squares"] f fd) (FW : Fn K mg "is_whole" sIsWhole ["thing"] fw fdw) : FnOk P w K mg base CX0 2 f fd ["thing", "squares"] spIsSq := by
  have GW : FnOk P w K mg base CX0 1 fw fdw ["thing"] spWhole := ok_isWh T FW
  refine F.F.ok scIsSq (fun vs H Q E h => ?_) (fun cdv A outer s H vs Q E hr h => ?_)
  · obtain ⟨i, n, rfl, _⟩ := h; rfl
  · obtain ⟨i, n, rfl, k⟩ := h
    refine ⟨_, pss_one (ps_ret (pe_and (pe_call GW hr rfl FW.m FW.F.kp FW.b .nil pass0 (pa_cons (pv 0) pa_nil)) (pe_one (pe_chain op_le op_lt pe_int (pv 0) (pv 1))))), ?_⟩
    refine ⟨_, rfl, i, rfl, _, rfl, ?_⟩
    refine iteT ?_
    refine ⟨_, rfl, _, _, rfl, rfl, _, rfl, ?_⟩
    refine ite2 (fun h => ?_) (fun h => ?_)
    · have h : 0 ≤ i := of_decide_eq_true h
      refine ⟨_, rfl, _, _, rfl, rfl, ?_⟩
      have e : decide (0 ≤ i ∧ i < n) = decide (i < n) := by simp [h]
      rw [e] at k; exact k
    · have h : ¬ 0 ≤ i := fun z => h (decide_eq_true z)
      have e : decide (0 ≤ i ∧ i < n) = false := by simp [h]
      rw [e] at k; exact k
end
end K1

namespace K1
open PySem L2 Sq
def spLines (K : PySem.W.Frag) : Sp := fun vs H Q _ => ∃ (a : Addr) (ns : List Int) (j : Int) (n : Nat), vs = [.ref a, .int j, .int (n : Int)] ∧ SqL K H a (ns.map V.int) ∧ 0 ≤ j ∧ 1 ≤ n ∧ n ≤ 36 ∧
  ∀ (H' : Hp) (l p q : Addr) (r u : List Nat), Same H H' → H' l = some (.lst [.ref p, .ref q]) → H' p = some (.lst (nv r)) → H' q = some (.lst (nv u)) → Row n r → Row n u → Q (.ref l) H'
section
variable {P : Program} {w : World} {K : PySem.W.Frag} {mg : Str → Option Value} {base : Heap}
theorem scLines : FnScope ["_law_script", "_law_at", "_law_many", "_law_number", "_law_told", "_law_turn", "_law_left", "_law_line", "_law_k", "_law_cell_here"] ["_law_script", "_law_at", "_law_many"] (defScope sLines) := ⟨rfl, rfl, rfl, by decide +kernel, rfl, by decide +kernel, by decide +kernel⟩
theorem ok_lines {f fc : Addr} {fd fdc : FuncData} (T : Bi mg) (F : Fn K mg "_law_lines" sLines ["_law_script", "_law_at", "_law_many"] f fd) (FC : Fn K mg "_law_cell" sCell ["_law_script", "_law_k"] fc fdc) :
    FnOk P w K mg base CX0 2 f fd ["_law_script", "_law_at", "_law_many"] (spLines K) := by
  have GC : FnOk P w K mg base CX0 1 fc fdc ["_law_script", "_law_k"] (spCell K) := ok_cell T FC
  refine F.F.ok scLines (fun vs H Q E h => ?_) (fun cdv A outer s H vs Q E hr h => ?_)
  · obtain ⟨a, ns, j, n, rfl, _⟩ := h; rfl
  · obtain ⟨a, ns, j, n, rfl, hS, h0, hn1, hn, k⟩ := h
    refine ⟨_, pss_cons (ps_set (i := 3) scLines.nd rfl (Or.inl rfl) (pe_op op_add pe_int (pe_op op_mod (pe_call GC hr rfl FC.m FC.F.kp FC.b .nil pass0 (pa_cons (pv 0) (pa_cons (pv 1) pa_nil))) pe_int)))
      (pss_cons (ps_set (i := 4) scLines.nd rfl (Or.inl rfl) (pe_lst pa_nil))
      (pss_cons (ps_for PassesOwn.never rfl (pi_range1 rfl T.range (pa_cons pe_int pa_nil)) (pg_name (i := 5) scLines.nd rfl (Or.inl rfl))
        (pss_cons (ps_set (i := 6) scLines.nd rfl (Or.inl rfl) (pe_callTy (call_list_rng rfl) rfl T.list boot_list (pa_cons (pe_callTy call_range1 rfl T.range PyProof.Rows.boot_range (pa_cons (pv 2) pa_nil)) pa_nil)))
        (pss_cons (ps_set (i := 7) scLines.nd rfl (Or.inl rfl) (pe_lst pa_nil))
        (pss_cons (ps_for PassesOwn.never rfl (pi_range1 rfl T.range (pa_cons (pv 2) pa_nil)) (pg_name (i := 8) scLines.nd rfl (Or.inl rfl))
          (pss_cons (ps_set (i := 9) scLines.nd rfl (Or.inl rfl) (pe_call GC hr rfl FC.m FC.F.kp FC.b .nil pass0 (pa_cons (pv 0) (pa_cons (pe_op op_add (pe_op op_add (pe_op op_add (pv 1) pe_int) (pe_op op_mul (pv 5) (pv 2))) (pv 8)) pa_nil))))
          (pss_cons (ps_set (i := 3) scLines.nd rfl (Or.inl rfl) (pe_op op_mod (pe_op op_add (pe_op op_mul (pv 3) pe_int) (pv 9)) pe_int))
          (pss_one (ps_expr (pe_bm PySem.F.plainAttrs_list PySem.F.slot_list_append PySem.F.type_list_append mt_append (pv 7) (pa_cons
            (pe_bm PySem.F.plainAttrs_list PySem.F.slot_list_pop PySem.F.type_list_pop mt_popAt (pv 6) (pa_cons (pe_op op_mod (pe_op op_fdiv (pv 3) pe_int) (pe_callB call_len_seq (by rfl) T.len PySem.boot_len (pa_cons (pv 6) pa_nil))) pa_nil)) pa_nil)))))))
        (pss_one (ps_expr (pe_bm PySem.F.plainAttrs_list PySem.F.slot_list_append PySem.F.type_list_append mt_append (pv 4) (pa_cons (pv 7) pa_nil))))))))
      (pss_one (ps_ret (pv 4))))), ?_⟩
    -- number, told
    refine ⟨_, rfl, _, rfl, a, ns, j, rfl, hS, h0, _, _, rfl, rfl, (by show (0 : Int) < 2147483646; decide), _, _, rfl, rfl, ?_⟩
    refine ⟨Nat.zero_le _, fun l hl => ?_⟩
    refine ⟨2, rfl, by decide, by decide, for_range (n := 2) (fun t σ H2 => ∃ (num : Int) (o5 o6 o7 o8 o9 : Option V) (ps : List (Addr × List Nat)), σ = [some (.ref a), some (.int j), some (.int (n : Int)), some (.int num), some (.ref l), o5, o6, o7, o8, o9] ∧ Same H H2 ∧ ps.length = t ∧
      H2 l = some (.lst (ps.map fun p => .ref p.1)) ∧ ∀ p ∈ ps, p.1 ≠ l ∧ H2 p.1 = some (.lst (nv p.2)) ∧ Row n p.2) ?_ ?_ ?_⟩
    · exact ⟨_, _, _, _, _, _, [], rfl, same_upd (Same.refl H) hl, rfl, upd_same, fun p hp => nomatch hp⟩
    · rintro t σ H2 ht ⟨num, o5, o6, o7, o8, o9, ps, rfl, s2, hps, h2l, hall⟩
      -- left, line
      refine ⟨_, rfl, (n : Int), rfl, fun r0 hr0 => ⟨r0, n, rfl, upd_same, by omega, fun lf hlf => ?_⟩⟩
      refine ⟨Nat.zero_le _, fun ln hln => ?_⟩
      have nr0l : l ≠ r0 := ne_of_none h2l hr0
      have hH : ∀ b, H2 b = none → H b = none := fun b q => s2.free q
      have f0 : H2 lf = none := by
        by_cases e : lf = r0
        · rw [e]; exact hr0
        · rwa [upd_ne e] at hlf
      have nlfr : lf ≠ r0 := fun e => by rw [e, upd_same] at hlf; cases hlf
      have nlnl : ln ≠ lf := fun e => by rw [e, upd_same] at hln; cases hln
      have g0 : (upd H2 r0 (.rng 0 (n : Int))) ln = none := by rwa [upd_ne nlnl] at hln
      have nlnr : ln ≠ r0 := fun e => by rw [e, upd_same] at g0; cases g0
      have g1 : H2 ln = none := by rwa [upd_ne nlnr] at g0
      have llf : l ≠ lf := ne_of_none h2l f0
      have lln : l ≠ ln := ne_of_none h2l g1
      refine ⟨_, rfl, (n : Int), rfl, by omega, by omega, ?_⟩
      rw [Int.toNat_natCast]
      refine for_range (n := n) (fun i σ H3 => ∃ (num : Int) (o8 o9 : Option V) (line left : List Nat), σ = [some (.ref a), some (.int j), some (.int (n : Int)), some (.int num), some (.ref l), some (.int (0 + (t : Int))), some (.ref lf), some (.ref ln), o8, o9] ∧
        (∀ b, b ≠ r0 → b ≠ lf → b ≠ ln → H3 b = H2 b) ∧ H3 lf = some (.lst (nv left)) ∧ H3 ln = some (.lst (nv line)) ∧ line.length = i ∧ (line ++ left).Perm (List.range n)) ?_ ?_ ?_
      · refine ⟨_, _, _, [], List.range n, rfl, fun b c1 c2 c3 => by rw [upd_ne c3, upd_ne c2, upd_ne c1], by rw [upd_ne nlnl.symm, upd_same], upd_same, rfl, List.Perm.refl _⟩
      · rintro i σ H3 hi ⟨num, o8, o9, line, left, rfl, same3, hlf3, hln3, hlen, hp⟩
        have hS3 : SqL K H3 a (ns.map V.int) := by
          have hS2 := s2.seq hS
          rcases hS2 with (q | ⟨o, q⟩) | q
          · exact .inl (.inl (by rw [same3 a (ne_of_none q hr0) (ne_of_none q f0) (ne_of_none q g1)]; exact q))
          · exact .inl (.inr ⟨o, by rw [same3 a (ne_of_none q hr0) (ne_of_none q f0) (ne_of_none q g1)]; exact q⟩)
          · exact .inr q
        have hleft : left.length = n - i := by
          have := hp.length_eq
          simp only [List.length_append, List.length_range] at this
          omega
        have hpos : 0 < left.length := by omega
        refine ⟨_, rfl, _, rfl, _, _, rfl, rfl, _, rfl, _, rfl, _, _, rfl, rfl, .inr ⟨by omega, by omega⟩, _, _, rfl, rfl, _, rfl, _, _, rfl, rfl, a, ns, _, rfl, hS3, ?_, ?_⟩
        · have : (0 : Int) ≤ (0 + (t : Int)) * (n : Int) := Int.mul_nonneg (by omega) (by omega)
          omega
        refine ⟨_, rfl, _, _, rfl, rfl, .inr ⟨by decide, by decide⟩, _, rfl, _, _, rfl, rfl, _, _, rfl, rfl, (by show (0 : Int) < 2147483647; decide), ?_⟩
        refine ⟨_, rfl, .inl ⟨rfl, _, SqL.of hln3⟩, _, rfl, .inl ⟨rfl, _, SqL.of hlf3⟩, _, rfl, _, _, rfl, rfl, ⟨by decide, by decide⟩, _, rfl, lf, _, rfl, .inl (SqL.of hlf3), _, _, rfl, rfl, ?_, ?_⟩
        · rw [nv_len]; omega
        refine popDraw hlf3 hpos (by omega) fun kx y hy => ?_
        have e3 : (upd H3 lf (.lst (nv (left.eraseIdx kx)))) ln = some (.lst (nv line)) := by rw [upd_ne nlnl]; exact hln3
        refine ⟨ln, _, _, rfl, rfl, e3, ?_, ?_⟩
        · rw [nv_len]; exact small1000 (by omega)
        refine ⟨_, _, _, line ++ [y], left.eraseIdx kx, rfl, fun b c1 c2 c3 => ?_, ?_, ?_, ?_, pop_perm hp hy⟩
        · rw [upd_ne c3, upd_ne c2]; exact same3 b c1 c2 c3
        · rw [upd_ne nlnl.symm, upd_same]
        · rw [upd_same, nv_snoc]
        · rw [List.length_append, hlen]; rfl
      · rintro σ H3 ⟨num, o8, o9, line, left, rfl, same3, hlf3, hln3, hlen, hp⟩
        have hl0 : left = [] := by
          have := hp.length_eq
          simp only [List.length_append, List.length_range] at this
          exact List.length_eq_zero_iff.mp (by omega)
        have hrow : Row n line := Row.of_perm (by rw [hl0, List.append_nil] at hp; exact hp)
        have hl3 : H3 l = some (.lst (ps.map fun p => .ref p.1)) := by rw [same3 l nr0l llf lln]; exact h2l
        refine ⟨_, rfl, .inl ⟨rfl, _, SqL.of hl3⟩, _, rfl, l, _, _, rfl, rfl, hl3, ?_, ?_⟩
        · rw [List.length_map]; exact small1000 (by omega)
        refine ⟨_, _, _, _, _, _, ps ++ [(ln, line)], rfl, fun b o q => ?_, by rw [List.length_append, hps]; rfl, by rw [upd_same, List.map_append]; rfl, fun p hp' => ?_⟩
        · have q2 := s2 b o q
          rw [upd_ne (fun e => by rw [e, hl] at q; cases q), same3 b (ne_of_none q2 hr0) (ne_of_none q2 f0) (ne_of_none q2 g1)]
          exact q2
        · rcases List.mem_append.mp hp' with hp' | hp'
          · obtain ⟨c1, c2, c3⟩ := hall p hp'
            refine ⟨c1, ?_, c3⟩
            rw [upd_ne c1, same3 p.1 (ne_of_none c2 hr0) (ne_of_none c2 f0) (ne_of_none c2 g1)]
            exact c2
          · rw [List.mem_singleton.mp hp']
            exact ⟨lln.symm, by rw [upd_ne lln.symm]; exact hln3, hrow⟩
    · rintro σ H2 ⟨num, o5, o6, o7, o8, o9, ps, rfl, s2, hps, h2l, hall⟩
      obtain ⟨⟨p, r⟩, ⟨q, u⟩, rfl⟩ := len2 hps
      have a1 := hall (p, r) (by simp)
      have a2 := hall (q, u) (by simp)
      exact ⟨_, rfl, k H2 l p q r u s2 h2l a1.2.1 a2.2.1 a1.2.2 a2.2.2⟩
end
end K1
namespace K1
open PySem L2 Sq
def spMet (K : PySem.W.Frag) : Sp := fun vs H Q _ => ∃ (pr pu : Addr) (n : Nat) (r u : List Nat) (f : Nat), vs = [.ref pr, .ref pu, .int (f : Int)] ∧ RowAt K H pr r ∧ RowAt K H pu u ∧ Row n r ∧ Row n u ∧ f < n ∧ n ≤ 36 ∧
  ∀ (H' : Hp) (l : Addr) (M : List Nat), Same H H' → H l = none → H' l = some (.lst (nv M)) → MetAll n r u f M → Q (.ref l) H'
section
variable {P : Program} {w : World} {K : PySem.W.Frag} {mg : Str → Option Value} {base : Heap}
theorem scMet : FnScope ["_law_right", "_law_up", "_law_first", "_law_met_here", "_law_at", "_law_square"] ["_law_right", "_law_up", "_law_first"] (defScope sMet) := ⟨rfl, rfl, rfl, by decide +kernel, rfl, by decide +kernel, by decide +kernel⟩
theorem ok_met {f : Addr} {fd : FuncData} (T : Bi mg) (F : Fn K mg "_law_met" sMet ["_law_right", "_law_up", "_law_first"] f fd) : FnOk P w K mg base CX0 1 f fd ["_law_right", "_law_up", "_law_first"] (spMet K) := by
  refine F.F.ok scMet (fun vs H Q E h => ?_) (fun cdv A outer s H vs Q E hr h => ?_)
  · obtain ⟨pr, pu, n, r, u, f, rfl, _⟩ := h; rfl
  · obtain ⟨pr, pu, n, r, u, f, rfl, hR, hU, rr, ru, hf, hn, k⟩ := h
    refine ⟨_, pss_cons (ps_set (i := 3) scMet.nd rfl (Or.inl rfl) (pe_lst (pa_cons (pv 2) pa_nil)))
      (pss_cons (ps_set (i := 4) scMet.nd rfl (Or.inl rfl) pe_int)
      (pss_cons (ps_while PassesOwn.never (pt_cmpR op_lt (pv 4) (pe_callB call_len_seq (by rfl) T.len PySem.boot_len (pa_cons (pv 3) pa_nil)) (nomark _))
        (pss_cons (ps_for PassesOwn.never rfl (pi_tup (pe_tup (pa_cons (pe_ix ix_seq (pv 0) (pe_ix ix_list (pv 3) (pv 4) (fun _ _ => rfl)) (fun _ _ => rfl)) (pa_cons (pe_ix ix_seq (pv 1) (pe_ix ix_list (pv 3) (pv 4) (fun _ _ => rfl)) (fun _ _ => rfl)) pa_nil)))) (pg_name (i := 5) scMet.nd rfl (Or.inl rfl))
          (pss_one (ps_if (pt_cmpR op_notIn_seq (pv 5) (pv 3) rfl) (pss_one (ps_expr (pe_bm PySem.F.plainAttrs_list PySem.F.slot_list_append PySem.F.type_list_append mt_append (pv 3) (pa_cons (pv 5) pa_nil)))) pss_nil)))
        (pss_one (ps_set (i := 4) scMet.nd rfl (Or.inl rfl) (pe_op op_add (pv 4) pe_int)))))
      (pss_one (ps_ret (pv 3))))), ?_⟩
    refine ⟨_, rfl, (by show 1 ≤ sizeLine; decide), fun l hl => ?_⟩
    refine while_by (fun σ H2 => ∃ (M : List Nat) (k : Nat) (o5 : Option V), σ = [some (.ref pr), some (.ref pu), some (.int (f : Int)), some (.ref l), some (.int (k : Int)), o5] ∧ Same H H2 ∧ H2 l = some (.lst (nv M)) ∧ Met n r u f M k) (fun σ _ => mu 4 σ) ?_ ?_ ?_
    · exact ⟨[f], 0, _, rfl, same_upd (Same.refl H) hl, upd_same, Met.start hf⟩
    · rintro σ H2 ⟨M, kk, o5, rfl, s2, h2l, hM⟩
      refine ⟨_, rfl, _, rfl, l, _, rfl, .inl (SqL.of h2l), _, _, rfl, rfl, _, rfl, ?_⟩
      rw [nv_len]
      refine ite2 (fun hlt => ?_) (fun hge => ?_)
      · have hlt : (kk : Int) < (M.length : Int) := of_decide_eq_true hlt
        have hk : kk < M.length := by omega
        have hx : M[kk]? = some M[kk] := List.getElem?_eq_getElem hk
        have hxn : M[kk] < n := hM.lt _ (List.getElem_mem hk)
        have hMl := hM.len
        -- for square in (right[..], up[..])
        refine ⟨_, rfl, _, rfl, _, rfl, l, _, _, _, rfl, rfl, SqL.of h2l, atI_nat (nv_get hx), rowIx (hR.same s2) rr hxn ?_⟩
        refine ⟨_, rfl, _, rfl, _, rfl, l, _, _, _, rfl, rfl, SqL.of h2l, atI_nat (nv_get hx), rowIx (hU.same s2) ru hxn ?_⟩
        refine ⟨(by show 2 ≤ sizeLine; decide), fun tp htp => ⟨tp, rfl, ⟨_, SqT.of upd_same⟩, ?_⟩⟩
        have nlt : l ≠ tp := ne_of_none h2l htp
        refine for_tup (K := K) (a := tp) (xs := [.int (nx r M[kk] : Int), .int (nx u M[kk] : Int)]) (fun i σ H3 => ∃ (o5 : Option V), σ = [some (.ref pr), some (.ref pu), some (.int (f : Int)), some (.ref l), some (.int (kk : Int)), o5] ∧ Same H H3 ∧ H3 tp = some (.tup [.int (nx r M[kk] : Int), .int (nx u M[kk] : Int)]) ∧
          H3 l = some (.lst (nv (([nx r M[kk], nx u M[kk]].take i).foldl put M)))) ?_ ?_ ?_ ?_
        · refine ⟨_, rfl, same_upd s2 (s2.free htp), upd_same, by rw [upd_ne nlt]; exact h2l⟩
        · rintro i σ H3 hi ⟨_, _, _, h3, _⟩
          exact SqT.of h3
        · rintro i x σ H3 hi ⟨o5, rfl, s3, h3, h3l⟩
          obtain ⟨y, ey, rfl⟩ := nv_get' (xs := [nx r M[kk], nx u M[kk]]) hi
          have hi2 : i < 2 := (List.getElem?_eq_some_iff.mp ey).1
          have hlen := foldl_put_len ([nx r M[kk], nx u M[kk]].take i) M
          have htk : ([nx r M[kk], nx u M[kk]].take i).length ≤ 2 := by rw [List.length_take]; exact Nat.min_le_right _ _
          have hfold : ([nx r M[kk], nx u M[kk]].take (i + 1)).foldl put M = put (([nx r M[kk], nx u M[kk]].take i).foldl put M) y := by
            rw [List.take_add_one, ey, List.foldl_append]; rfl
          rw [hfold]
          generalize hM' : ([nx r M[kk], nx u M[kk]].take i).foldl put M = M' at h3l hlen
          refine ⟨_, rfl, _, rfl, l, _, rfl, .inl (SqL.of h3l), rfl, nv_flat _, _, rfl, ?_⟩
          show (if (!inV (.int (y : Int)) (nv M')) = true then _ else _)
          rw [inV_nv]
          by_cases hy : y ∈ M'
          · rw [decide_eq_true hy]
            refine iteF ?_
            refine ⟨_, rfl, s3, h3, ?_⟩
            unfold put; rw [if_pos hy]; exact h3l
          · rw [decide_eq_false hy]
            refine iteT ?_
            refine ⟨_, rfl, .inl ⟨rfl, _, SqL.of h3l⟩, _, rfl, l, _, _, rfl, rfl, h3l, ?_, ?_⟩
            · rw [nv_len]; exact small1000 (by omega)
            refine ⟨_, rfl, same_upd s3 hl, by rw [upd_ne nlt.symm]; exact h3, ?_⟩
            unfold put; rw [if_neg hy, upd_same, nv_snoc]
        · rintro σ H3 ⟨o5, rfl, s3, h3, h3l⟩
          refine ⟨_, rfl, _, _, rfl, rfl, ⟨_, kk + 1, _, rfl, s3, h3l, hM.step rr ru hx⟩, ?_⟩
          show (100 - ((kk : Int) + 1)).toNat < (100 - (kk : Int)).toNat
          omega
      · have hge : ¬ (kk : Int) < (M.length : Int) := fun z => hge (decide_eq_true z)
        exact ⟨_, rfl, k H2 l M s2 hl h2l (hM.all (by omega))⟩
    · rintro σ H Q Q' h ⟨v, e1, v', e2, p, ys, e3, sq, i, j, e4, e5, k, e6, q⟩
      exact ⟨v, e1, v', e2, p, ys, e3, sq, i, j, e4, e5, k, e6, h _ _ q⟩
end
end K1
namespace K1
open PySem L2 Sq
def spAmong (K : PySem.W.Frag) : Sp := fun vs H Q _ => ∃ (pr pu pm : Addr) (n : Nat) (r u S : List Nat), vs = [.ref pr, .ref pu, .ref pm] ∧ RowAt K H pr r ∧ RowAt K H pu u ∧ SqL K H pm (nv S) ∧ Row n r ∧ Row n u ∧ n ≤ 36 ∧ S.Nodup ∧
  (∀ x ∈ S, x < n ∧ nx r x ∈ S ∧ nx u x ∈ S) ∧ ∀ (H' : Hp) (a : Addr), Same H H' → ShAt H' a (among r S) (among u S) → Q (.ref a) H'
/-- the places of the first i of S -/
def plc (S : List Nat) (i : Nat) : List (Key × V) := (List.range i).map fun k => (Sum.inl ((S.getD k 0 : Nat) : Int), V.int (k : Int))
theorem plc_succ (S : List Nat) (i : Nat) : plc S (i + 1) = plc S i ++ [(Sum.inl ((S.getD i 0 : Nat) : Int), V.int (i : Int))] := by
  unfold plc; rw [List.range_succ, List.map_append]; rfl
theorem plc_len (S : List Nat) (i : Nat) : (plc S i).length = i := by simp [plc]
theorem plc_val {S : List Nat} (nd : S.Nodup) : ∀ {i : Nat}, i ≤ S.length → ∀ {x : Nat}, x ∈ S → valV (plc S i) (Sum.inl (x : Int) : Key) = if S.idxOf x < i then some (.int (S.idxOf x : Int)) else none
  | 0, _, x, hx => rfl
  | i + 1, hi, x, hx => by
    have hlt : i < S.length := hi
    have e0 : S.getD i 0 = S[i] := by simp [List.getD_eq_getElem?_getD, hlt]
    have hidx : S.idxOf S[i] = i := idx_get nd (List.getElem?_eq_getElem hlt)
    have hnone : valV (plc S i) (Sum.inl ((S[i] : Nat) : Int) : Key) = none := by
      rw [plc_val nd (by omega) (List.getElem_mem hlt), hidx, if_neg (Nat.lt_irrefl _)]
    rw [plc_succ, e0, valV_snoc _ _ _ _ hnone]
    by_cases e : x = S[i]
    · subst e
      rw [if_pos rfl, hidx, if_pos (Nat.lt_succ_self _)]
    · have e' : ¬ (Sum.inl (x : Int) : Key) = Sum.inl ((S[i] : Nat) : Int) := fun z => e (by have := Sum.inl.inj z; omega)
      rw [if_neg e', plc_val nd (by omega) hx]
      have hne : S.idxOf x ≠ i := fun z => e (by
        have := get_idx hx
        rw [z, List.getElem?_eq_getElem hlt] at this
        exact (Option.some.inj this).symm)
      by_cases h : S.idxOf x < i
      · rw [if_pos h, if_pos (by omega)]
      · rw [if_neg h, if_neg (by omega)]
section
variable {P : Program} {w : World} {K : PySem.W.Frag} {mg : Str → Option Value} {base : Heap}
theorem scAmong : FnScope ["_law_right", "_law_up", "_law_met_here", "_law_place", "_law_k", "_law_square", "_law_one"] ["_law_right", "_law_up", "_law_met_here"] (defScope sAmong) := ⟨rfl, rfl, rfl, by decide +kernel, rfl, by decide +kernel, by decide +kernel⟩
theorem ndA1 : (["_law_square", "_law_place", "_law_right"] : List Str).Nodup := by decide +kernel
theorem ndA2 : (["_law_square", "_law_place", "_law_up"] : List Str).Nodup := by decide +kernel
/-- the comprehension's list: each square's neighbour, by its place -/
theorem compAmong {K : PySem.W.Frag} {Hc : Hp} {pm dp px : Addr} {x S : List Nat} {n : Nat} {Q : VK} {σ : St} {pull : List Nat} (h2 : σ[2]? = some (some (.ref pm))) (hb : bst 1 pull σ = [none, some (.ref dp), some (.ref px)])
    (hp : Hc dp = some (.dK (plc S S.length))) (hx : RowAt K Hc px x) (hS : SqL K Hc pm (nv S)) (rx : Row n x) (nd : S.Nodup) (hn : S.length ≤ 36) (hc : ∀ y ∈ S, y < n ∧ nx x y ∈ S)
    (k : ∀ (H' : Hp) (d : Addr), Same Hc H' → H' d = some (.lst (nv (among x S))) → Q (.ref d) H') :
    tComp (iList K (tVar 2)) 1 pull (gName 0) (tDGet (tVar 1) (tOp (rIx K) (tVar 2) (tVar 0))) σ Hc Q := by
  refine ⟨_, h2, pm, rfl, ⟨_, hS⟩, fun d hd => ?_⟩
  rw [hb]
  refine comp_by (Q := fun d H' => Q (.ref d) H') S.length (nv (among x S)) (by rw [nv_len, among_len]) (fun i σ H3 => ∃ o, σ = [o, some (.ref dp), some (.ref px)] ∧ Same Hc H3) ⟨_, rfl, same_upd (Same.refl _) hd⟩ ?_ ?_
  · rintro i σ H3 hi ⟨o, rfl, s3⟩ hd3
    have hS3 := s3.seq hS
    refine ⟨⟨_, _, hS3, nv_get (List.getElem?_eq_getElem hi)⟩, fun y H4 ⟨e, hy⟩ => ?_⟩
    subst e
    have hy := hy _ hS3
    rw [nv_get (List.getElem?_eq_getElem hi)] at hy
    cases hy
    have hm : S[i] ∈ S := List.getElem_mem hi
    refine ⟨_, rfl, _, rfl, _, rfl, rowIx (hx.same s3) rx (hc _ hm).1 ?_⟩
    have hv : valV (plc S S.length) (Sum.inl ((nx x S[i] : Nat) : Int) : Key) = some (.int (S.idxOf (nx x S[i]) : Int)) := by
      rw [plc_val nd (Nat.le_refl _) (hc _ hm).2, if_pos (List.idxOf_lt_length_of_mem (hc _ hm).2)]
    have hg := DGet.k (k := (Sum.inl ((nx x S[i] : Nat) : Int) : Key)) (s3 _ _ hp)
    rw [hv] at hg
    refine ⟨dp, _, rfl, hg, cpost hi (by omega) hd3 (nv_get ?_) ⟨_, rfl, same_upd s3 hd⟩⟩
    unfold among
    rw [List.getElem?_map, List.getElem?_eq_getElem hi]
    rfl
  · rintro σ H3 ⟨o, rfl, s3⟩ hd3
    exact ⟨⟨_, s3.seq hS, by rw [nv_len]; exact Nat.le_refl _⟩, k H3 d s3 hd3⟩
theorem ok_among {f : Addr} {fd : FuncData} (T : Bi mg) (F : Fn K mg "_law_among" sAmong ["_law_right", "_law_up", "_law_met_here"] f fd) : FnOk P w K mg base CX0 1 f fd ["_law_right", "_law_up", "_law_met_here"] (spAmong K) := by
  refine F.F.ok scAmong (fun vs H Q E h => ?_) (fun cdv A outer s H vs Q E hr h => ?_)
  · obtain ⟨pr, pu, pm, n, r, u, S, rfl, _⟩ := h; rfl
  · obtain ⟨pr, pu, pm, n, r, u, S, rfl, hR, hU, hS, rr, ru, hn, nd, hcl, k⟩ := h
    have hu := hu_of hr
    refine ⟨_, pss_cons (ps_set (i := 3) scAmong.nd rfl (Or.inr rfl) pe_dnewK)
      (pss_cons (ps_for PassesOwn.never rfl (pi_enumL rfl T.enum (pa_cons (pv 2) pa_nil)) (pg_tupE rfl (pgs_cons (pg_name (i := 4) scAmong.nd rfl (Or.inl rfl)) (pgs_cons (pg_name (i := 5) scAmong.nd rfl (Or.inl rfl)) pgs_nil)))
        (pss_one (ps_dput hu (pv 3) (pv 5) (pv 4) rfl)))
      (pss_cons (ps_set (i := 6) scAmong.nd rfl (Or.inl rfl) (pe_callTy call_tuple_of rfl T.tuple boot_tuple (pa_cons
        (pe_comp (N := ["_law_right", "_law_up", "_law_met_here", "_law_place", "_law_k", "_law_square", "_law_one"]) (names := (defScope sAmong).names) (N' := ["_law_square", "_law_place", "_law_right"]) (k := 1) (pull := [3, 0]) (te := tDGet (tVar 1) (tOp (rIx K) (tVar 2) (tVar 0))) rfl
          ⟨by rfl, by decide +kernel, by decide +kernel, by rfl, by decide +kernel, by decide +kernel⟩ rfl rfl (pi_list (pv 2)) (fun _ _ _ _ _ _ => pg_name (i := 0) ndA1 rfl (Or.inl rfl)) (fun _ _ _ _ _ _ => pe_dget hu (pv 1) (pe_ix ix_seq (pv 2) (pv 0) (fun _ _ => rfl)) (fun _ _ => rfl))) pa_nil)))
      (pss_one (ps_ret (pe_tup (pa_cons (pv 6) (pa_cons (pe_callTy call_tuple_of rfl T.tuple boot_tuple (pa_cons
        (pe_comp (N := ["_law_right", "_law_up", "_law_met_here", "_law_place", "_law_k", "_law_square", "_law_one"]) (names := (defScope sAmong).names) (N' := ["_law_square", "_law_place", "_law_up"]) (k := 1) (pull := [3, 1]) (te := tDGet (tVar 1) (tOp (rIx K) (tVar 2) (tVar 0))) rfl
          ⟨by rfl, by decide +kernel, by decide +kernel, by rfl, by decide +kernel, by decide +kernel⟩ rfl rfl (pi_list (pv 2)) (fun _ _ _ _ _ _ => pg_name (i := 0) ndA2 rfl (Or.inl rfl)) (fun _ _ _ _ _ _ => pe_dget hu (pv 1) (pe_ix ix_seq (pv 2) (pv 0) (fun _ _ => rfl)) (fun _ _ => rfl))) pa_nil)) pa_nil))))))), ?_⟩
    have hSl : S.length ≤ n := by
      have := sub_len S (List.range n) nd fun x hx => List.mem_range.mpr (hcl x hx).1
      simpa using this
    intro dp hdp
    have s1 : Same H (upd H dp (.dK [])) := same_upd (Same.refl H) hdp
    refine ⟨_, rfl, pm, rfl, ⟨_, s1.seq hS⟩, for_en (xs := nv S) (fun i σ H2 => ∃ o4 o5 o6, σ = [some (.ref pr), some (.ref pu), some (.ref pm), some (.ref dp), o4, o5, o6] ∧ Same H H2 ∧ H2 dp = some (.dK (plc S i))) ⟨_, _, _, rfl, s1, upd_same⟩ (fun i σ H2 _ ⟨_, _, _, _, s2, _⟩ => s2.seq hS) ?_ ?_⟩
    · rintro i x σ H2 T hx hT ⟨o4, o5, o6, rfl, s2, h2⟩
      obtain ⟨y, hy, rfl⟩ := nv_get' hx
      have hi : i < S.length := (List.getElem?_eq_some_iff.mp hy).1
      have ey : S[i] = y := (List.getElem?_eq_some_iff.mp hy).2
      have ndp : dp ≠ T := ne_of_none h2 hT
      have h2' : (upd H2 T (tupE T [.int (i : Int), .int (y : Int)])) dp = some (.dK (plc S i)) := by rw [upd_ne ndp]; exact h2
      refine ⟨T, _, rfl, upd_same, rfl, _, _, rfl, _, _, rfl, rfl, ?_⟩
      refine ⟨_, rfl, _, rfl, _, rfl, dp, _, rfl, DPut.k (k := (Sum.inl (y : Int) : Key)) h2' (by rw [plc_len]; exact small1000 (by omega)), ?_⟩
      refine ⟨_, _, _, rfl, same_upd (same_upd s2 (s2.free hT)) hdp, ?_⟩
      have hnone : valV (plc S i) (Sum.inl (y : Int) : Key) = none := by
        rw [plc_val nd (by omega) (by rw [← ey]; exact List.getElem_mem hi), idx_get nd hy, if_neg (Nat.lt_irrefl _)]
      have e0 : S.getD i 0 = y := by simp [List.getD_eq_getElem?_getD, hi, ey]
      rw [upd_same, putK_new _ hnone, plc_succ, e0]
    · rintro σ H2 ⟨o4, o5, o6, rfl, s2, h2⟩
      rw [nv_len] at h2
      -- one
      dsimp only [tSeq, tAsg, tCB, tCons]
      refine compAmong rfl rfl h2 (hR.same s2) (s2.seq hS) rr nd (by omega) (fun y hy => ⟨(hcl y hy).1, (hcl y hy).2.1⟩) ?_
      intro H3 d3 s3 h3
      refine ⟨d3, _, rfl, .inl ⟨SqL.of h3, fun t1 ht1 => ?_⟩⟩
      have s3' : Same H2 (upd H3 t1 (.tup (nv (among r S)))) := same_upd s3 (s3.free ht1)
      have s4 : Same H (upd H3 t1 (.tup (nv (among r S)))) := s2.trans s3'
      refine ⟨_, rfl, ?_⟩
      dsimp only [tSeq, tAsg, tCB, tCons]
      refine compAmong rfl rfl (s3' _ _ h2) (hU.same s4) (s4.seq hS) ru nd (by omega) (fun y hy => ⟨(hcl y hy).1, (hcl y hy).2.2⟩) ?_
      intro H5 d5 s5 h5
      refine ⟨d5, _, rfl, .inl ⟨SqL.of h5, fun t2 ht2 => ?_⟩⟩
      have s6 : Same (upd H3 t1 (.tup (nv (among r S)))) (upd H5 t2 (.tup (nv (among u S)))) := same_upd s5 (s5.free ht2)
      refine ⟨by show 2 ≤ sizeLine; decide, fun a ha => k _ a ?_ ⟨t1, t2, upd_same, ?_, ?_⟩⟩
      · exact same_upd (s4.trans s6) ((s4.trans s6).free ha)
      · have e1 := s6 t1 _ upd_same
        rw [upd_ne (ne_of_none e1 ha)]; exact e1
      · have e2 : (upd H5 t2 (.tup (nv (among u S)))) t2 = some (.tup (nv (among u S))) := upd_same
        rw [upd_ne (ne_of_none e2 ha)]; exact e2
end
end K1
namespace L2
open PySem PySem.Spec PyProof.Rows
section
variable {X : Cx} {o i value : Expr} {pos pos' : Pos} {to ti tv : TE}
/-- xs[i] = v -/
def sLPut (to ti tv : TE) : TS := fun D σ H => tv σ H fun v H1 => to σ H1 fun x H2 => ti σ H2 fun y H3 => rSetL x y v H3 fun H4 => D.nx σ H4
theorem ps_lput (ho : PE X o to) (hi : PE X i ti) (hv : PE X value tv) (hs : swapsWith value (some (.Subscript o i pos')) pos.line X.env = pure false) : PS X (.Assign [.Subscript o i pos'] value pos) (sLPut to ti tv) := by
  intro pins s σ H D I h
  refine wpAny_Assign_Subscript (thn (hv pins s σ H _ I h) fun r s1 ⟨v, H1, I1, rv, q1⟩ => thn (ho pins s1 σ H1 _ I1 q1) fun u s2 ⟨x, H2, I2, rx, q2⟩ => thn (hi pins s2 σ H2 _ I2 q2) fun iv s3 ⟨y, H3, I3, ry, q3⟩ => ?_) hs
  exact thn (set_list pins s3 σ H3 x y v u iv r _ I3 rx ry rv q3) fun _ s4 ⟨H4, I4, q4⟩ => ⟨σ, H4, I4, q4⟩
theorem PI.or {tg iter : Expr} {w1 w2 : TI} (h1 : PI X tg iter w1) (h2 : PI X tg iter w2) : PI X tg iter (fun σ H R => w1 σ H R ∨ w2 σ H R) := by
  intro pins s σ H R I h
  rcases h with h | h
  · exact h1 pins s σ H R I h
  · exact h2 pins s σ H R I h
end
end L2
namespace K1
open PySem L2 Sq
theorem nv_set (xs : List Nat) (j x : Nat) : (nv xs).set j (.int (x : Int)) = nv (xs.set j x) := by
  unfold nv
  rw [List.map_set]
theorem back_fill {n : Nat} {r bl : List Nat} (rr : Row n r) (hl : bl.length = n) (h : ∀ k, k < n → bl[nx r k]? = some k) : bl = back r := by
  refine List.ext_getElem? fun x => ?_
  by_cases hx : x < n
  · have e := h (r.idxOf x) (rr.idx_lt hx)
    rw [rr.nx_idx hx] at e
    rw [e, rr.back.get hx, back_nx rr hx]
  · rw [List.getElem?_eq_none (by omega), List.getElem?_eq_none (by rw [back_len, rr.len]; omega)]
/-- all([_law_whole(x) for x in row]), row in the slot j -/
theorem compWhole {K : PySem.W.Frag} {Hc : Hp} {p : Addr} {r : List Nat} {j : Nat} {Q : VK} {σ : St} (hj : σ[j]? = some (some (.ref p))) (hp : SqT K Hc p (nv r)) (hn : r.length ≤ 36)
    (k : ∀ (H' : Hp) (d : Addr), Same Hc H' → H' d = some (.lst ((List.replicate r.length true).map V.bl)) → Q (.ref d) H') :
    tComp (iTup K (tVar j)) 1 [] (gName 0) (tCall spWhole [] E0 (tCons (tVar 0) tNil)) σ Hc Q := by
  refine ⟨_, hj, p, rfl, ⟨_, hp⟩, fun d hd => ?_⟩
  refine comp_by (Q := fun d H' => Q (.ref d) H') r.length ((List.replicate r.length true).map V.bl) (by simp) (fun i σ H3 => ∃ o, σ = [o] ∧ Same Hc H3) ⟨none, rfl, same_upd (Same.refl _) hd⟩ ?_ ?_
  · rintro i σ H3 hi ⟨o, rfl, s3⟩ hd3
    have hp3 := Same.tseq s3 hp
    refine ⟨⟨_, _, hp3, nv_get (List.getElem?_eq_getElem hi)⟩, fun y H4 ⟨e, hy⟩ => ?_⟩
    subst e
    have hy := hy _ hp3
    rw [nv_get (List.getElem?_eq_getElem hi)] at hy
    cases hy
    refine ⟨_, rfl, _, rfl, cpost hi (by omega) hd3 (by simp [hi]) ⟨_, rfl, same_upd s3 hd⟩⟩
  · rintro σ H3 ⟨o, rfl, s3⟩ hd3
    exact ⟨⟨_, Same.tseq s3 hp, by rw [nv_len]; exact Nat.le_refl _⟩, k H3 d s3 hd3⟩
theorem all_rep (n : Nat) : (List.replicate n true).all id = true := by
  rw [List.all_eq_true]
  intro x hx
  rw [(List.mem_replicate.mp hx).2]; rfl
end K1
namespace K1
open PySem L2 Sq
def spSheet2 (K : PySem.W.Frag) : Sp := fun vs H Q _ => ∃ (a : Addr) (ns : List Int) (j : Int) (n : Nat), vs = [.ref a, .int j, .int (n : Int)] ∧ SqL K H a (ns.map V.int) ∧ 0 ≤ j ∧ 1 ≤ n ∧ n ≤ 36 ∧
  ∀ (H' : Hp) (b : Addr) (m : Nat) (r u : List Nat), Same H H' → ShAt H' b r u → Sheet m r u → m ≤ n → Q (.ref b) H'
section
variable {P : Program} {w : World} {K : PySem.W.Frag} {mg : Str → Option Value} {base : Heap}
theorem scSheet2 : FnScope ["_law_script", "_law_at", "_law_many", "_law_right", "_law_up"] ["_law_script", "_law_at", "_law_many"] (defScope sSheet) := ⟨rfl, rfl, rfl, by decide +kernel, rfl, by decide +kernel, by decide +kernel⟩
theorem ok_sheet2 {f fl fm fa : Addr} {fd fdl fdm fda : FuncData} (T : Bi mg) (F : Fn K mg "_law_sheet" sSheet ["_law_script", "_law_at", "_law_many"] f fd)
    (FL : Fn K mg "_law_lines" sLines ["_law_script", "_law_at", "_law_many"] fl fdl) (GL : FnOk P w K mg base CX0 2 fl fdl ["_law_script", "_law_at", "_law_many"] (spLines K))
    (FM : Fn K mg "_law_met" sMet ["_law_right", "_law_up", "_law_first"] fm fdm) (GM : FnOk P w K mg base CX0 1 fm fdm ["_law_right", "_law_up", "_law_first"] (spMet K))
    (FA : Fn K mg "_law_among" sAmong ["_law_right", "_law_up", "_law_met_here"] fa fda) (GA : FnOk P w K mg base CX0 1 fa fda ["_law_right", "_law_up", "_law_met_here"] (spAmong K)) :
    FnOk P w K mg base CX0 3 f fd ["_law_script", "_law_at", "_law_many"] (spSheet2 K) := by
  refine F.F.ok scSheet2 (fun vs H Q E h => ?_) (fun cdv A outer s H vs Q E hr h => ?_)
  · obtain ⟨a, ns, j, n, rfl, _⟩ := h; rfl
  · obtain ⟨a, ns, j, n, rfl, hS, h0, h1, hn, k⟩ := h
    have hr1 : Room 1 _ := hr.mono (by decide)
    refine ⟨_, pss_cons (ps_asg (pe_call GL hr rfl FL.m FL.F.kp FL.b .nil pass0 (pa_cons (pv 0) (pa_cons (pv 1) (pa_cons (pv 2) pa_nil)))) (pg_lst2 rfl (pgs_cons (pg_name (i := 3) scSheet2.nd rfl (Or.inl rfl)) (pgs_cons (pg_name (i := 4) scSheet2.nd rfl (Or.inl rfl)) pgs_nil))))
      (pss_one (ps_ret (pe_call GA hr1 rfl FA.m FA.F.kp FA.b .nil pass0 (pa_cons (pv 3) (pa_cons (pv 4) (pa_cons (pe_callB (call_sorted rfl) rfl T.sorted boot_sorted (pa_cons (pe_call GM hr1 rfl FM.m FM.F.kp FM.b .nil pass0 (pa_cons (pv 3) (pa_cons (pv 4) (pa_cons pe_int pa_nil)))) pa_nil)) pa_nil)))))), ?_⟩
    refine ⟨_, rfl, _, rfl, _, rfl, a, ns, j, n, rfl, hS, h0, h1, hn, fun H1 l p q r u s1 hl hp hq rr ru => ?_⟩
    refine ⟨l, _, _, rfl, SqL.of hl, _, _, rfl, _, _, rfl, rfl, ?_⟩
    refine ⟨_, rfl, _, rfl, _, rfl, _, rfl, p, q, n, r, u, 0, rfl, .inl (SqL.of hp), .inl (SqL.of hq), rr, ru, h1, hn, fun H2 lm M s2 _ hm hM => ?_⟩
    have hMl : M.length ≤ n := by
      have := sub_len M (List.range n) hM.nd fun x hx => List.mem_range.mpr (hM.lt x hx)
      simpa using this
    refine ⟨lm, M, rfl, .inl (SqL.of hm), by omega, fun l2 S hl2 pS sS => ?_⟩
    have s3 : Same H1 (upd H2 l2 (.lst (nv S))) := same_upd s2 (s2.free hl2)
    have hS' := hM.perm pS
    refine ⟨p, q, l2, n, r, u, S, rfl, .inl (SqL.of (s3 _ _ hp)), .inl (SqL.of (s3 _ _ hq)), SqL.of upd_same, rr, ru, hn, hS'.nd, fun x hx => ⟨hS'.lt x hx, hS'.shut x hx⟩, fun H4 b s4 hb => ?_⟩
    exact k H4 b S.length _ _ (s1.trans (s3.trans s4)) hb (among_sheet hn rr ru hS' sS) (by rw [pS.length_eq]; exact hMl)
end
end K1
namespace K1
open PySem L2 Sq
def spIsSheet : Sp := fun vs H Q _ => ∃ (a : Addr) (m : Nat) (r u : List Nat), vs = [.ref a, .int (m : Int)] ∧ ShAt H a r u ∧ Sheet m r u ∧ ∀ H' : Hp, Same H H' → Q (.bl true) H'
section
variable {P : Program} {w : World} {K : PySem.W.Frag} {mg : Str → Option Value} {base : Heap}
end
end K1
namespace K1
open PySem L2 Sq
theorem nd_depth : ∀ xs : List Nat, PyData.depthAll (nd xs) = 0
  | [] => rfl
  | x :: xs => by show max 0 (PyData.depthAll (nd xs)) = 0; rw [nd_depth xs]; rfl
theorem sd_depth (r u : List Nat) : (sd r u).depth ≤ 64 := by
  show max (PyData.depthAll (nd r) + 1) (max (PyData.depthAll (nd u) + 1) 0) + 1 ≤ 64
  rw [nd_depth, nd_depth]; decide
theorem unitsD {A : Around} {k : Nat} (hr : Room k A) {d e : PyData} (h : d.depth ≤ 64) : A.units + min d.depth e.depth < cLine :=
  Nat.lt_of_le_of_lt (Nat.add_le_add_left (Nat.le_trans (Nat.min_le_left _ _) h) _) hr.units
/-- what is there stays, but for the list at l -/
def But (l : Addr) (H H' : Hp) : Prop := ∀ b o, b ≠ l → H b = some o → H' b = some o
end K1
namespace K1
open PySem L2 Sq
section
variable {P : Program} {w : World} {K : PySem.W.Frag} {mg : Str → Option Value} {base : Heap}
theorem scIsSheet : FnScope ["_law_found", "_law_many", "_law_line"] ["_law_found", "_law_many"] (defScope sIsSheet) := ⟨rfl, rfl, rfl, by decide +kernel, rfl, by decide +kernel, by decide +kernel⟩
theorem ndS1 : (["_law_square"] : List Str).Nodup := by decide +kernel
theorem ok_isSheet {f fw fm : Addr} {fd fdw fdm : FuncData} (T : Bi mg) (F : Fn K mg "_law_is_sheet" sIsSheet ["_law_found", "_law_many"] f fd)
    (FW : Fn K mg "_law_whole" sWhole ["_law_found"] fw fdw) (GW : FnOk P w K mg base CX0 1 fw fdw ["_law_found"] spWhole)
    (FM : Fn K mg "_law_met" sMet ["_law_right", "_law_up", "_law_first"] fm fdm) (GM : FnOk P w K mg base CX0 1 fm fdm ["_law_right", "_law_up", "_law_first"] (spMet K)) :
    FnOk P w K mg base CX0 2 f fd ["_law_found", "_law_many"] spIsSheet := by
  refine F.F.ok scIsSheet (fun vs H Q E h => ?_) (fun cdv A outer s H vs Q E hr h => ?_)
  · obtain ⟨a, m, r, u, rfl, _⟩ := h; rfl
  · obtain ⟨a, m, r, u, rfl, hsh, hS, k⟩ := h
    obtain ⟨p, q, h1, h2, h3⟩ := id hsh
    refine ⟨_, pss_cons (ps_if (PW.pt (pw_or (pt_not (pt_val (pe_callB call_isinst rfl T.isin boot_isin (pa_cons (pv 0) (pa_cons (pe_bltn (v := .ty "tuple") rfl T.tuple boot_tuple rfl) pa_nil)))))
          (pw_or1 (pt_cmpR op_ne (pe_callB call_len_seq rfl T.len PySem.boot_len (pa_cons (pv 0) pa_nil)) pe_int (nomark _))))) (pss_one (ps_ret pe_bl)) pss_nil)
      (pss_cons (ps_for PassesOwn.never rfl (pi_tup (pv 0)) (pg_name (i := 2) scIsSheet.nd rfl (Or.inl rfl))
        (pss_cons (ps_if (PW.pt (pw_or (pt_not (pt_val (pe_callB call_isinst rfl T.isin boot_isin (pa_cons (pv 2) (pa_cons (pe_bltn (v := .ty "tuple") rfl T.tuple boot_tuple rfl) pa_nil)))))
          (pw_or1 (pt_cmpR op_ne (pe_callB call_len_seq rfl T.len PySem.boot_len (pa_cons (pv 2) pa_nil)) (pv 1) (nomark _))))) (pss_one (ps_ret pe_bl)) pss_nil)
        (pss_cons (ps_if (pt_not (pt_val (pe_callB (call_all_bools rfl) rfl T.all boot_all (pa_cons
          (pe_comp (N := ["_law_found", "_law_many", "_law_line"]) (names := (defScope sIsSheet).names) (N' := ["_law_square"]) (k := 1) (pull := []) (te := tCall spWhole [] E0 (tCons (tVar 0) tNil)) rfl
            ⟨by rfl, by decide +kernel, by decide +kernel, by rfl, by decide +kernel, by decide +kernel⟩ rfl rfl (pi_tup (pv 2)) (fun _ _ _ _ _ _ => pg_name (i := 0) ndS1 rfl (Or.inl rfl))
            (fun _ _ _ _ _ _ => pe_call GW hr rfl FW.m FW.F.kp FW.b .nil pass0 (pa_cons (pv 0) pa_nil))) pa_nil)))) (pss_one (ps_ret pe_bl)) pss_nil)
        (pss_one (ps_if (pt_cmpR op_neD (pe_callB (call_sorted rfl) rfl T.sorted boot_sorted (pa_cons (pv 2) pa_nil)) (pe_callTy (call_list_rng rfl) rfl T.list boot_list (pa_cons (pe_callTy call_range1 rfl T.range PyProof.Rows.boot_range (pa_cons (pv 1) pa_nil)) pa_nil)) (nomark _)) (pss_one (ps_ret pe_bl)) pss_nil)))))
      (pss_one (ps_ret (pe_cmpR op_eq (pe_callB call_len_seq rfl T.len PySem.boot_len (pa_cons (pe_call GM hr rfl FM.m FM.F.kp FM.b .nil pass0 (pa_cons (pe_ix ix_tup (pv 0) pe_int (fun _ _ => rfl)) (pa_cons (pe_ix ix_tup (pv 0) pe_int (fun _ _ => rfl)) (pa_cons pe_int pa_nil)))) pa_nil)) (pv 1) (nomark _))))), ?_⟩
    refine ⟨_, rfl, _, _, _, _, rfl, .tup h1, kit_tup_tup K, _, rfl, ?_⟩
    refine iteF ?_
    refine ⟨_, rfl, a, _, rfl, .inr (SqT.of h1), rfl, _, rfl, ?_⟩
    refine iteNS rfl ?_
    refine ⟨_, rfl, a, rfl, ⟨_, SqT.of h1⟩, for_tup (K := K) (a := a) (xs := [.ref p, .ref q]) (fun i σ H2 => ∃ o2, σ = [some (.ref a), some (.int (m : Int)), o2] ∧ Same H H2) ⟨_, rfl, Same.refl H⟩ (fun i σ H2 _ ⟨_, _, s2⟩ => SqT.of (s2 _ _ h1)) ?_ ?_⟩
    · rintro i x σ H2 hx ⟨o2, rfl, s2⟩
      obtain ⟨b, row, rfl, hb, rrow⟩ : ∃ b row, x = .ref b ∧ H b = some (.tup (nv row)) ∧ Row m row := by
        match i, hx with
        | 0, hx => cases hx; exact ⟨p, r, rfl, h2, hS.row⟩
        | 1, hx => cases hx; exact ⟨q, u, rfl, h3, hS.col⟩
        | i + 2, hx => cases hx
      have hb2 := s2 _ _ hb
      refine ⟨_, rfl, _, _, _, _, rfl, .tup hb2, kit_tup_tup K, _, rfl, ?_⟩
      refine iteF ?_
      refine ⟨_, rfl, b, _, rfl, .inr (SqT.of hb2), _, rfl, rfl, _, rfl, ?_⟩
      refine iteNS (by rw [nv_len, rrow.len]) ?_
      dsimp only [tNext, tSeq, tIfS, tNot, tB, tCB, tCons]
      refine compWhole rfl (SqT.of hb2) (by rw [rrow.len]; exact hS.most) fun H3 d s3 hd3 => ?_
      refine ⟨d, _, rfl, SqL.of hd3, _, rfl, ?_⟩
      rw [all_rep]
      refine iteF ?_
      have s23 := s2.trans s3
      refine ⟨_, rfl, b, row, rfl, .inr (.inl (SqT.of (s23 _ _ hb))), by rw [rrow.len]; have := hS.most; omega, fun l S hl pS sS => ?_⟩
      have eS : S = List.range m := rrow.sorted pS sS
      subst eS
      refine ⟨_, rfl, (m : Int), rfl, fun r0 hr0 => ⟨r0, m, rfl, upd_same, by have := hS.most; omega, fun l4 hl4 => ?_⟩⟩
      have hlr : l ≠ r0 := ne_of_none upd_same hr0
      have e1 : (upd (upd H3 l (.lst (nv (List.range m)))) r0 (.rng 0 (m : Int))) l = some (.lst (nv (List.range m))) := by rw [upd_ne hlr, upd_same]
      have e2 : (upd (upd (upd H3 l (.lst (nv (List.range m)))) r0 (.rng 0 (m : Int))) l4 (.lst (nv (List.range m)))) l = some (.lst (nv (List.range m))) := by rw [upd_ne (ne_of_none e1 hl4)]; exact e1
      refine ⟨.list (nd (List.range m)), .list (nd (List.range m)), .lst (SqL.of e2) (nd_all _), .lst (SqL.of upd_same) (nd_all _), nd_lay _, nd_lay _, ?_, _, rfl, ?_⟩
      · have hu := hr.units
        show _ + min (PyData.depthAll (nd (List.range m)) + 1) (PyData.depthAll (nd (List.range m)) + 1) < cLine
        rw [nd_depth]
        exact Nat.lt_of_le_of_lt (Nat.add_le_add_left (by decide : min (0 + 1) (0 + 1) ≤ 64) _) hu
      · show if (!PyData.eqvAll (nd (List.range m)) (nd (List.range m))) = true then _ else _
        rw [nd_eqv, decide_eq_true rfl]
        refine iteF ?_
        refine ⟨_, rfl, ?_⟩
        have f1 : H l = none := s23.free hl
        have g1 : (upd H3 l (.lst (nv (List.range m)))) r0 = none := hr0
        have s4 : Same H (upd H3 l (.lst (nv (List.range m)))) := same_upd s23 f1
        have s5 := same_upd (o := .rng 0 (m : Int)) s4 (s4.free hr0)
        exact same_upd s5 (s5.free hl4)
    · rintro σ H2 ⟨o2, rfl, s2⟩
      have h1' := s2 _ _ h1
      refine ⟨_, rfl, a, _, 0, _, rfl, rfl, SqT.of h1', atI_nat (j := 0) rfl, _, rfl, a, _, 1, _, rfl, rfl, SqT.of h1', atI_nat (j := 1) rfl, ?_⟩
      refine ⟨p, q, m, r, u, 0, rfl, .inr (SqT.of (s2 _ _ h2)), .inr (SqT.of (s2 _ _ h3)), hS.row, hS.col, hS.pos, hS.most, fun H3 l M s3 _ hl hM => ?_⟩
      refine ⟨l, _, rfl, .inl (SqL.of hl), _, rfl, rfl, ?_⟩
      rw [nv_len, (hM.full hS).len, decide_eq_true rfl]
      exact k H3 (s2.trans s3)
end
end K1
namespace L2
open PySem PySem.Spec PyProof.Rows
/-- the signs of a text, one by one -/
def Its (z : Str) : It := ⟨fun i _ => i < z.length, fun i H x H' => H' = H ∧ ∃ c, z.cps[i]? = some c ∧ x = .str ⟨#[c]⟩, fun i _ => z.length = i⟩
theorem turn_str {P : Program} {w : World} {K : PySem.W.Frag} {tg : Expr} (it : Addr) (z : Str) (t : Tok) : Turn P w K tg (Its z) [it] it (fun i h => h.IsStrIter it (strIterType z) z t i) := by
  have W : ∀ {A : Around}, A.handled = none → Walks P w A it [it] [it] z.cps.size (SignAt z) (fun i h => h.IsStrIter it (strIterType z) z t i) := by
    intro A hh
    unfold strIterType
    split
    · exact Walks.strAscii hh it z t
    · exact Walks.strWide hh it z t
  have hty : ["enumerate", "zip", "dict_itemiterator", "dict_reverseitemiterator", "odict_iterator", "itertools.zip_longest", "itertools.pairwise"].contains (strIterType z) = false := by
    unfold strIterType; split <;> decide
  exact {
    mem := by simp
    obj := fun i h st b hb => by
      have e : b = it := by simpa using hb
      subst e
      obtain ⟨o, e, c, d⟩ := st
      exact ⟨o, e, fun v z => by rw [d] at z; cases z⟩
    keep := fun i h h' st k => let ⟨o, ho, r⟩ := st; ⟨o, k it (by simp) o ho, r⟩
    item := by
      intro X hP hw hK hc i pins s σ H E I hf st hg
      subst hP hw hK
      obtain ⟨f0, f1, f2, f3, f4, f5⟩ := hf it (by simp)
      refine (W (I.ok.hd hc)).item i s _ _ hg st fun v h' tk hv st' kk => ?_
      obtain ⟨c, u, hc', rfl⟩ := hv
      have I1 : Inv X pins σ H { s with heap := h', toks := tk } := I.turned (fun b o hb e => kk b o (by simpa using hb) e) f0 f1 f3 f4 f5
      obtain ⟨o, e, c1, d⟩ := id st'
      exact ⟨_, rfl, go_of (s := { s with heap := h', toks := tk }) e c1 d hty ⟨.str ⟨#[c]⟩, H, I1, ⟨_, rfl⟩, ⟨rfl, c, hc', rfl⟩, st', fun b hb => (hf b hb).1⟩⟩
    done := by
      intro X hP hw hK hc i pins s σ H E I hf st hg
      subst hP hw hK
      obtain ⟨f0, f1, f2, f3, f4, f5⟩ := hf it (by simp)
      have hg : z.cps.size = i := hg
      subst hg
      exact (W (I.ok.hd hc)).done s _ _ st fun h' tk kk => ⟨rfl, I.turned (fun b o hb e => kk b o (by simpa using hb) e) f0 f1 f3 f4 f5⟩
    self := fun A i s Q E st h => by
      obtain ⟨o, e, c, d⟩ := id st
      unfold strIterType at st
      split at st
      · exact wpAny_pyIter_striter_ascii st h
      · exact wpAny_pyIter_striter_wide st h }
section
variable {X : Cx} {tg : Expr}
def iStr (tl : TE) : TI := fun σ H R => tl σ H fun x H1 => ∃ z, x = .str z ∧ R (Its z) H1
theorem pi_str {l : Expr} {tl : TE} (hl : PE X l tl) : PI X tg l (iStr tl) := by
  intro pins s σ H R I h
  refine thn (hl pins s σ H _ I h) fun v s1 ⟨x, H1, I1, r1, q1⟩ => ?_
  obtain ⟨z, e, q⟩ := q1
  subst e
  obtain ⟨t, rfl⟩ := r1
  refine wpAny_pyIter_strU ?_
  refine ⟨s1.heap.objs.size, [s1.heap.objs.size], _, _, H1, rfl, I1.kept (t' := s1.toks) fun b o e => Heap.get?_push_of_some _ e, turn_str _ z t, ⟨_, Heap.get?_push_size _ rfl, rfl, rfl⟩, fun b hb => ?_, q⟩
  have e : b = s1.heap.objs.size := by simpa using hb
  subst e
  exact I1.fpOk (Nat.le_refl _) (I1.hok.fresh (Nat.le_refl _))
theorem strs_of : ∀ {zs : List Str} {us : List Value}, Vals (zs.map V.str) us → StrsAre us zs
  | [], _, .nil => .nil
  | z :: zs, _, .cons ⟨t, e⟩ r => by subst e; exact .cons z t (strs_of r)
/-- sep.join(xs) of a list or a tuple of texts -/
def rJoin (K : PySem.W.Frag) : V → List V → Hp → VK → Prop := fun x vs H Q => ∃ z p zs, x = .str z ∧ vs = [.ref p] ∧ (SqL K H p (zs.map V.str) ∨ SqT K H p (zs.map V.str)) ∧ (zs.map (·.length)).sum + zs.length * z.length ≤ 16777216 ∧ Q (.str (Txt.join z zs)) H
theorem mt_join : MtM X "str.join" (rJoin X.K) := by
  intro pins s σ H x vs v us Q I rx rv h
  obtain ⟨z, p, zs, rfl, rfl, hS, hz, q⟩ := h
  obtain ⟨t, rfl⟩ := rx
  obtain ⟨u, rfl, ru⟩ := rv.one
  cases ru
  rcases hS with hS | hS
  · obtain ⟨its, rv, pl, _⟩ := I.list hS
    exact join_list pl.isList (by simpa using strs_of rv) hz fun t' k => ⟨.str (Txt.join z zs), H, I.tok k, ⟨_, rfl⟩, q⟩
  · obtain ⟨its, rv, pl, _⟩ := I.tuple hS
    exact join_tuple pl (by simpa using strs_of rv) hz fun t' k => ⟨.str (Txt.join z zs), H, I.tok k, ⟨_, rfl⟩, q⟩
/-- x.find(y) -/
def rFindS : V → List V → Hp → VK → Prop := fun x vs H Q => ∃ z y, x = .str z ∧ vs = [.str y] ∧ Q (.int (match Builtin.Str.occurrences z y 0 z.length 1 with | i :: _ => (i : Int) | [] => -1)) H
end
end L2
namespace L2
open PySem PySem.Spec PyProof.Rows
/-- e: an exception of the class C with the dict d; B: what stays whatever the flight does; told: it has a traceback, whose flight mark is fl -/
def ExAt (B : Heap) (e : Addr) (C : Value) (d : Option Addr) (h : Heap) : Prop :=
  ∃ oe vs, h.get? e = some oe ∧ oe.cls = C ∧ oe.dict = d ∧ oe.data = .fields vs ∧ vs[2]? = some .none ∧ (vs[1]? = some .none ∨ ∃ T oT ts fl, vs[1]? = some (.ref T) ∧ B.get? T = none ∧ T ≠ e ∧ h.get? T = some oT ∧ oT.data = .fields ts ∧ ts[3]? = some fl)
def ExOn (B : Heap) (e : Addr) (C : Value) (d : Option Addr) (fl : Value) (h : Heap) : Prop :=
  ∃ oe vs T oT ts, h.get? e = some oe ∧ oe.cls = C ∧ oe.dict = d ∧ (oe.data = .fields vs ∧ vs[2]? = some .none) ∧ vs[1]? = some (.ref T) ∧ B.get? T = none ∧ T ≠ e ∧ h.get? T = some oT ∧ oT.data = .fields ts ∧ ts[3]? = some fl
/-- what a station asks and gives -/
structure Air (B : Heap) (l : List Env) (e : Addr) (h : Heap) : Prop where
  stays : B.StaysIn h
  new : B.get? e = none
  frames : h.FunFrames B l
section
variable {M : Model} {A : Around} {E : Value → Shared → Prop} {s : Shared}
theorem dict_mapFields (o : Obj) (f : Array Value → Array Value) : (o.mapFields f).dict = o.dict := by
  obtain ⟨c, d, dt, sl⟩ := o
  cases dt <;> rfl
/-- an entry of the traceback is laid -/
theorem air_entry {B : Heap} {env : Env} {outer : List Env} {L e : Addr} {oe : Obj} {vs : Array Value} {head : Value} {had : Bool} {Q : Unit → Shared → Prop}
    (fr : A.frames = some (env :: outer)) (fl : env.frame = some L) (a : Air B (env :: outer) e s.heap) (he : s.heap.get? e = some oe) (hd : oe.data = .fields vs) (hcx : vs[2]? = some .none)
    (q : ∀ h', Air B (env :: outer) e h' → ExOn B e oe.cls oe.dict (rawInt L) h' → s.heap.UpToSlots h' → Q () { s with heap := h' }) :
    wpAny M A (do let f ← frameOf env; let pl ← entryPlaceOf L had; let b ← EntryCells.newEntry head f .none (rawInt L) .none pl; setField (.ref e) 1 b) Q E s := by
  have hz2 : 2 < vs.size := (Array.getElem?_eq_some_iff.mp hcx).1
  have hz : 1 < vs.size := by omega
  have nfr : e ∉ (env :: outer).filterMap (·.frame) := fun z => by
    obtain ⟨_, o, ho, hn⟩ := a.frames.mem z
    rw [he] at ho
    cases ho
    exact hn vs hd
  refine wpAny_bind (wpAny_frameOf_fun fr a.frames fl fun h1 so => ?_)
  refine wpAny_bind (wpAny_entryPlaceOf fun pl hpl => ?_)
  unfold EntryCells.newEntry newFields
  refine wpAny_bind (wpAny_newObj_type ?_ (hpl.sizeOk5 _ _ _ _ _))
  have he1 : h1.get? e = some oe := by rw [so.2.1 e nfr]; exact he
  have st1 : B.StaysIn h1 := fun b o hb => by
    rw [so.2.1 b fun z => by rw [(a.frames.mem z).1] at hb; cases hb]
    exact a.stays b o hb
  generalize hrec : ({ cls := .type "traceback", dict := none, data := .fields ([head, .ref L, .none, rawInt L, .none] ++ (if pl.isEmpty then List.replicate 6 Value.none else pl)).toArray } : Obj) = rec
  have rdat : ∃ ts : Array Value, rec.data = .fields ts ∧ ts[3]? = some (rawInt L) := by
    refine ⟨([head, .ref L, .none, rawInt L, .none] ++ (if pl.isEmpty then List.replicate 6 Value.none else pl)).toArray, by rw [← hrec], ?_⟩
    simp
  obtain ⟨ts, rd, r3⟩ := rdat
  have he2 := Heap.get?_push_of_some (h := h1) rec he1
  refine wpAny_setField he2 hd hz ?_
  have nT : h1.objs.size ≠ e := Nat.ne_of_gt (Heap.lt_size he1)
  have dat3 := Obj.data_mapFields hd (·.setIfInBounds 1 (Value.ref h1.objs.size))
  have he3 := Heap.get?_update_self (Obj.mapFields (·.setIfInBounds 1 (Value.ref h1.objs.size))) he2 (Obj.isFreed_of_fields dat3)
  have rnf : rec.isFreed = false := Obj.isFreed_of_fields rd
  have hT3 : ((h1.push rec).update e (Obj.mapFields (·.setIfInBounds 1 (Value.ref h1.objs.size)))).get? h1.objs.size = some rec := by
    rw [Heap.get?_update_other _ _ (Ne.symm nT)]; exact Heap.get?_push_size h1 rnf
  have keep : ∀ b o, b ≠ e → h1.get? b = some o → ((h1.push rec).update e (Obj.mapFields (·.setIfInBounds 1 (Value.ref h1.objs.size)))).get? b = some o := fun b o nb hb => by
    rw [Heap.get?_update_other _ _ (Ne.symm nb)]; exact Heap.get?_push_of_some _ hb
  have nrec : ∀ b o, s.heap.get? b = some o → (∀ ws, o.data ≠ .fields ws) → b ≠ e := fun b o hb hn z => by
    rw [z, he] at hb
    cases hb
    exact hn vs hd
  refine q _ ⟨fun b o hb => keep b o (fun z => by rw [z, a.new] at hb; cases hb) (st1 b o hb), a.new, a.frames.of_keeps fun b o hb hn => ?_⟩ ?_ fun b o hb hn => ?_
  · obtain ⟨sl, e1⟩ := so.2.2 b o hb
    exact ⟨_, keep b _ (nrec b o hb hn) e1, rfl⟩
  · refine ⟨_, _, h1.objs.size, rec, ts, he3, Obj.cls_mapFields _ _, dict_mapFields _ _, ⟨dat3, by rw [Array.getElem?_setIfInBounds_ne (by decide)]; exact hcx⟩, by simp [hz], st1.fresh, nT, hT3, rd, r3⟩
  · obtain ⟨sl, e1⟩ := so.2.2 b o hb
    exact ⟨sl, keep b _ (nrec b o hb hn) e1⟩
/-- a traceback's mark is set -/
theorem air_mark {B : Heap} {l : List Env} {e T : Addr} {oe oT : Obj} {vs ts : Array Value} {fl v : Value} (a : Air B l e s.heap) (he : s.heap.get? e = some oe) (hd : oe.data = .fields vs) (hcx : vs[2]? = some .none) (h1 : vs[1]? = some (.ref T)) (nT : B.get? T = none) (nTe : T ≠ e)
    (hT : s.heap.get? T = some oT) (hdT : oT.data = .fields ts) (h3 : ts[3]? = some fl) {Q : Unit → Shared → Prop}
    (q : ∀ h', Air B l e h' → h'.get? e = some oe → ExOn B e oe.cls oe.dict v h' → s.heap.UpToSlots h' → Q () { s with heap := h' }) : wpAny M A (setField (.ref T) 3 v) Q E s := by
  have z3 : 3 < ts.size := (Array.getElem?_eq_some_iff.mp h3).1
  have other : ∀ b, b ≠ T → (s.heap.update T (Obj.mapFields (·.setIfInBounds 3 v))).get? b = s.heap.get? b := fun b nb => Heap.get?_update_other _ _ (Ne.symm nb)
  have nrec : ∀ b o, s.heap.get? b = some o → (∀ ws, o.data ≠ .fields ws) → b ≠ T := fun b o hb hn z => by
    rw [z, hT] at hb
    cases hb
    exact hn ts hdT
  have he' := (other e (Ne.symm nTe)).trans he
  refine wpAny_setField hT hdT z3 (q _ ⟨fun b o hb => ?_, a.new, a.frames.of_keeps fun b o hb hn => ⟨o, (other b (nrec b o hb hn)).trans hb, rfl⟩⟩ he' ?_ fun b o hb hn => ⟨o.slots, (other b (nrec b o hb hn)).trans hb⟩)
  · exact (other b fun z => by rw [z, nT] at hb; cases hb).trans (a.stays b o hb)
  · exact ⟨oe, vs, T, _, _, he', rfl, rfl, ⟨hd, hcx⟩, h1, nT, nTe, Heap.get?_update_self _ hT (Obj.isFreed_of_fields (Obj.data_mapFields hdT _)), Obj.data_mapFields hdT _, by simp [z3]⟩
/-- the frame is noted -/
theorem air_note {B : Heap} {env : Env} {outer : List Env} {L e : Addr} {C : Value} {d : Option Addr} {Q : Unit → Shared → Prop} (fr : A.frames = some (env :: outer)) (fl : env.frame = some L) (a : Air B (env :: outer) e s.heap) (x : ExAt B e C d s.heap)
    (q : ∀ h', Air B (env :: outer) e h' → ExOn B e C d (rawInt L) h' → s.heap.UpToSlots h' → Q () { s with heap := h' }) : wpAny M A (noteFrame (.ref e) env) Q E s := by
  obtain ⟨oe, vs, he, rfl, rfl, hd, hz, hv⟩ := x
  unfold noteFrame
  simp only [fl]
  rcases hv with hv | ⟨T, oT, ts, f0, hv, nT, nTe, hT, hdT, h3⟩
  · refine wpAny_bind (wpAny_field he hd hv ?_)
    rw [if_neg (by decide)]
    exact air_entry fr fl a he hd hz q
  · refine wpAny_bind (wpAny_field he hd hv ?_)
    rw [if_pos (show (Value.ref T != Value.none) = true from by simp)]
    refine wpAny_bind (wpAny_field hT hdT h3 ?_)
    by_cases e0 : (f0 == rawInt L) = true
    · rw [if_pos e0]
      have e1 : f0 = rawInt L := by simpa using e0
      subst e1
      exact wpAny_pure (q s.heap a ⟨oe, vs, T, oT, ts, he, rfl, rfl, ⟨hd, hz⟩, hv, nT, nTe, hT, hdT, h3⟩ (Heap.UpToSlots.refl _))
    · rw [if_neg e0]
      refine wpAny_bind (air_mark a he hd hz hv nT nTe hT hdT h3 fun h1 a1 he1 _ u1 => ?_)
      exact air_entry (s := { s with heap := h1 }) fr fl a1 he1 hd hz fun h2 a2 x2 u2 => q h2 a2 x2 (u1.trans u2)
/-- the flight's mark -/
theorem air_flight {B : Heap} {l : List Env} {e : Addr} {C f0 : Value} {d : Option Addr} {o : Option Addr} {Q : Unit → Shared → Prop} (a : Air B l e s.heap) (x : ExOn B e C d f0 s.heap)
    (q : ∀ h', Air B l e h' → ExOn B e C d (o.elim .none fun f => rawInt f) h' → s.heap.UpToSlots h' → Q () { s with heap := h' }) : wpAny M A (setFlight (.ref e) o) Q E s := by
  obtain ⟨oe, vs, T, oT, ts, he, rfl, rfl, ⟨hd, hcx⟩, hv, nT, nTe, hT, hdT, h3⟩ := x
  unfold setFlight
  refine wpAny_bind (wpAny_field he hd hv ?_)
  rw [if_pos (show (Value.ref T != Value.none) = true from by simp)]
  exact air_mark a he hd hcx hv nT nTe hT hdT h3 fun h' a' _ x' u' => q h' a' x' u'
end
/-- what was there ahead, and is kept in B; the frames up to their slots -/
structure UnB (fs : List Addr) (H H' : Hp) (h B h' : Heap) : Prop where
  keep : ∀ b o, h.get? b = some o → H b = none → b ∉ fs → B.get? b = some o
  slot : ∀ b o, h.get? b = some o → H b = none → b ∈ fs → ∃ sl, h'.get? b = some { o with slots := sl }
  free : ∀ b o, h.get? b = some o → H b = none → H' b = none
  there : ∀ b o, h.get? b = some o → b ∉ fs → ∃ o', B.get? b = some o'
  tups : ∀ b xs, H b = some (.tup xs) → H' b = some (.tup xs)
  frzs : ∀ b o u, H b = some (.frz o u) → H' b = some (.frz o u)
  tbls : ∀ b ps, H b = some (.tbl ps) → ∃ more, H' b = some (.tbl (ps ++ more))
/-- the exception e flies, over the frames at outer; H, s: ahead of the call; H': what is tracked now -/
structure Fly (P : Program) (w : World) (outer : List Env) (H : Hp) (s : Shared) (C : Value) (d : Option Addr) (H' : Hp) (e : Addr) (s' : Shared) : Prop where
  os : s'.os = s.os
  bare : AllBare s'.gens
  ex : ∃ B, Air B outer e s'.heap ∧ ExAt B e C d s'.heap ∧ HOk P w H' B ∧ UnB (frs outer) H H' s.heap B s'.heap
def CX1 (P : Program) (w : World) : CXT := fun outer H s E ev s' => ∃ e C d H', ev = .ref e ∧ Fly P w outer H s C d H' e s' ∧ E C d H'
end L2
namespace L2
open PySem PySem.Spec PyProof.Rows
section
variable {X : Cx} {x : Str} {C : Addr} {e₀ : Expr} {rest : List Expr} {ta : TA} {E : XK} {np cpos pos : Pos}
end
section
variable {P : Program} {w : World} {K : PySem.W.Frag} {mg : Str → Option Value} {base : Heap} {N : List Str} {qual : Str} {scope : Scope} {f : Addr} {cd : Value} {A : Around} {outer : List Env} {s : Shared} {H : Hp} {E E' : XK}
end
end L2
namespace L2
open PySem PySem.Spec PyProof.Rows
/-- the context of a try's body -/
abbrev Cx.tr (X : Cx) (pn : List (Addr × Obj)) (W : Value → Shared → Prop) : Cx := { X with pn := pn, xe := W }
section
variable {X : Cx} {pins : List (Addr × Obj)} {σ : St} {H : Hp} {s : Shared} {W : Value → Shared → Prop} {e : Addr}
theorem Inv.tr (I : Inv X pins σ H s) : Inv (X.tr (X.pn ++ pins) W) [] σ H s :=
  ⟨⟨I.ok.mod, I.ok.kind, I.ok.glob, I.ok.blt, I.ok.above, I.ok.inj, I.ok.has, I.ok.cab, I.ok.hd, I.ok.frames, I.ok.stk, I.ok.exf, I.ok.bs, I.ok.bsz, I.ok.noex, I.ok.exfs, I.ok.funs, I.ok.frf⟩, I.os, I.bare, I.base, I.loc, I.cell, I.free, I.freeC, fun p hp => I.pin p (by simpa using hp), I.hok, I.len⟩
theorem Inv.untr {pins' : List (Addr × Obj)} (I : Inv (X.tr (X.pn ++ pins) W) pins' σ H s) : Inv X pins σ H s :=
  ⟨⟨I.ok.mod, I.ok.kind, I.ok.glob, I.ok.blt, I.ok.above, I.ok.inj, I.ok.has, I.ok.cab, I.ok.hd, I.ok.frames, I.ok.stk, I.ok.exf, I.ok.bs, I.ok.bsz, I.ok.noex, I.ok.exfs, I.ok.funs, I.ok.frf⟩, I.os, I.bare, I.base, I.loc, I.cell, I.free, I.freeC, fun p hp => I.pin p (List.mem_append_left _ hp), I.hok, I.len⟩
end
end L2
namespace L2
open PySem PySem.Spec PyProof.Rows
/-- an exception held in this frame -/
structure Held (X : Cx) (pins : List (Addr × Obj)) (σ : St) (H : Hp) (C : Value) (d : Option Addr) (e : Addr) (s : Shared) : Prop where
  ex : ∃ Hc sc B fl, Inv X pins σ Hc sc ∧ s.os = sc.os ∧ AllBare s.gens ∧ Air B X.stack e s.heap ∧ ExOn B e C d fl s.heap ∧ HOk X.prog X.w H B ∧ UnB (frs X.stack) Hc H sc.heap B s.heap
section
variable {X : Cx} {pins : List (Addr × Obj)} {σ : St} {H : Hp} {C : Value} {d : Option Addr} {e : Addr} {s : Shared}
theorem UnB.up {fs : List Addr} {H H' : Hp} {h B h1 h2 : Heap} {l : List Env} {e : Addr} (u : UnB fs H H' h B h1) (a : Air B l e h1) (hl : frs l = fs) (up : h1.UpToSlots h2) : UnB fs H H' h B h2 :=
  ⟨u.keep, fun b o q n hb => by
    obtain ⟨sl, e1⟩ := u.slot b o q n hb
    obtain ⟨_, o3, e3, nf⟩ := a.frames.mem (show b ∈ frs l by rw [hl]; exact hb)
    rw [e1] at e3
    cases e3
    obtain ⟨sl2, e4⟩ := up b _ e1 nf
    exact ⟨sl2, e4⟩, u.free, u.there, u.tups, u.frzs, u.tbls⟩
end
abbrev TH := Value → Option Addr → Ends → St → Hp → Prop
def PH (X : Cx) (hs : List ExceptHandler) (t : TH) : Prop := ∀ (pins : List (Addr × Obj)) (s : Shared) (σ : St) (H : Hp) (D : Ends) (C : Value) (d : Option Addr) (e : Addr), Held X pins σ H C d e s → t C d D σ H →
  wpAny (model X.prog X.w) X.A (handleBy (.ref e) X.env hs) (SP X pins D) X.xe s
section
variable {X : Cx} {x n : Str} {DA : Addr} {j : Nat} {b₀ : Stmt} {suite : List Stmt} {ts : Addr → TS} {tr : TH} {np hpos pos : Pos} {rest : List ExceptHandler}
end
def PassesAt (CX : CXT) (X : Cx) (E : XK) (σ : St) : Prop := ∀ (pins : List (Addr × Obj)) (H : Hp) (s : Shared) (e : Value) (s' : Shared), Inv X pins σ H s → CX X.stack H s E e s' → X.xe e s'
def PE1 (X : Cx) (σ : St) (e : Expr) (t : TE) : Prop := ∀ (pins : List (Addr × Obj)) (s : Shared) (H : Hp) (Q : VK), Inv X pins σ H s → t σ H Q → wpAny (model X.prog X.w) X.A (eval e X.env) (EP X pins σ Q) X.xe s
def PS1 (X : Cx) (σ : St) (st : Stmt) (t : TS) : Prop := ∀ (pins : List (Addr × Obj)) (s : Shared) (H : Hp) (D : Ends), Inv X pins σ H s → t D σ H → wpAny (model X.prog X.w) X.A (exec st X.env) (SP X pins D) X.xe s
section
variable {X : Cx} {CX : CXT} {k : Nat} {f : Addr} {fd : FuncData} {ps : List Str} {sp : Sp} {dvs : List V} {ds : List Value} {E : XK} {x : Str} {p pos : Pos} {e : Expr} {es : List Expr} {t : TA} {te : TE} {σ : St}
theorem pe1_call (F : FnOk X.prog X.w X.K X.mg X.base CX k f fd ps sp) (hr : Room k X.A) (hg : Gl X x) (hm : X.mg x = some (.ref f)) (hk : PySem.W.keepIn X.K (.ref f) = true) (hb : Binds X.K fd ps ds) (hd : Vals dvs ds) (hx : PassesAt CX X E σ)
    (ha : PA X (e :: es) t) (hdb : (x == ("__debug__" : Str)) = false := by decide) (he : starEach (e :: es) X.env = (false, eval e X.env) :: starEach es X.env := by rfl) (hpl : (backTo pos (starEach es X.env)).any (·.1) = false := by rfl) :
    PE1 X σ (.Call (.Name x p) (e :: es) [] pos) (tCall sp dvs E t) := by
  intro pins s H Q I h
  refine wpAny_Call_Name_kw (ld_glob I hg hm ?_ hdb)
  refine PySem.W.callWith_K (h₀ := X.base) I.ok.mod.kin hk (thn (ha pos pins s σ H _ I h) fun us s1 ⟨vs, H1, I1, r, q⟩ => ⟨I1.kIn, ?_⟩) he hpl
  have r2 : Vals (vs ++ dvs) (us ++ ds) := r.append hd
  have hl : (us ++ ds).length = ps.length := by rw [← r2.length]; exact F.len _ _ _ _ q
  refine wpAny_call (codeAny_mono (F.run X.A X.stack s1 H1 ⟨us, []⟩ (us ++ ds) (vs ++ dvs) Q E hr I1.env0 (hb s1 us I1.kIn hl) r2 q) fun r s' hq => ?_)
  cases r with
  | error ev => exact hx pins H1 s1 ev s' I1 hq
  | ok fl =>
    cases fl with
    | ret u => exact I1.after hq
    | next => exact False.elim hq
    | brk => exact False.elim hq
    | cont => exact False.elim hq
end
def tTry (tb : XK → TS) (th : TH) : TS := fun D σ H => ∃ E : XK, tb E D σ H ∧ ∀ C d H', E C d H' → th C d D σ H'
theorem SP.untr {X : Cx} {pins : List (Addr × Obj)} {W : Value → Shared → Prop} {D : Ends} {f : Flow} {s : Shared} (h : SP (X.tr (X.pn ++ pins) W) [] D f s) : SP X pins D f s := by
  cases f with
  | next => obtain ⟨σ, H, I, q⟩ := h; exact ⟨σ, H, I.untr, q⟩
  | brk => obtain ⟨σ, H, I, q⟩ := h; exact ⟨σ, H, I.untr, q⟩
  | cont => obtain ⟨σ, H, I, q⟩ := h; exact ⟨σ, H, I.untr, q⟩
  | ret u => obtain ⟨v, σ, H, I, r, q⟩ := h; exact ⟨v, σ, H, I.untr, r, q⟩
theorem ps_try {X : Cx} {st : Stmt} {h₀ : ExceptHandler} {hs : List ExceptHandler} {tb : XK → TS} {th : TH} {pos : Pos} (hst : X.stack = X.env :: X.outer) (hfr : X.env.frame = some X.env.locals)
    (hb : ∀ E σ pn W, PassesAt (CX1 X.prog X.w) (X.tr pn W) E σ → PS1 (X.tr pn W) σ st (tb E)) (hh : PH X (h₀ :: hs) th) : PS X (.Try [st] (h₀ :: hs) [] [] pos) (tTry tb th) := by
  intro pins s σ H D I h
  obtain ⟨E, hB, hH⟩ := h
  refine wpAny_Try_except ?_
  have pass : PassesAt (CX1 X.prog X.w) (X.tr (X.pn ++ pins) (fun ev s₁ => wpAny (model X.prog X.w) X.A (noteFrame ev X.env) (fun _ s₂ => wpAny (model X.prog X.w) X.A (setFlight ev none) (fun _ s₃ => wpAny (model X.prog X.w) X.A (handleBy ev X.env (h₀ :: hs)) (SP X pins D) X.xe s₃) X.xe s₂) X.xe s₁)) E σ := by
    rintro pins' Hc sc ev s' Ic ⟨e, C, d, H', rfl, fly, hq⟩
    obtain ⟨B, a, x, hok, u⟩ := fly.ex
    have hfrm : X.A.frames = some (X.env :: X.outer) := by rw [I.ok.frames, hst]
    have a' : Air B (X.env :: X.outer) e s'.heap := by rw [← hst]; exact a
    refine air_note hfrm hfr a' x fun h1 a1 x1 u1 => ?_
    refine air_flight (s := { s' with heap := h1 }) (o := none) a1 x1 fun h2 a2 x2 u2 => ?_
    have up := u1.trans u2
    have hl : Held X pins σ H' C d e { s' with heap := h2 } := ⟨Hc, sc, B, _, Ic.untr, fly.os, fly.bare, by rw [hst]; exact a2, x2, hok, u.up a rfl up⟩
    exact hh pins _ σ H' D C d e hl (hH C d H' hq)
  refine wpAny_execs_cons (wpAny_mono (hb E σ _ _ pass [] s H D I.tr hB) (fun f s1 hf => ?_) fun _ _ z => z)
  cases f with
  | next => exact wpAny_execs_nil (wpAny_execs_nil (SP.untr hf))
  | brk => exact SP.untr hf
  | cont => exact SP.untr hf
  | ret u => exact SP.untr hf
end L2
namespace L2
open PySem PySem.Spec PyProof.Rows
section
variable {prog : Program} {w : World} {A : Around} {E : Value → Shared → Prop} {s : Shared} {K : PySem.W.Frag} {x D : Addr} {ox : Obj} {od : Option Obj} {name : Str}
end
section
variable {X : Cx}
end
end L2
namespace L2
open PySem PySem.Spec PyProof.Rows
section
variable {X : Cx} {o e : Expr} {es : List Expr} {to : TE} {t : TA} {name : Str} {id : String} {r : V → List V → Hp → VK → Prop} {apos cpos : Pos}
end
end L2
namespace L2
open PySem PySem.Spec PyProof.Rows
end L2
namespace L2
open PySem PySem.Spec PyProof.Rows
section
variable {X : Cx}
end
end L2
namespace L2
open PySem PySem.Spec PyProof.Rows
def Itzz (K : PySem.W.Frag) (l1 l2 : Addr) : It :=
  ⟨fun i H => ∃ xs ys x y, SqL K H l1 xs ∧ SqL K H l2 ys ∧ xs[i]? = some x ∧ ys[i]? = some y,
   fun i H x H' => ∃ T a b, H T = none ∧ x = .ref T ∧ (∀ xs, SqL K H l1 xs → xs[i]? = some a) ∧ (∀ ys, SqL K H l2 ys → ys[i]? = some b) ∧ H' = upd H T (tupE T [a, b]),
   fun i H => ∃ xs ys, SqL K H l1 xs ∧ SqL K H l2 ys ∧ min xs.length ys.length = i⟩
abbrev ZSt (z TI TO i1 i2 l1 l2 : Addr) (i : Nat) (h : Heap) : Prop := IsZip h z TI TO .none ∧ IsPair h TI (.ref i1) (.ref i2) ∧ (∃ a b, IsPair h TO a b) ∧ h.IsListIter i1 l1 i ∧ h.IsListIter i2 l2 i
theorem sql_one {X : Cx} {pins : List (Addr × Obj)} {σ : St} {H : Hp} {s : Shared} (I : Inv X pins σ H s) {a : Addr} {xs ys : List V} (h1 : SqL X.K H a xs) (h2 : SqL X.K H a ys) : ys = xs := I.list_inj h2 h1
theorem turn_zip {P : Program} {w : World} {K : PySem.W.Frag} {elts : List Expr} {k : Nat} {pos : Pos} (z TI TO i1 i2 l1 l2 : Addr) (D : ZipApart z TI TO i1 i2 l1 l2) :
    Turn P w K (.Tuple elts k pos) (Itzz K l1 l2) [z, TI, TO, i1, i2] z (ZSt z TI TO i1 i2 l1 l2) where
  mem := by simp
  obj := fun i h st b hb => by
    obtain ⟨hz, hTI, ⟨a, b', hTO⟩, ⟨o1, e1, c1, d1⟩, ⟨o2, e2, c2, d2⟩⟩ := st
    simp at hb
    rcases hb with rfl | rfl | rfl | rfl | rfl
    · exact ⟨_, hz, fun v z => nomatch z⟩
    · exact ⟨_, hTI, fun v z => nomatch z⟩
    · exact ⟨_, hTO, fun v z => nomatch z⟩
    · exact ⟨_, e1, fun v z => by rw [d1] at z; cases z⟩
    · exact ⟨_, e2, fun v z => by rw [d2] at z; cases z⟩
  keep := fun i h h' st kp => by
    obtain ⟨hz, hTI, ⟨a, b, hTO⟩, h1, h2⟩ := st
    exact ⟨kp z (by simp) _ hz, kp TI (by simp) _ hTI, ⟨a, b, kp TO (by simp) _ hTO⟩, h1.at fun o e => kp i1 (by simp) o e, h2.at fun o e => kp i2 (by simp) o e⟩
  item := by
    intro X hP hw hK hc i pins s σ H E I hf st hg
    subst hP hw hK
    obtain ⟨xs, ys, x, y, hx, hy, gx, gy⟩ := hg
    obtain ⟨ix, rx, px, zx⟩ := I.list hx
    obtain ⟨iy, ry, py, zy⟩ := I.list hy
    have lx : i < ix.toArray.size := by
      have := (List.getElem?_eq_some_iff.mp gx).1
      rw [rx.length] at this; simpa using this
    have ly : i < iy.toArray.size := by
      have := (List.getElem?_eq_some_iff.mp gy).1
      rw [ry.length] at this; simpa using this
    have W := WalksT.zip2 (prog := X.prog) (w := X.w) (I.ok.hd hc) z TI TO i1 i2 l1 l2 D ix.toArray iy.toArray
    obtain ⟨hz, hTI, hTO, h1, h2⟩ := id st
    refine W.item i s _ E (Nat.lt_min.mpr ⟨lx, ly⟩) ⟨hz, hTI, hTO, h1, h2, px.isList, py.isList⟩ fun T vals h' tk hPt hT htup hMid hk => ⟨.ref T, rfl, ?_⟩
    refine W.go elts k pos i T _ _ E hMid fun h'' hSt hk2 => ?_
    obtain ⟨x', y', ex, ey, rfl⟩ := hPt
    obtain ⟨u, hu, ru⟩ := rx.get gx
    obtain ⟨v, hv, rv⟩ := ry.get gy
    have e1 : x' = u := by
      have : ix[i]? = some x' := by simpa using ex
      rw [hu] at this; exact (Option.some.inj this).symm
    have e2 : y' = v := by
      have : iy[i]? = some y' := by simpa using ey
      rw [hv] at this; exact (Option.some.inj this).symm
    subst e1 e2
    have htup2 : IsTup h'' T #[x', y'] := by
      obtain ⟨o, q1, q2⟩ := htup
      exact ⟨o, hk2 T o (W.apart _ _ _ hMid) q1, q2⟩
    refine ⟨.ref T, upd H T (tupE T [x, y]), ?_, rfl, ⟨T, x, y, I.hok.fresh hT, rfl, fun zs hzs => by rw [sql_one I hx hzs]; exact gx, fun zs hzs => by rw [sql_one I hy hzs]; exact gy, rfl⟩, ⟨hSt.1, hSt.2.1, hSt.2.2.1, hSt.2.2.2.1, hSt.2.2.2.2.1⟩, fun b hb => ?_⟩
    · refine I.turnLaid (s := s) (h' := h'') (t' := tk) hf hT (fun b ob hb q => ?_) (tupE_ok ⟨by show 2 ≤ sizeLine; decide, [x', y'], .cons ru (.cons rv .nil), htup2⟩)
      have hb' : b ∉ [z, TO, i1, i2] := fun z => hb (by simp at z ⊢; rcases z with h | h | h | h <;> simp [h])
      exact hk2 b ob hb' (hk b ob hb' q)
    · have hbT : b ≠ T := fun zz => by
        have : b < s.heap.objs.size := by
          obtain ⟨a, b', hTO⟩ := hTO
          obtain ⟨o1, q1, _⟩ := h1
          obtain ⟨o2, q2, _⟩ := h2
          simp at hb
          rcases hb with rfl | rfl | rfl | rfl | rfl
          · exact Heap.lt_size hz
          · exact Heap.lt_size hTI
          · exact Heap.lt_size hTO
          · exact Heap.lt_size q1
          · exact Heap.lt_size q2
        exact absurd (Nat.lt_of_lt_of_le this hT) (by rw [zz]; exact Nat.lt_irrefl _)
      rw [upd_ne hbT]; exact (hf b hb).1
  done := by
    intro X hP hw hK hc i pins s σ H E I hf st hs
    subst hP hw hK
    obtain ⟨xs, ys, hx, hy, hle⟩ := hs
    obtain ⟨ix, rx, px, zx⟩ := I.list hx
    obtain ⟨iy, ry, py, zy⟩ := I.list hy
    have W := WalksT.zip2 (prog := X.prog) (w := X.w) (I.ok.hd hc) z TI TO i1 i2 l1 l2 D ix.toArray iy.toArray
    obtain ⟨hz, hTI, hTO, h1, h2⟩ := id st
    have hi : i = min ix.toArray.size iy.toArray.size := by rw [← hle, rx.length, ry.length]; simp
    refine W.done s _ E (by rw [← hi]; exact ⟨hz, hTI, hTO, h1, h2, px.isList, py.isList⟩) fun h' tk hk => ⟨rfl, ?_⟩
    exact I.turnedL hf fun b ob hb q => hk b ob (fun z => hb (by simp at z ⊢; rcases z with h | h | h | h <;> simp [h])) q
  self := fun A i s Q E st h => wpAny_pyIter_zip st.1 h
section
variable {X : Cx} {elts : List Expr} {k : Nat} {tpos : Pos}
def iZip (K : PySem.W.Frag) (ta : TA) : TI := fun σ H R => ta σ H fun vs H1 => ∃ a b, vs = [.ref a, .ref b] ∧ (∃ xs, SqL K H1 a xs) ∧ (∃ ys, SqL K H1 b ys) ∧ R (Itzz K a b) H1
theorem boot_zip : bootBuiltins "zip" = some (.type "zip") := by decide +kernel
theorem pi_zip {l1 l2 : Expr} {ta : TA} {p pos : Pos} (hg : Gl X "zip") (hm : X.mg "zip" = none) (ha : PA X [l1, l2] ta) (hs : starEach [l1, l2] X.env = [(false, eval l1 X.env), (false, eval l2 X.env)] := by rfl) (hs2 : starEach [l2] X.env = [(false, eval l2 X.env)] := by rfl) :
    PI X (.Tuple elts k tpos) (.Call (.Name "zip" p) [l1, l2] [] pos) (iZip X.K ta) := by
  intro pins s σ H R I h
  refine Call_ (ld_blt I hg hm boot_zip (PyProof.Rows.callWith_type1 (thn (ha pos pins s σ H _ I h) fun us s1 ⟨vs, H1, I1, r1, q1⟩ => ?_) (by rw [hs, hs2]) (by rw [hs2]; rfl)))
  obtain ⟨a, b, rfl, ⟨xs, hx⟩, ⟨ys, hy⟩, q⟩ := q1
  obtain ⟨u, v, rfl, ru, rv⟩ := vals2 r1
  obtain rfl : u = Value.ref a := ru
  obtain rfl : v = Value.ref b := rv
  obtain ⟨ix, rx, px, zx⟩ := I1.list hx
  obtain ⟨iy, ry, py, zy⟩ := I1.list hy
  have ha : a < s1.heap.objs.size := by obtain ⟨o, ho, _⟩ := px.isList; exact Heap.lt_size ho
  have hb : b < s1.heap.objs.size := by obtain ⟨o, ho, _⟩ := py.isList; exact Heap.lt_size ho
  refine call_zip_2 px.isList py.isList fun h' q1 q2 q3 q4 q5 hsz hk => ?_
  refine wpAny_pyIter_zip q1 ?_
  have I2 : Inv X pins σ H1 { s1 with heap := h' } := I1.kept (t' := s1.toks) hk
  have D : ZipApart (s1.heap.objs.size + 4) (s1.heap.objs.size + 2) (s1.heap.objs.size + 3) s1.heap.objs.size (s1.heap.objs.size + 1) a b := by
    have ha' : ∀ k : Nat, a ≠ s1.heap.objs.size + k := fun k => Nat.ne_of_lt (Nat.lt_of_lt_of_le ha (Nat.le_add_right _ k))
    have hb' : ∀ k : Nat, b ≠ s1.heap.objs.size + k := fun k => Nat.ne_of_lt (Nat.lt_of_lt_of_le hb (Nat.le_add_right _ k))
    have nn : ∀ i j : Nat, i ≠ j → s1.heap.objs.size + i ≠ s1.heap.objs.size + j := fun i j h z => h (Nat.add_left_cancel z)
    exact ⟨nn 2 4 (by decide), nn 3 4 (by decide), nn 0 4 (by decide), nn 1 4 (by decide), nn 2 3 (by decide), nn 2 0 (by decide), nn 2 1 (by decide), nn 3 0 (by decide), nn 3 1 (by decide), nn 0 1 (by decide), ha' 4, ha' 3, ha' 0, ha' 1, hb' 4, hb' 3, hb' 0, hb' 1⟩
  refine ⟨s1.heap.objs.size + 4, [s1.heap.objs.size + 4, s1.heap.objs.size + 2, s1.heap.objs.size + 3, s1.heap.objs.size, s1.heap.objs.size + 1], _, _, H1, rfl, I2, turn_zip _ _ _ _ _ _ _ D, ⟨q1, q2, ⟨_, _, q3⟩, q4, q5⟩, fun c hc => ?_, q⟩
  have hle : s1.heap.objs.size ≤ c := by
    simp at hc
    rcases hc with rfl | rfl | rfl | rfl | rfl <;> (show s1.heap.objs.size ≤ _; omega)
  exact I1.fpOk hle (I1.hok.fresh hle)
/-- over the pairs of two lists -/
theorem for_zip {K : PySem.W.Frag} {l1 l2 : Addr} {xs ys : List V} {g : TG} {tb : TS} {D : Ends} {σ : St} {H : Hp} (hl : xs.length = ys.length) (Pv : Nat → St → Hp → Prop) (h0 : Pv 0 σ H) (hL : ∀ i σ H, Pv i σ H → SqL K H l1 xs ∧ SqL K H l2 ys)
    (hs : ∀ i a b σ H T, xs[i]? = some a → ys[i]? = some b → H T = none → Pv i σ H → g (.ref T) σ (upd H T (tupE T [a, b])) fun σ2 H2 => tb { D with nx := Pv (i + 1), ct := Pv (i + 1), bk := D.nx } σ2 H2) (hd : ∀ σ H, Pv xs.length σ H → D.nx σ H) :
    ∃ W : Nat → Nat → St → Hp → Prop, (∃ m, W 0 m σ H) ∧ ∀ i m σ H, W i m σ H →
      ((Itzz K l1 l2).stop i H ∧ D.nx σ H) ∨ ((Itzz K l1 l2).go i H ∧ ∃ N : St → Hp → Prop, (∀ σ' H', N σ' H' → ∃ m', m' < m ∧ W (i + 1) m' σ' H') ∧ ∀ x H', (Itzz K l1 l2).yld i H x H' → g x σ H' fun σ2 H2 => tb { D with nx := N, ct := N, bk := D.nx } σ2 H2) := by
  refine ⟨fun i m σ H => m = xs.length - i ∧ i ≤ xs.length ∧ Pv i σ H, ⟨xs.length, by simp, Nat.zero_le _, h0⟩, ?_⟩
  rintro i m σ H ⟨rfl, hi, hp⟩
  obtain ⟨q1, q2⟩ := hL i σ H hp
  by_cases hlt : i < xs.length
  · have g1 : xs[i]? = some xs[i] := List.getElem?_eq_getElem hlt
    have hlt2 : i < ys.length := by omega
    have g2 : ys[i]? = some ys[i] := List.getElem?_eq_getElem hlt2
    refine .inr ⟨⟨_, _, _, _, q1, q2, g1, g2⟩, Pv (i + 1), fun σ' H' p' => ⟨xs.length - (i + 1), by omega, rfl, hlt, p'⟩, fun x H' y => ?_⟩
    obtain ⟨T, a, b, hT, rfl, e1, e2, rfl⟩ := y
    exact hs i a b σ H T (e1 _ q1) (e2 _ q2) hT hp
  · have e : i = xs.length := by omega
    subst e
    exact .inl ⟨⟨_, _, q1, q2, by omega⟩, hd σ H hp⟩
end
end L2
namespace L2
open PySem PySem.Spec PyProof.Rows
section
variable {X : Cx}
end
end L2
namespace L2
open PySem PySem.Spec PyProof.Rows
theorem comp_turnIf {prog : Program} {w : World} {A : Around} {R : Result → Shared → Prop} {s : Shared} {elt target iter cnd : Expr} {scope : Scope} {pos : Pos} {it acc : Value} {env : Env} (I : Nat → Shared → Prop)
    (turn : ∀ n s, I n s → wpAny (model prog w) A (pyNext it) (fun r s₁ => match r with
      | none => R (.ok .next) s₁
      | some v => wpAny (model prog w) A (letOwnedTupleGo target it v) (fun _ s₀ => wpAny (model prog w) A (assign target env v) (fun _ s₂ =>
          wpAny (model prog w) A (isTrue cnd env (eval cnd env)) (fun ok s₃ => if ok = true then
          wpAny (model prog w) A (eval elt env) (fun x s₄ =>
              wpAny (model prog w) A (call (.builtin "list.append") [acc, x]) (fun _ s₅ => ∃ m, m < n ∧ I m s₅) (notedBy (model prog w) A env fun e s' => R (.error e) s') s₄) (notedBy (model prog w) A env fun e s' => R (.error e) s') s₃
            else ∃ m, m < n ∧ I m s₃) (notedBy (model prog w) A env fun e s' => R (.error e) s') s₂)
          (notedBy (model prog w) A env fun e s' => R (.error e) s') s₀) (notedBy (model prog w) A env fun e s' => R (.error e) s') s₁) (notedBy (model prog w) A env fun e s' => R (.error e) s') s)
    (n : Nat) (h : I n s) :
    codeAny (model prog w) A (.compLoop (.ListComp elt [⟨target, iter, [cnd], 0⟩] scope pos) 0 it acc env) R s := by
  refine codeAny_loop rfl I (fun n s hI => ?_) n h
  show wpAny _ A ((compTurn (.ListComp elt [⟨target, iter, [cnd], 0⟩] scope pos) 0 it acc env).onRaise (fun x => do noteFrame x env; theTreesLotGoes x)) _ _ s
  refine wpAny_noted ?_
  rw [compTurn_list]
  refine wpAny_bind (wpAny_standAt (wpAny_bind (wpAny_mono (turn n s hI) (fun r s₁ h₁ => ?_) fun _ _ h' => h')))
  cases r with
  | none => exact wpAny_pure h₁
  | some v =>
    refine wpAny_bind (wpAny_mono h₁ (fun _ s₀ h₀ => ?_) fun _ _ h' => h')
    refine wpAny_bind (wpAny_mono h₀ (fun _ s₂ h₂ => wpAny_bind (wpAny_tests_one (wpAny_mono h₂ (fun ok s₃ h₃ => ?_) fun _ _ h' => h'))) fun _ _ h' => h')
    cases ok with
    | false => exact wpAny_pure ⟨rfl, by simpa using h₃⟩
    | true =>
      have h₃ := (show wpAny _ _ _ _ _ _ from by simpa using h₃)
      exact wpAny_bind (wpAny_bind (wpAny_mono h₃ (fun x s₄ h₄ => wpAny_bind (wpAny_mono h₄ (fun _ s₅ h₅ => wpAny_pure (wpAny_pure ⟨rfl, h₅⟩)) fun _ _ h' => h')) fun _ _ h' => h'))
def tCompIf (wi : TI) (k : Nat) (pull : List Nat) (g : TG) (tt : TT) (te : TE) : TE := fun σ H Q => wi σ H fun J H1 => ∀ d, H1 d = none →
  ∃ W : Nat → Nat → St → Hp → Prop, (∃ m, W 0 m (bst k pull σ) (upd H1 d (.lst []))) ∧ ∀ i m σ' H', W i m σ' H' →
    (J.stop i H' ∧ Q (.ref d) H') ∨
    (J.go i H' ∧ ∀ x H2, J.yld i H' x H2 → g x σ' H2 fun σ3 H3 => tt σ3 H3 fun b H4 => if b = true then te σ3 H4 fun y H5 => ∃ xs, H5 d = some (.lst xs) ∧ xs.length < sizeLine ∧ ∃ m', m' < m ∧ W (i + 1) m' σ3 (upd H5 d (.lst (xs ++ [y])))
      else ∃ m', m' < m ∧ W (i + 1) m' σ3 H4)
section
variable {X : Cx} {elt tg iter cnd : Expr} {sc : Scope} {pos : Pos} {wi : TI} {g : TG} {tt : TT} {te : TE} {N : List Str} {names : List (Str × NameKind)} {N' : List Str} {k : Nat} {pull : List Nat}
theorem pe_compIf (hc : X.calm = true) (B : BScope N names N' k pull sc) (hN : X.N = N) (hnm : X.env.scope.names = names) (hi : PI X tg iter wi)
    (hg : ∀ cl C s₂ H₁ fp pins, PG (blk X sc cl C N' s₂ H₁ fp pins) tg g) (hcn : ∀ cl C s₂ H₁ fp pins, PT (blk X sc cl C N' s₂ H₁ fp pins) cnd tt) (he : ∀ cl C s₂ H₁ fp pins, PE (blk X sc cl C N' s₂ H₁ fp pins) elt te)
    (hs : ∀ x, foldedSetIterable iter X.env x = pure x := by intro _; rfl) : PE X (.ListComp elt [⟨tg, iter, [cnd], 0⟩] sc pos) (tCompIf wi k pull g tt te) := by
  intro pins s σ H Q I h
  rw [eval_ListComp]
  have hcells : ∀ y ∈ sc.names, y.2 = .free → ∃ c, X.env.cells.lookup y.1 = some c := fun y hy hf => I.ok.has y.1 (.inl (by
    show X.env.scope.names.lookup y.1 = _
    rw [hnm]; exact B.fre y hy hf))
  obtain ⟨cl, ecl, c1, _, c3⟩ := closureFor_is (env := X.env) sc.names [] hcells (fun x c e => nomatch e)
  rw [← closureFor_eq] at ecl
  refine wpAny_comprehension_free (use := none) rfl hs ecl B.kind B.loc (thn (hi pins s σ H _ I h) fun xv s1 h1 => thn h1 fun itv s2 h2 => ?_)
  obtain ⟨it, fp, tn, J, H1, e, I2, T, st2, f2, hW⟩ := h2
  subst e
  have ho : ∀ b ∈ fp, ∃ o, s2.heap.get? b = some o := fun b hb => let ⟨o, e, _⟩ := T.obj _ _ st2 b hb; ⟨o, e⟩
  refine wpAny_newObj_type (wpAny_newFunctionEnv B.nocell (by intro y hy; simp at hy) (fun h₁ hns₁ hsb₁ => ?_) B.kind)
  dsimp only at hns₁ hsb₁ ⊢
  rw [Heap.size_push] at hns₁ hsb₁ ⊢
  have old : ∀ b o, s2.heap.get? b = some o → h₁.get? b = some o := fun b o e => by
    have hlt := Heap.lt_size e
    exact (hsb₁.2 b (Nat.ne_of_lt (Nat.lt_succ_of_lt hlt))).trans (Heap.get?_push_of_some _ (Heap.get?_push_of_some _ e))
  have hd : h₁.get? s2.heap.objs.size = some { cls := .type "list", data := .seq ([] : List Value).toArray } :=
    (hsb₁.2 _ (Nat.ne_of_lt (Nat.lt_succ_self _))).trans (Heap.get?_push_of_some _ (Heap.get?_push_size _ rfl))
  have I4 := blk_start (tk := s2.toks + ([] : List (Str × Value)).length) B hN hnm I2 f2 ho c1 c3 hns₁ old hd
  have st4 : tn 0 h₁ := T.keep _ _ _ st2 fun b _ o e => old b o e
  obtain ⟨W, ⟨m0, w0⟩, turn⟩ := hW s2.heap.objs.size (I2.hok.fresh (Nat.le_refl _))
  have fr4 : ∀ b ∈ fp, (upd H1 s2.heap.objs.size (.lst [])) b = none := fun b hb => by
    obtain ⟨o, e⟩ := ho b hb
    rw [upd_ne (Nat.ne_of_lt (Heap.lt_size e))]
    exact (f2 b hb).1
  -- what stays true of the iterator's objects
  have stat : ∀ {H' : Hp}, (∀ b ∈ fp, H' b = none) → ∀ b ∈ fp, FpOk (blk X sc cl (s2.heap.objs.size + 1) N' s2 H1 fp pins) [] H' b := fun hn b hb => by
    refine ⟨hn b hb, (I4.ok.exf b hb).1, I4.ok.exfs b hb, .inl hb, (I4.ok.exf b hb).2, fun p hp => ?_⟩
    have hp : p ∈ X.pn ++ pins := by simpa [blk] using hp
    exact (f2 b hb).2.2.2.2.2 p hp
  have loop : ∀ s₃ : Shared, s₃ = { s2 with heap := h₁, toks := s2.toks + ([] : List (Str × Value)).length } →
      codeAny (model X.prog X.w) X.A (.compLoop (.ListComp elt [⟨tg, iter, [cnd], 0⟩] sc pos) 0 (.ref it) (.ref s2.heap.objs.size) (compEnvC sc cl (s2.heap.objs.size + 1) X.env))
        (compPost (model X.prog X.w) X.A X.xe none (EP X pins σ Q) (.ref s2.heap.objs.size) (s2.heap.objs.size + 1)) s₃ := by
    rintro s₃ rfl
    refine comp_turnIf (fun n s' => ∃ i σ' H', Inv (blk X sc cl (s2.heap.objs.size + 1) N' s2 H1 fp pins) [] σ' H' s' ∧ tn i s'.heap ∧ (∀ b ∈ fp, H' b = none) ∧ W i n σ' H') ?_ m0 ⟨0, _, _, I4, st4, fr4, w0⟩
    rintro n s3 ⟨i, σ3, H3, I3, st3, fr3, w3⟩
    rcases turn i n σ3 H3 w3 with ⟨stop, q⟩ | ⟨go, step⟩
    · refine thn (T.done (blk X sc cl (s2.heap.objs.size + 1) N' s2 H1 fp pins) rfl rfl rfl hc i [] s3 σ3 H3 _ I3 (stat fr3) st3 stop) fun r s4 ⟨hr, I5⟩ => ?_
      subst hr
      obtain ⟨m, hn, _⟩ := id I5.loc
      refine ⟨m, hn, fun h' hs' => ?_⟩
      have ne : ∀ b o, s2.heap.get? b = some o → b ≠ s2.heap.objs.size + 1 := fun b o e => Nat.ne_of_lt (Nat.lt_succ_of_lt (Heap.lt_size e))
      have U : Un (frs X.stack) fp H1 H3 s2.heap s4.heap := I5.base
      have U' : Un (frs X.stack) fp H1 H3 s2.heap h' := ⟨fun b o e n hb hx => (hs'.2 b (ne b o e)).trans (U.keep b o e n hb hx), fun b o e n hb hx => by
          obtain ⟨sl, z⟩ := U.slot b o e n hb hx
          exact ⟨sl, (hs'.2 b (ne b o e)).trans z⟩, U.free, fun b o e hx => by
          obtain ⟨o', z⟩ := U.there b o e hx
          exact ⟨o', (hs'.2 b (ne b o e)).trans z⟩, U.tups, U.frzs, U.tbls⟩
      have hok : HOk X.prog X.w H3 h' := HOk.but (C := s2.heap.objs.size + 1) I5.hok I5.free fun b o hb e => (hs'.2 b hb).trans e
      refine ⟨.ref s2.heap.objs.size, H3, I2.call' (s' := { s4 with heap := h' }) I5.os U' hok I5.bare fun b hb => ?_, rfl, q⟩
      exact ⟨(f2 b hb).2.2.2.1, (f2 b hb).2.1, (f2 b hb).2.2.2.2.1, (f2 b hb).2.2.2.2.2⟩
    · refine thn (T.item (blk X sc cl (s2.heap.objs.size + 1) N' s2 H1 fp pins) rfl rfl rfl hc i [] s3 σ3 H3 _ I3 (stat fr3) st3 go) fun r s4 ⟨u, hr, h4⟩ => ?_
      subst hr
      refine thn h4 fun _ s5 ⟨x, H5, I5, r5, y5, st5, fr5⟩ => ?_
      have I5' := I5.pinned (stat fr5) (T.obj _ _ st5)
      refine wpAny_mono (hg _ _ _ _ _ _ _ s5 σ3 H5 x u _ I5' r5 (step x H5 y5)) (fun _ s6 ⟨σ6, H6, I6, q6⟩ => ?_) fun _ _ z => z.elim
      refine wpAny_mono (hcn _ _ _ _ _ _ _ s6 σ6 H6 _ I6 q6) (fun ok s7 ⟨H7, I7, q7⟩ => ?_) fun _ _ z => z.elim
      cases ok with
      | false =>
        have q7 : ∃ m', m' < n ∧ W (i + 1) m' σ6 H7 := by simpa using q7
        obtain ⟨m', hm, w7⟩ := q7
        refine ⟨m', hm, i + 1, σ6, _, I7.unpinned, T.keep _ _ _ st5 fun b hb o e => (I7.pin (b, o) (List.mem_append_right _ (List.mem_append_right _ (mem_pinsAt hb e)))).1, fun b hb => ?_, w7⟩
        obtain ⟨o, e, _⟩ := T.obj _ _ st5 b hb
        exact (I7.pin (b, o) (List.mem_append_right _ (List.mem_append_right _ (mem_pinsAt hb e)))).2.1
      | true =>
        rw [if_pos rfl] at q7
        refine wpAny_mono (he _ _ _ _ _ _ _ s7 σ6 H7 _ I7 q7) (fun y s8 ⟨z, H8, I8, r8, xs, hx8, hz8, m', hm, w8⟩ => ?_) fun _ _ z => z.elim
        refine wpAny_mono (mt_append (X := blk X sc cl (s2.heap.objs.size + 1) N' s2 H1 fp pins) _ s8 σ6 H8 (.ref s2.heap.objs.size) [z] (.ref s2.heap.objs.size) [y] (fun _ H9 => H9 = upd H8 s2.heap.objs.size (.lst (xs ++ [z]))) I8 rfl (.cons r8 .nil) ⟨_, xs, z, rfl, rfl, hx8, hz8, rfl⟩) (fun _ s9 ⟨_, H9, I9, _, e9⟩ => ?_) fun _ _ z => z.elim
        subst e9
        refine ⟨m', hm, i + 1, σ6, _, I9.unpinned, T.keep _ _ _ st5 fun b hb o e => (I9.pin (b, o) (List.mem_append_right _ (List.mem_append_right _ (mem_pinsAt hb e)))).1, fun b hb => ?_, w8⟩
        obtain ⟨o, e, _⟩ := T.obj _ _ st5 b hb
        exact (I9.pin (b, o) (List.mem_append_right _ (List.mem_append_right _ (mem_pinsAt hb e)))).2.1
  exact codeAny_compStart_list (loop _ rfl) (T.self _ 0 _ _ _ st4 (loop _ rfl))
end
end L2
namespace L2
open PySem PySem.Spec PyProof.Rows
section
variable {X : Cx} {elt tg iter : Expr} {sc : Scope} {pos py spos : Pos} {wi : TI} {g : TG} {te : TE} {N : List Str} {names : List (Str × NameKind)} {N' : List Str} {k j : Nat} {pull : List Nat} {y : Str}
theorem ps_comp (hc : X.calm = true) (hNd : X.N.Nodup) (hj : X.N[j]? = some y) (hy : X.env.scope.names.lookup y = some .local) (B : BScope N names N' k pull sc) (hN : X.N = N) (hnm : X.env.scope.names = names) (hi : PI X tg iter wi)
    (hg : ∀ cl C s₂ H₁ fp pins, PG (blk X sc cl C N' s₂ H₁ fp pins) tg g) (he : ∀ cl C s₂ H₁ fp pins, PE (blk X sc cl C N' s₂ H₁ fp pins) elt te)
    (hs : ∀ x, foldedSetIterable iter X.env x = pure x := by intro _; rfl) (hsw : swapsWith (.ListComp elt [⟨tg, iter, [], 0⟩] sc pos) (some (.Name y py)) spos.line X.env = pure true := by rfl) : PS X (.Assign [.Name y py] (.ListComp elt [⟨tg, iter, [], 0⟩] sc pos) spos) (tAsg (tComp wi k pull g te) (gName j)) := by
  intro pins s σ H D I h
  rw [exec_Assign_Name_used _ _ _ _ hsw]
  refine wpAny_bind (wpAny_standAt (wpAny_bind ?_))
  show wpAny _ X.A (do let _ ← comprehension (.ListComp elt [⟨tg, iter, [], 0⟩] sc pos) sc X.env _ (newList []) false (eval iter X.env) (some (assign (.Name y py) X.env))) _ _ s
  have hcells : ∀ y ∈ sc.names, y.2 = .free → ∃ c, X.env.cells.lookup y.1 = some c := fun y hy hf => I.ok.has y.1 (.inl (by
    show X.env.scope.names.lookup y.1 = _
    rw [hnm]; exact B.fre y hy hf))
  obtain ⟨cl, ecl, c1, _, c3⟩ := closureFor_is (env := X.env) sc.names [] hcells (fun x c e => nomatch e)
  rw [← closureFor_eq] at ecl
  refine wpAny_bind (wpAny_mono (wpAny_comprehension_free (Q := fun _ s' => SP X pins D .next s') (use := some (assign (.Name y py) X.env)) rfl hs ecl B.kind B.loc (thn (hi pins s σ H _ I h) fun xv s1 h1 => thn h1 fun itv s2 h2 => ?_)) (fun _ s' hq => wpAny_pure (wpAny_pure hq)) fun _ _ e => e)
  obtain ⟨it, fp, tn, J, H1, e, I2, T, st2, f2, hW⟩ := h2
  subst e
  have ho : ∀ b ∈ fp, ∃ o, s2.heap.get? b = some o := fun b hb => let ⟨o, e, _⟩ := T.obj _ _ st2 b hb; ⟨o, e⟩
  refine wpAny_newObj_type (wpAny_newFunctionEnv B.nocell (by intro y hy; simp at hy) (fun h₁ hns₁ hsb₁ => ?_) B.kind)
  dsimp only at hns₁ hsb₁ ⊢
  rw [Heap.size_push] at hns₁ hsb₁ ⊢
  have old : ∀ b o, s2.heap.get? b = some o → h₁.get? b = some o := fun b o e => by
    have hlt := Heap.lt_size e
    exact (hsb₁.2 b (Nat.ne_of_lt (Nat.lt_succ_of_lt hlt))).trans (Heap.get?_push_of_some _ (Heap.get?_push_of_some _ e))
  have hd : h₁.get? s2.heap.objs.size = some { cls := .type "list", data := .seq ([] : List Value).toArray } :=
    (hsb₁.2 _ (Nat.ne_of_lt (Nat.lt_succ_self _))).trans (Heap.get?_push_of_some _ (Heap.get?_push_size _ rfl))
  have I4 := blk_start (tk := s2.toks + ([] : List (Str × Value)).length) B hN hnm I2 f2 ho c1 c3 hns₁ old hd
  have st4 : tn 0 h₁ := T.keep _ _ _ st2 fun b _ o e => old b o e
  obtain ⟨W, ⟨m0, w0⟩, turn⟩ := hW s2.heap.objs.size (I2.hok.fresh (Nat.le_refl _))
  have fr4 : ∀ b ∈ fp, (upd H1 s2.heap.objs.size (.lst [])) b = none := fun b hb => by
    obtain ⟨o, e⟩ := ho b hb
    rw [upd_ne (Nat.ne_of_lt (Heap.lt_size e))]
    exact (f2 b hb).1
  -- what stays true of the iterator's objects
  have stat : ∀ {H' : Hp}, (∀ b ∈ fp, H' b = none) → ∀ b ∈ fp, FpOk (blk X sc cl (s2.heap.objs.size + 1) N' s2 H1 fp pins) [] H' b := fun hn b hb => by
    refine ⟨hn b hb, (I4.ok.exf b hb).1, I4.ok.exfs b hb, .inl hb, (I4.ok.exf b hb).2, fun p hp => ?_⟩
    have hp : p ∈ X.pn ++ pins := by simpa [blk] using hp
    exact (f2 b hb).2.2.2.2.2 p hp
  have loop : ∀ s₃ : Shared, s₃ = { s2 with heap := h₁, toks := s2.toks + ([] : List (Str × Value)).length } →
      codeAny (model X.prog X.w) X.A (.compLoop (.ListComp elt [⟨tg, iter, [], 0⟩] sc pos) 0 (.ref it) (.ref s2.heap.objs.size) (compEnvC sc cl (s2.heap.objs.size + 1) X.env))
        (compPost (model X.prog X.w) X.A X.xe (some (assign (.Name y py) X.env)) (fun _ s' => SP X pins D .next s') (.ref s2.heap.objs.size) (s2.heap.objs.size + 1)) s₃ := by
    rintro s₃ rfl
    refine comp_turn (fun n s' => ∃ i σ' H', Inv (blk X sc cl (s2.heap.objs.size + 1) N' s2 H1 fp pins) [] σ' H' s' ∧ tn i s'.heap ∧ (∀ b ∈ fp, H' b = none) ∧ W i n σ' H') ?_ m0 ⟨0, _, _, I4, st4, fr4, w0⟩
    rintro n s3 ⟨i, σ3, H3, I3, st3, fr3, w3⟩
    rcases turn i n σ3 H3 w3 with ⟨stop, q⟩ | ⟨go, step⟩
    · refine thn (T.done (blk X sc cl (s2.heap.objs.size + 1) N' s2 H1 fp pins) rfl rfl rfl hc i [] s3 σ3 H3 _ I3 (stat fr3) st3 stop) fun r s4 ⟨hr, I5⟩ => ?_
      subst hr
      obtain ⟨m, hn, _⟩ := id I5.loc
      have U : Un (frs X.stack) fp H1 H3 s2.heap s4.heap := I5.base
      have J5 : Inv X pins σ H3 s4 := I2.call' (s' := s4) I5.os U I5.hok I5.bare fun b hb => ⟨(f2 b hb).2.2.2.1, (f2 b hb).2.1, (f2 b hb).2.2.2.2.1, (f2 b hb).2.2.2.2.2⟩
      obtain ⟨g0, g1, _, g3, g4, g5⟩ : FpOk X pins H3 (s2.heap.objs.size + 1) := I2.fpOk (Nat.le_succ _) I5.free
      refine wpAny_assign_Name (store_ok2 J5 hNd hj (.inl hy) (v := .ref s2.heap.objs.size) rfl (fun s5 K5 ⟨a, sb, ha⟩ => ?_) (.inr hy))
      have hne : s2.heap.objs.size + 1 ≠ a := fun z => by
        rcases ha with ha | ha
        · exact g1 (z.trans ha)
        · exact g4 _ _ ha z.symm
      refine ⟨m, hn.sameBut sb hne, fun h' hs' => ⟨_, H3, ?_, q⟩⟩
      exact K5.turned (t' := s5.toks) (fun b o hb e => (hs'.2 b hb).trans e) g0 g1 g3 g4 g5
    · refine thn (T.item (blk X sc cl (s2.heap.objs.size + 1) N' s2 H1 fp pins) rfl rfl rfl hc i [] s3 σ3 H3 _ I3 (stat fr3) st3 go) fun r s4 ⟨u, hr, h4⟩ => ?_
      subst hr
      refine thn h4 fun _ s5 ⟨x, H5, I5, r5, y5, st5, fr5⟩ => ?_
      have I5' := I5.pinned (stat fr5) (T.obj _ _ st5)
      refine wpAny_mono (hg _ _ _ _ _ _ _ s5 σ3 H5 x u _ I5' r5 (step x H5 y5)) (fun _ s6 ⟨σ6, H6, I6, q6⟩ => ?_) fun _ _ z => z.elim
      refine wpAny_mono (he _ _ _ _ _ _ _ s6 σ6 H6 _ I6 q6) (fun y s7 ⟨z, H7, I7, r7, xs, hx7, hz7, m', hm, w7⟩ => ?_) fun _ _ z => z.elim
      refine wpAny_mono (mt_append (X := blk X sc cl (s2.heap.objs.size + 1) N' s2 H1 fp pins) _ s7 σ6 H7 (.ref s2.heap.objs.size) [z] (.ref s2.heap.objs.size) [y] (fun _ H8 => H8 = upd H7 s2.heap.objs.size (.lst (xs ++ [z]))) I7 rfl (.cons r7 .nil) ⟨_, xs, z, rfl, rfl, hx7, hz7, rfl⟩) (fun _ s8 ⟨_, H8, I8, _, e8⟩ => ?_) fun _ _ z => z.elim
      subst e8
      refine ⟨m', hm, i + 1, σ6, _, I8.unpinned, T.keep _ _ _ st5 fun b hb o e => (I8.pin (b, o) (List.mem_append_right _ (List.mem_append_right _ (mem_pinsAt hb e)))).1, fun b hb => ?_, w7⟩
      obtain ⟨o, e, _⟩ := T.obj _ _ st5 b hb
      exact (I8.pin (b, o) (List.mem_append_right _ (List.mem_append_right _ (mem_pinsAt hb e)))).2.1
  exact codeAny_compStart_list (loop _ rfl) (T.self _ 0 _ _ _ st4 (loop _ rfl))
end
end L2
namespace K1
open PySem L2 Sq
/-- [g(k) for k in range(m)], no heap needed -/
theorem compRange {Hc : Hp} {m : Nat} {ta : TA} {te : TE} {pull : List Nat} {Q : VK} {σ : St} {rest : St} (g : Nat → Nat) (hj : ∀ R : List V → Hp → Prop, R [.int (m : Int)] Hc → ta σ Hc R) (hb : bst 1 pull σ = none :: rest)
    (hte : ∀ (i : Nat) (H : Hp) (R : VK), i < m → Same Hc H → R (.int (g i : Int)) H → te (some (.int (i : Int)) :: rest) H R) (hm : m ≤ 1000)
    (k : ∀ (H' : Hp) (d : Addr), Same Hc H' → Hc d = none → H' d = some (.lst (nv ((List.range m).map g))) → Q (.ref d) H') :
    tComp (iRng1 ta) 1 pull (gName 0) te σ Hc Q := by
  refine hj _ ⟨(m : Int), rfl, by omega, by omega, fun d hd => ?_⟩
  rw [Int.toNat_natCast, hb]
  refine comp_by (J := Itr 0 m) (Q := fun d H' => Q (.ref d) H') m (nv ((List.range m).map g)) (by rw [nv_len]; simp) (fun i σ H9 => (∃ o, σ = o :: rest) ∧ Same Hc H9) ⟨⟨_, rfl⟩, same_upd (Same.refl _) hd⟩ ?_ ?_
  · rintro i σ H9 hi ⟨⟨o, rfl⟩, s9⟩ hd9
    refine ⟨hi, fun x H4 ⟨e1, e2⟩ => ?_⟩
    subst e1 e2
    rw [show (0 : Int) + (i : Int) = (i : Int) from by omega]
    refine hte i _ _ hi s9 ?_
    refine cpost hi (by omega) hd9 (nv_get (by simp [hi])) ⟨⟨_, rfl⟩, same_upd s9 hd⟩
  · rintro σ H9 ⟨⟨o, rfl⟩, s9⟩ hd9
    exact ⟨Nat.le_refl _, k H9 d s9 hd hd9⟩
end K1
namespace L2
open PySem PySem.Spec PyProof.Rows
section
variable {X : Cx}
end
section
variable {prog : Program} {w : World} {A : Around} {E : Value → Shared → Prop}
end
section
variable {X : Cx}
end
end L2
namespace L2
open PySem PySem.Spec PyProof.Rows
section
variable {prog : Program} {w : World} {A : Around} {E : Value → Shared → Prop} {s : Shared} {K : Type} [DecidableEq K] {knd : KeyKind prog w K}
end
section
variable {X : Cx} {pins : List (Addr × Obj)} {σ : St} {H : Hp} {s : Shared} {A : Around} {E : Value → Shared → Prop} {a : Addr} {v : V} {u r : Value} {kvs : List (Key × V)} {k : Key}
end
section
variable {X : Cx} {o e f : Expr} {apos cpos : Pos} {td ty tx : TE}
end
end L2
namespace L2
open PySem PySem.Spec PyProof.Rows
def XW (n : Nat) (Pv : Nat → List V → St → Hp → Prop) (d : Addr) (i m : Nat) (σ : St) (H : Hp) : Prop := m = n - i ∧ i ≤ n ∧ ∃ xs, Pv i xs σ H ∧ H d = some (.lst xs)
def XPost (n : Nat) (Pv : Nat → List V → St → Hp → Prop) (d : Addr) (i : Nat) (σ3 : St) (y : V) (H4 : Hp) : Prop := ∃ xs, H4 d = some (.lst xs) ∧ xs.length < sizeLine ∧ ∃ m', m' < n - i ∧ XW n Pv d (i + 1) m' σ3 (upd H4 d (.lst (xs ++ [y])))
def XSkip (n : Nat) (Pv : Nat → List V → St → Hp → Prop) (d : Addr) (i : Nat) (σ3 : St) (H4 : Hp) : Prop := ∃ m', m' < n - i ∧ XW n Pv d (i + 1) m' σ3 H4
theorem xpost {n : Nat} {Pv : Nat → List V → St → Hp → Prop} {d : Addr} {i : Nat} {σ3 : St} {y : V} {H4 : Hp} {xs : List V} (hi : i < n) (hd : H4 d = some (.lst xs)) (hl : xs.length ≤ 1000) (hp : Pv (i + 1) (xs ++ [y]) σ3 (upd H4 d (.lst (xs ++ [y])))) : XPost n Pv d i σ3 y H4 :=
  ⟨xs, hd, small1000 hl, n - (i + 1), by omega, rfl, hi, _, hp, upd_same⟩
theorem xskip {n : Nat} {Pv : Nat → List V → St → Hp → Prop} {d : Addr} {i : Nat} {σ3 : St} {H4 : Hp} {xs : List V} (hi : i < n) (hd : H4 d = some (.lst xs)) (hp : Pv (i + 1) xs σ3 H4) : XSkip n Pv d i σ3 H4 :=
  ⟨n - (i + 1), by omega, rfl, hi, _, hp, hd⟩
theorem comp_ex {J : It} {g : TG} {te : TE} {d : Addr} {σ0 : St} {H1 : Hp} {Q : Addr → Hp → Prop} (n : Nat) (Pv : Nat → List V → St → Hp → Prop) (h0 : Pv 0 [] σ0 (upd H1 d (.lst [])))
    (go : ∀ i xs σ H, i < n → Pv i xs σ H → H d = some (.lst xs) → J.go i H ∧ ∀ x H2, J.yld i H x H2 → g x σ H2 fun σ3 H3 => te σ3 H3 fun y H4 => XPost n Pv d i σ3 y H4)
    (stop : ∀ xs σ H, Pv n xs σ H → H d = some (.lst xs) → J.stop n H ∧ Q d H) :
    ∃ W : Nat → Nat → St → Hp → Prop, (∃ m, W 0 m σ0 (upd H1 d (.lst []))) ∧ ∀ i m σ' H', W i m σ' H' →
      (J.stop i H' ∧ Q d H') ∨ (J.go i H' ∧ ∀ x H2, J.yld i H' x H2 → g x σ' H2 fun σ3 H3 => te σ3 H3 fun y H4 => ∃ xs, H4 d = some (.lst xs) ∧ xs.length < sizeLine ∧ ∃ m', m' < m ∧ W (i + 1) m' σ3 (upd H4 d (.lst (xs ++ [y])))) := by
  refine ⟨XW n Pv d, ⟨n, by simp, Nat.zero_le _, [], h0, upd_same⟩, ?_⟩
  rintro i m σ H ⟨rfl, hi, xs, p, hd⟩
  by_cases hlt : i < n
  · exact .inr (go i xs σ H hlt p hd)
  · have : i = n := by omega
    subst this
    exact .inl (stop xs σ H p hd)
theorem compIf_ex {J : It} {g : TG} {tt : TT} {te : TE} {d : Addr} {σ0 : St} {H1 : Hp} {Q : Addr → Hp → Prop} (n : Nat) (Pv : Nat → List V → St → Hp → Prop) (h0 : Pv 0 [] σ0 (upd H1 d (.lst [])))
    (go : ∀ i xs σ H, i < n → Pv i xs σ H → H d = some (.lst xs) → J.go i H ∧ ∀ x H2, J.yld i H x H2 → g x σ H2 fun σ3 H3 => tt σ3 H3 fun b H4 => if b = true then te σ3 H4 fun y H5 => XPost n Pv d i σ3 y H5 else XSkip n Pv d i σ3 H4)
    (stop : ∀ xs σ H, Pv n xs σ H → H d = some (.lst xs) → J.stop n H ∧ Q d H) :
    ∃ W : Nat → Nat → St → Hp → Prop, (∃ m, W 0 m σ0 (upd H1 d (.lst []))) ∧ ∀ i m σ' H', W i m σ' H' →
      (J.stop i H' ∧ Q d H') ∨ (J.go i H' ∧ ∀ x H2, J.yld i H' x H2 → g x σ' H2 fun σ3 H3 => tt σ3 H3 fun b H4 => if b = true then te σ3 H4 fun y H5 => ∃ xs, H5 d = some (.lst xs) ∧ xs.length < sizeLine ∧ ∃ m', m' < m ∧ W (i + 1) m' σ3 (upd H5 d (.lst (xs ++ [y])))
        else ∃ m', m' < m ∧ W (i + 1) m' σ3 H4) := by
  refine ⟨XW n Pv d, ⟨n, by simp, Nat.zero_le _, [], h0, upd_same⟩, ?_⟩
  rintro i m σ H ⟨rfl, hi, xs, p, hd⟩
  by_cases hlt : i < n
  · exact .inr (go i xs σ H hlt p hd)
  · have : i = n := by omega
    subst this
    exact .inl (stop xs σ H p hd)
end L2
namespace K1
open PySem L2 Sq
def spIo9 : Sp := fun vs H Q _ => ∃ (d : Addr) (kvs : List (Key × V)) (n : Nat) (g : Nat → Nat), vs = [.ref d] ∧ H d = some (.dK kvs) ∧ kvs.length = n ∧ n ≤ 36 ∧ (∀ i, i < n → valV kvs (Sum.inl (i : Int) : Key) = some (.int (g i : Int))) ∧ ∀ (H' : Hp) (l : Addr), Same H H' → H l = none → H' l = some (.lst (nv ((List.range n).map g))) → Q (.ref l) H'
section
variable {P : Program} {w : World} {K : PySem.W.Frag} {mg : Str → Option Value} {base : Heap}
theorem sc_io : FnScope ["told"] ["told"] (defScope sInOrder) := ⟨rfl, rfl, rfl, by decide +kernel, rfl, by decide +kernel, by decide +kernel⟩
theorem nd_io : (["square", "told"] : List Str).Nodup := by decide +kernel
theorem ok_io {f : Addr} {fd : FuncData} (T : Bi mg) (F : Fn K mg "in_order" sInOrder ["told"] f fd) : FnOk P w K mg base CX0 1 f fd ["told"] spIo9 := by
  refine F.F.ok sc_io (fun vs H Q E h => ?_) (fun cdv A outer s H vs Q E hr h => ?_)
  · obtain ⟨d, kvs, n, g, rfl, _⟩ := h; rfl
  · obtain ⟨d, kvs, n, g, rfl, hd, hl, hn, hg, k⟩ := h
    have hu := hu_of hr
    refine ⟨_, pss_one (ps_ret (pe_comp (N := ["told"]) (names := (defScope sInOrder).names) (N' := ["square", "told"]) (k := 1) (pull := [0]) (te := tDGet1 (tVar 1) (tVar 0)) rfl ⟨by rfl, by decide +kernel, by decide +kernel, by rfl, by decide +kernel, by decide +kernel⟩ rfl rfl (pi_range1 rfl T.range (pa_cons (pe_callB call_lenD rfl T.len PySem.boot_len (pa_cons (pv 0) pa_nil)) pa_nil)) (fun _ _ _ _ _ _ => pg_name (i := 0) nd_io rfl (Or.inl rfl)) (fun _ _ _ _ _ _ => pe_dget1 hu (pv 1) (pv 0) ⟨rfl, rfl, rfl, rfl⟩))), ?_⟩
    dsimp only [tRet]
    refine compRange (m := n) (rest := [some (.ref d)]) g (fun R hR => ⟨_, rfl, d, kvs, rfl, hd, by rw [hl]; exact hR⟩) rfl (fun i H' R hi hs hR => ?_) (by omega) fun H5 e s5 he0 he => k H5 e s5 he0 he
    exact ⟨_, rfl, d, rfl, .inl ⟨kvs, .inl (hs _ _ hd)⟩, _, rfl, some (.int (g i : Int)), .inl ⟨kvs, Sum.inl (i : Int), .inl (hs _ _ hd), rfl, (hg i hi).symm⟩, hR⟩
end
end K1
namespace K1
open PySem L2 Sq
def spBackRow : Sp := fun vs H Q _ => ∃ (p : Addr) (n : Nat) (r : List Nat), vs = [.ref p] ∧ H p = some (.tup (nv r)) ∧ Row n r ∧ n ≤ 36 ∧ ∀ (H' : Hp) (l : Addr), Same H H' → H' l = some (.tup (nv (back r))) → Q (.ref l) H'
section
variable {P : Program} {w : World} {K : PySem.W.Frag} {mg : Str → Option Value} {base : Heap}
theorem scBackRow : FnScope ["row", "back", "square", "target"] ["row"] (defScope sBackRow) := ⟨rfl, rfl, rfl, by decide +kernel, rfl, by decide +kernel, by decide +kernel⟩
theorem ok_backRow {f : Addr} {fd : FuncData} (T : Bi mg) (F : Fn K mg "back_row" sBackRow ["row"] f fd) : FnOk P w K mg base CX0 1 f fd ["row"] spBackRow := by
  refine F.F.ok scBackRow (fun vs H Q E h => ?_) (fun cdv A outer s H vs Q E hr h => ?_)
  · obtain ⟨p, n, r, rfl, _⟩ := h; rfl
  · obtain ⟨p, n, r, rfl, hp, rr, hn, k⟩ := h
    refine ⟨_, pss_cons (ps_set (i := 1) scBackRow.nd rfl (Or.inl rfl) (pe_callTy call_list_of rfl T.list boot_list (pa_cons (pv 0) pa_nil)))
      (pss_cons (ps_for PassesOwn.never rfl (pi_enumT rfl T.enum (pa_cons (pv 0) pa_nil)) (pg_tupE rfl (pgs_cons (pg_name (i := 2) scBackRow.nd rfl (Or.inl rfl)) (pgs_cons (pg_name (i := 3) scBackRow.nd rfl (Or.inl rfl)) pgs_nil)))
        (pss_one (ps_lput (pv 1) (pv 3) (pv 2) rfl)))
      (pss_one (ps_ret (pe_callTy call_tuple_of rfl T.tuple boot_tuple (pa_cons (pv 1) pa_nil))))), ?_⟩
    refine ⟨_, rfl, p, _, rfl, .inr (SqT.of hp), fun lb hlb => ?_⟩
    have s1 : Same H (upd H lb (.lst (nv r))) := same_upd (Same.refl H) hlb
    refine ⟨_, rfl, p, rfl, ⟨_, SqT.of (s1 _ _ hp)⟩, for_en (xs := nv r) (fun i σ H2 => ∃ o2 o3 bl, σ = [some (.ref p), some (.ref lb), o2, o3] ∧ Same H H2 ∧ H2 lb = some (.lst (nv bl)) ∧ bl.length = n ∧ ∀ k, k < i → bl[nx r k]? = some k)
      ⟨_, _, r, rfl, s1, upd_same, rr.len, fun k hk => absurd hk (Nat.not_lt_zero _)⟩ (fun i σ H2 _ ⟨_, _, _, _, s2, _⟩ => SqT.of (s2 _ _ hp)) ?_ ?_⟩
    · rintro i x σ H2 T' hx hT ⟨o2, o3, bl, rfl, s2, h2, hbl, hall⟩
      obtain ⟨y, hy, rfl⟩ := nv_get' hx
      have hi : i < n := by rw [← rr.len]; exact (List.getElem?_eq_some_iff.mp hy).1
      have ey : y = nx r i := by have := rr.get hi; rw [hy] at this; exact Option.some.inj this
      have hyn : y < n := by rw [ey]; exact rr.nlt hi
      have h2' : (upd H2 T' (tupE T' [.int (i : Int), .int (y : Int)])) lb = some (.lst (nv bl)) := by rw [upd_ne (ne_of_none h2 hT)]; exact h2
      refine ⟨T', _, rfl, upd_same, rfl, _, _, rfl, _, _, rfl, rfl, ?_⟩
      refine ⟨_, rfl, _, rfl, _, rfl, lb, _, _, y, rfl, rfl, h2', ?_, ?_⟩
      · unfold ixN
        rw [if_pos (by omega), if_pos (by rw [nv_len, hbl]; omega)]
        simp
      refine ⟨_, _, bl.set y i, rfl, same_upd (same_upd s2 (s2.free hT)) hlb, by rw [upd_same, nv_set], by rw [List.length_set]; exact hbl, fun k hk => ?_⟩
      rcases Nat.lt_or_ge k i with c | c
      · have hne : y ≠ nx r k := fun z => by
          rw [ey] at z
          have := rr.inj hi (by omega) z
          omega
        rw [List.getElem?_set_ne hne]
        exact hall k c
      · have : k = i := by omega
        subst this
        rw [← ey, List.getElem?_set_self (by rw [hbl]; exact hyn)]
    · rintro σ H2 ⟨o2, o3, bl, rfl, s2, h2, hbl, hall⟩
      rw [nv_len, rr.len] at hall
      have e := back_fill rr hbl hall
      subst e
      refine ⟨_, rfl, lb, _, rfl, .inl ⟨SqL.of h2, fun l hl => k _ l (same_upd s2 (s2.free hl)) upd_same⟩⟩
end
end K1
namespace K1
open PySem L2 Sq
/-- the dict of the four rows -/
def sts (p0 p1 p2 p3 : Addr) : List (Key × V) := [(Sum.inr "r", .ref p0), (Sum.inr "l", .ref p1), (Sum.inr "u", .ref p2), (Sum.inr "d", .ref p3)]
def spSteps : Sp := fun vs H Q _ => ∃ (a : Addr) (n : Nat) (r u : List Nat), vs = [.ref a] ∧ ShAt H a r u ∧ Row n r ∧ Row n u ∧ n ≤ 36 ∧ ∀ (H' : Hp) (d p0 p1 p2 p3 : Addr), Same H H' → H d = none → H' d = some (.dK (sts p0 p1 p2 p3)) →
  H' p0 = some (.tup (nv (rw4 r u 0))) → H' p1 = some (.tup (nv (rw4 r u 1))) → H' p2 = some (.tup (nv (rw4 r u 2))) → H' p3 = some (.tup (nv (rw4 r u 3))) → Q (.ref d) H'
section
variable {P : Program} {w : World} {K : PySem.W.Frag} {mg : Str → Option Value} {base : Heap}
theorem scSteps : FnScope ["rows"] ["rows"] (defScope sSteps) := ⟨rfl, rfl, rfl, by decide +kernel, rfl, by decide +kernel, by decide +kernel⟩
theorem merge4 (p0 p1 p2 p3 : Addr) : mergeK [] (sts p0 p1 p2 p3) = sts p0 p1 p2 p3 := by
  have n1 : ¬ ((Sum.inr ("r" : Str) : Key) = Sum.inr ("l" : Str)) := by decide +kernel
  have n2 : ¬ ((Sum.inr ("r" : Str) : Key) = Sum.inr ("u" : Str)) := by decide +kernel
  have n3 : ¬ ((Sum.inr ("r" : Str) : Key) = Sum.inr ("d" : Str)) := by decide +kernel
  have n4 : ¬ ((Sum.inr ("l" : Str) : Key) = Sum.inr ("u" : Str)) := by decide +kernel
  have n5 : ¬ ((Sum.inr ("l" : Str) : Key) = Sum.inr ("d" : Str)) := by decide +kernel
  have n6 : ¬ ((Sum.inr ("u" : Str) : Key) = Sum.inr ("d" : Str)) := by decide +kernel
  show putK (putK (putK (putK [] (Sum.inr ("r" : Str) : Key) (V.ref p0)) (Sum.inr ("l" : Str) : Key) (V.ref p1)) (Sum.inr ("u" : Str) : Key) (V.ref p2)) (Sum.inr ("d" : Str) : Key) (V.ref p3) = _
  rw [putK_new (kvs := []) _ rfl]
  rw [putK_new (k := (Sum.inr ("l" : Str) : Key)) _ (by show valV [((Sum.inr ("r" : Str) : Key), V.ref p0)] _ = none; rw [valV_neg n1]; rfl)]
  rw [putK_new (k := (Sum.inr ("u" : Str) : Key)) _ (by show valV [((Sum.inr ("r" : Str) : Key), V.ref p0), (Sum.inr ("l" : Str), V.ref p1)] _ = none; rw [valV_neg n2, valV_neg n4]; rfl)]
  rw [putK_new (k := (Sum.inr ("d" : Str) : Key)) _ (by show valV [((Sum.inr ("r" : Str) : Key), V.ref p0), (Sum.inr ("l" : Str), V.ref p1), (Sum.inr ("u" : Str), V.ref p2)] _ = none; rw [valV_neg n3, valV_neg n5, valV_neg n6]; rfl)]
  rfl
theorem ok_steps {f fb : Addr} {fd fdb : FuncData} (F : Fn K mg "step_rows" sSteps ["rows"] f fd) (FB : Fn K mg "back_row" sBackRow ["row"] fb fdb) (GB : FnOk P w K mg base CX0 1 fb fdb ["row"] spBackRow) :
    FnOk P w K mg base CX0 2 f fd ["rows"] spSteps := by
  refine F.F.ok scSteps (fun vs H Q E h => ?_) (fun cdv A outer s H vs Q E hr h => ?_)
  · obtain ⟨a, n, r, u, rfl, _⟩ := h; rfl
  · obtain ⟨a, n, r, u, rfl, ⟨p, q, h1, h2, h3⟩, rr, ru, hn, k⟩ := h
    refine ⟨_, pss_one (ps_ret (pe_disp (pps_cons pe_str (pe_ix ix_tup (pv 0) pe_int (fun _ _ => rfl)) (pps_cons pe_str (pe_call GB hr rfl FB.m FB.F.kp FB.b .nil pass0 (pa_cons (pe_ix ix_tup (pv 0) pe_int (fun _ _ => rfl)) pa_nil))
      (pps_cons pe_str (pe_ix ix_tup (pv 0) pe_int (fun _ _ => rfl)) (pps_cons pe_str (pe_call GB hr rfl FB.m FB.F.kp FB.b .nil pass0 (pa_cons (pe_ix ix_tup (pv 0) pe_int (fun _ _ => rfl)) pa_nil)) pps_nil)))) rfl rfl (by simp) (by decide))), ?_⟩
    intro d hd
    have s0 : Same H (upd H d (.dK [])) := same_upd (Same.refl H) hd
    refine ⟨_, rfl, a, _, 0, _, rfl, rfl, SqT.of (s0 _ _ h1), atI_nat (j := 0) rfl, ?_⟩
    refine ⟨_, rfl, a, _, 0, _, rfl, rfl, SqT.of (s0 _ _ h1), atI_nat (j := 0) rfl, p, n, r, rfl, s0 _ _ h2, rr, hn, fun H1 l1 s1 hl1 => ?_⟩
    have s01 := s0.trans s1
    refine ⟨_, rfl, a, _, 1, _, rfl, rfl, SqT.of (s01 _ _ h1), atI_nat (j := 1) rfl, ?_⟩
    refine ⟨_, rfl, a, _, 1, _, rfl, rfl, SqT.of (s01 _ _ h1), atI_nat (j := 1) rfl, q, n, u, rfl, s01 _ _ h3, ru, hn, fun H2 l2 s2 hl2 => ?_⟩
    have s02 := s01.trans s2
    have hd2 : H2 d = some (.dK []) := s2 _ _ (s1 _ _ upd_same)
    refine ⟨hd2, sts p l1 q l2, rfl, by show 4 ≤ 15; decide, ?_⟩
    rw [merge4]
    have ne : ∀ b ys, H2 b = some (.tup ys) → (upd H2 d (.dK (sts p l1 q l2))) b = some (.tup ys) := fun b ys e => by
      rw [upd_ne (ne_of e hd2 (by intro z; cases z))]; exact e
    exact k _ d p l1 q l2 (same_upd s02 hd) hd upd_same (ne _ _ (s02 _ _ h2)) (ne _ _ (s2 _ _ hl1)) (ne _ _ (s02 _ _ h3)) (ne _ _ hl2)
end
end K1
namespace K1
open PySem L2 Sq
def lcode (c : Nat) : Nat := match c with
  | 0 => 114
  | 1 => 108
  | 2 => 117
  | _ => 100
def pth (p : List Nat) : Str := ⟨(p.map lcode).toArray⟩
theorem pth_nil : ("" : Str) = pth [] := by decide +kernel
theorem ltr0 : ("r" : Str) = pth [0] := by decide +kernel
theorem ltr1 : ("l" : Str) = pth [1] := by decide +kernel
theorem ltr2 : ("u" : Str) = pth [2] := by decide +kernel
theorem ltr3 : ("d" : Str) = pth [3] := by decide +kernel
theorem pth_snoc (p : List Nat) (c : Nat) : pth p ++ pth [c] = pth (p ++ [c]) := by
  show Str.mk ((p.map lcode).toArray ++ ([c].map lcode).toArray) = Str.mk _
  simp
theorem pth_len (p : List Nat) : (pth p).length = p.length := by
  show (p.map lcode).toArray.size = _
  simp
theorem sts_get {p0 p1 p2 p3 : Addr} {i : Nat} {k : Key} {v : V} (h : (sts p0 p1 p2 p3)[i]? = some (k, v)) : i < 4 ∧ k = Sum.inr (pth [i]) ∧ ∃ p, v = .ref p ∧ [p0, p1, p2, p3][i]? = some p := by
  match i, h with
  | 0, h => cases h; exact ⟨by decide, by rw [← ltr0], _, rfl, rfl⟩
  | 1, h => cases h; exact ⟨by decide, by rw [← ltr1], _, rfl, rfl⟩
  | 2, h => cases h; exact ⟨by decide, by rw [← ltr2], _, rfl, rfl⟩
  | 3, h => cases h; exact ⟨by decide, by rw [← ltr3], _, rfl, rfl⟩
  | i + 4, h => cases h
end K1
namespace K1
open PySem L2 Sq
/-- the dict of the squares found, with their paths -/
def pd (F : List Nat) (P : List (List Nat)) : List (Key × V) := (F.zip P).map fun xp => ((Sum.inl (xp.1 : Int) : Key), V.str (pth xp.2))
theorem pd_len {F : List Nat} {P : List (List Nat)} (h : P.length = F.length) : (pd F P).length = F.length := by simp [pd, h]
theorem pd_snoc {F : List Nat} {P : List (List Nat)} (h : P.length = F.length) (x : Nat) (p : List Nat) : pd (F ++ [x]) (P ++ [p]) = pd F P ++ [(Sum.inl (x : Int), V.str (pth p))] := by
  unfold pd
  rw [List.zip_append h.symm, List.map_append]; rfl
theorem pd_keys : ∀ {F : List Nat} {P : List (List Nat)}, P.length = F.length → (pd F P).map (·.1) = F.map fun (n : Nat) => (Sum.inl (n : Int) : Key)
  | [], _, _ => rfl
  | x :: F, [], h => by simp at h
  | x :: F, p :: P, h => by
    show (Sum.inl (x : Int) : Key) :: (pd F P).map (·.1) = _
    rw [pd_keys (by simpa using h)]; rfl
theorem pd_none {F : List Nat} {P : List (List Nat)} (h : P.length = F.length) {y : Nat} (hy : y ∉ F) : valV (pd F P) (Sum.inl (y : Int) : Key) = none := by
  cases e : valV (pd F P) (Sum.inl (y : Int) : Key) with
  | none => rfl
  | some v =>
    have := valV_in e
    rw [pd_keys h] at this
    obtain ⟨x, hx, ex⟩ := List.mem_map.mp this
    have : x = y := by have := Sum.inl.inj ex; omega
    exact absurd (this ▸ hx) hy
theorem pd_some : ∀ {F : List Nat} {P : List (List Nat)}, F.Nodup → ∀ {i x : Nat} {p : List Nat}, F[i]? = some x → P[i]? = some p → valV (pd F P) (Sum.inl (x : Int) : Key) = some (.str (pth p))
  | [], _, _, i, x, p, hx, _ => by simp at hx
  | y :: F, [], _, i, x, p, _, hp => by simp at hp
  | y :: F, q :: P, nd, 0, x, p, hx, hp => by
    simp at hx hp
    subst hx hp
    exact valV_pos rfl
  | y :: F, q :: P, nd, i + 1, x, p, hx, hp => by
    have nd' := List.nodup_cons.mp nd
    have hx' : F[i]? = some x := by simpa using hx
    have hne : y ≠ x := fun e => nd'.1 (e ▸ List.mem_of_getElem? hx')
    show valV ((((Sum.inl (y : Int) : Key), V.str (pth q))) :: pd F P) _ = _
    rw [valV_neg (fun e => hne (by have := Sum.inl.inj e; omega))]
    exact pd_some nd'.2 hx' (by simpa using hp)
def spPaths : Sp := fun vs H Q _ => ∃ (a : Addr) (n : Nat) (r u : List Nat) (f : Nat), vs = [.ref a, .int (f : Int)] ∧ ShAt H a r u ∧ Row n r ∧ Row n u ∧ n ≤ 36 ∧ f < n ∧
  ∀ (H' : Hp) (d : Addr) (F : List Nat) (P : List (List Nat)), Same H H' → H d = none → H' d = some (.dK (pd F P)) → PthAll n r u f F P → Q (.ref d) H'
/-- the four rows stand -/
def Rows4 (H : Hp) (r u : List Nat) (p0 p1 p2 p3 : Addr) : Prop := ∀ i p, [p0, p1, p2, p3][i]? = some p → H p = some (.tup (nv (rw4 r u i)))
/-- between two letters of a square -/
def PIn (n : Nat) (r u : List Nat) (f : Nat) (a ds dp lf : Addr) (kk x : Nat) (p0 p1 p2 p3 : Addr) (H : Hp) (o : Obj) (i : Nat) (σ : St) (H3 : Hp) : Prop :=
  ∃ (F1 : List Nat) (P1 : List (List Nat)) (o7 o8 : Option V), σ = [some (.ref a), some (.int (f : Int)), some (.ref ds), some (.ref dp), some (.ref lf), some (.int (kk : Int)), some (.int (x : Int)), o7, o8] ∧ Same H H3 ∧ H3 ds = some (.frz o (.dK (sts p0 p1 p2 p3))) ∧ Rows4 H3 r u p0 p1 p2 p3 ∧
    H3 dp = some (.dK (pd F1 P1)) ∧ H3 lf = some (.lst (nv F1)) ∧ Pth n r u f F1 P1 kk i ∧ F1[kk]? = some x
section
variable {P : Program} {w : World} {K : PySem.W.Frag} {mg : Str → Option Value} {base : Heap}
theorem scPaths : FnScope ["rows", "first", "steps", "paths", "found", "done", "here", "letter", "row"] ["rows", "first"] (defScope sPaths) := ⟨rfl, rfl, rfl, by decide +kernel, rfl, by decide +kernel, by decide +kernel⟩
theorem ok_paths {f fs : Addr} {fd fds : FuncData} (T : Bi mg) (F : Fn K mg "paths_from" sPaths ["rows", "first"] f fd) (FS : Fn K mg "step_rows" sSteps ["rows"] fs fds) (GS : FnOk P w K mg base CX0 2 fs fds ["rows"] spSteps) :
    FnOk P w K mg base CX0 3 f fd ["rows", "first"] spPaths := by
  refine F.F.ok scPaths (fun vs H Q E h => ?_) (fun cdv A outer s H vs Q E hr h => ?_)
  · obtain ⟨a, n, r, u, f, rfl, _⟩ := h; rfl
  · obtain ⟨a, n, r, u, f, rfl, hsh, rr, ru, hn, hf, k⟩ := h
    have hu := hu_of hr
    refine ⟨_, pss_cons (ps_set (i := 2) scPaths.nd rfl (Or.inl rfl) (pe_call GS hr rfl FS.m FS.F.kp FS.b .nil pass0 (pa_cons (pv 0) pa_nil)))
      (pss_cons (ps_set (i := 3) scPaths.nd rfl (Or.inl rfl) (pe_disp (pps_cons (pv 1) pe_str pps_nil) rfl rfl (by simp) (by decide)))
      (pss_cons (ps_set (i := 4) scPaths.nd rfl (Or.inl rfl) (pe_lst (pa_cons (pv 1) pa_nil)))
      (pss_cons (ps_set (i := 5) scPaths.nd rfl (Or.inl rfl) pe_int)
      (pss_cons (ps_while PassesOwn.never (pt_cmpR op_lt (pv 5) (pe_callB call_len_seq (by rfl) T.len PySem.boot_len (pa_cons (pv 4) pa_nil)) (nomark _))
        (pss_cons (ps_set (i := 6) scPaths.nd rfl (Or.inl rfl) (pe_ix ix_list (pv 4) (pv 5) (fun _ _ => rfl)))
        (pss_cons (ps_for PassesOwn.never rfl (pi_items (pv 2)) (pg_tup rfl (pgs_cons (pg_name (i := 7) scPaths.nd rfl (Or.inl rfl)) (pgs_cons (pg_name (i := 8) scPaths.nd rfl (Or.inl rfl)) pgs_nil)))
          (pss_one (ps_if (pt_cmp (pc_dnotin hu (pe_ix ix_tup (pv 8) (pv 6) (fun _ _ => rfl)) (pv 3)))
            (pss_cons (ps_dput hu (pv 3) (pe_ix ix_tup (pv 8) (pv 6) (fun _ _ => rfl)) (pe_op op_add_str (pe_dget hu (pv 3) (pv 6) (fun _ _ => rfl)) (pv 7)) rfl)
            (pss_one (ps_expr (pe_bm PySem.F.plainAttrs_list PySem.F.slot_list_append PySem.F.type_list_append mt_append (pv 4) (pa_cons (pe_ix ix_tup (pv 8) (pv 6) (fun _ _ => rfl)) pa_nil))))) pss_nil)))
        (pss_one (ps_aug (i := 5) scPaths.nd rfl (Or.inl rfl) pe_int ip_add)))))
      (pss_one (ps_ret (pv 3))))))), ?_⟩
    refine ⟨_, rfl, a, n, r, u, rfl, hsh, rr, ru, hn, fun H1 ds p0 p1 p2 p3 s1 hds0 hds hp0 hp1 hp2 hp3 => ?_⟩
    have rows1 : Rows4 H1 r u p0 p1 p2 p3 := by
      intro i p hi
      match i, hi with
      | 0, hi => cases hi; exact hp0
      | 1, hi => cases hi; exact hp1
      | 2, hi => cases hi; exact hp2
      | 3, hi => cases hi; exact hp3
      | i + 4, hi => cases hi
    -- paths = {first: ''}
    intro dp hdp
    refine ⟨_, rfl, upd_same, [((Sum.inl (f : Int) : Key), V.str "")], rfl, by show 1 ≤ 15; decide, ?_⟩
    have edp : mergeK [] [((Sum.inl (f : Int) : Key), V.str "")] = pd [f] [[]] := by
      show putK [] (Sum.inl (f : Int) : Key) (V.str "") = _
      rw [putK_new (kvs := []) _ rfl, pth_nil]; rfl
    rw [edp]
    refine ⟨_, rfl, (by show 1 ≤ sizeLine; decide), fun lf hlf => ?_⟩
    have ndp : dp ≠ ds := fun e => by rw [e, hds] at hdp; cases hdp
    have g0 : H1 lf = none := by
      by_cases e : lf = dp
      · rw [e]; exact hdp
      · rw [upd_ne e, upd_ne e] at hlf; exact hlf
    have nlf : lf ≠ dp := fun e => by rw [e, upd_same] at hlf; cases hlf
    have nls : lf ≠ ds := fun e => by rw [e, hds] at g0; cases g0
    have Hdp : H dp = none := s1.free hdp
    have Hlf : H lf = none := s1.free g0
    refine while_by (fun σ H2 => ∃ (F : List Nat) (P : List (List Nat)) (kk : Nat) (o6 o7 o8 : Option V), σ = [some (.ref a), some (.int (f : Int)), some (.ref ds), some (.ref dp), some (.ref lf), some (.int (kk : Int)), o6, o7, o8] ∧ Same H H2 ∧ Rd H2 ds (.dK (sts p0 p1 p2 p3)) ∧ Rows4 H2 r u p0 p1 p2 p3 ∧
      H2 dp = some (.dK (pd F P)) ∧ H2 lf = some (.lst (nv F)) ∧ Pth n r u f F P kk 0) (fun σ _ => mu 5 σ) ?_ ?_ ?_
    · refine ⟨[f], [[]], 0, _, _, _, rfl, same_upd (same_upd (same_upd s1 Hdp) Hdp) Hlf, .inl (by rw [upd_ne nls.symm, upd_ne ndp.symm, upd_ne ndp.symm]; exact hds), fun i p hi => ?_, by rw [upd_ne nlf.symm, upd_same], upd_same, Pth.start hf⟩
      have := rows1 i p hi
      rw [upd_ne (ne_of_none this g0), upd_ne (ne_of_none this hdp), upd_ne (ne_of_none this hdp)]
      exact this
    · rintro σ H2 ⟨F, P', kk, o6, o7, o8, rfl, s2, hst, rows2, h2p, h2l, hP⟩
      refine ⟨_, rfl, _, rfl, lf, _, rfl, .inl (SqL.of h2l), _, _, rfl, rfl, _, rfl, ?_⟩
      rw [nv_len]
      refine ite2 (fun hlt => ?_) (fun hge => ?_)
      · have hlt : (kk : Int) < (F.length : Int) := of_decide_eq_true hlt
        have hk : kk < F.length := by omega
        have hx : F[kk]? = some F[kk] := List.getElem?_eq_getElem hk
        have hxn : F[kk] < n := hP.lt _ (List.getElem_mem hk)
        refine ⟨_, rfl, _, rfl, lf, _, _, _, rfl, rfl, SqL.of h2l, atI_nat (nv_get hx), ?_⟩
        -- for letter, row in steps.items()
        have start : ∀ (o : Obj) (H3 : Hp), Same H H3 → H3 ds = some (.frz o (.dK (sts p0 p1 p2 p3))) → Rows4 H3 r u p0 p1 p2 p3 → H3 dp = some (.dK (pd F P')) → H3 lf = some (.lst (nv F)) → PIn n r u f a ds dp lf kk F[kk] p0 p1 p2 p3 H o 0
            [some (.ref a), some (.int (f : Int)), some (.ref ds), some (.ref dp), some (.ref lf), some (.int (kk : Int)), some (.int (F[kk] : Int)), o7, o8] H3 := fun o H3 e1 e2 e3 e4 e5 => ⟨F, P', _, _, rfl, e1, e2, e3, e4, e5, hP, hx⟩
        have turn : ∀ (o : Obj) (i : Nat) (ky : Key) (v : V) (σ : St) (H3 : Hp) (T' : Addr), (sts p0 p1 p2 p3)[i]? = some (ky, v) → H3 T' = none → PIn n r u f a ds dp lf kk F[kk] p0 p1 p2 p3 H o i σ H3 → ∃ (F1 : List Nat) (P1 : List (List Nat)) (p : Addr), i < 4 ∧ ky = Sum.inr (pth [i]) ∧ v = .ref p ∧
            (∃ o7 o8, σ = [some (.ref a), some (.int (f : Int)), some (.ref ds), some (.ref dp), some (.ref lf), some (.int (kk : Int)), some (.int (F[kk] : Int)), o7, o8]) ∧ Same H (upd H3 T' (.tup [kV ky, v])) ∧ (upd H3 T' (.tup [kV ky, v])) ds = some (.frz o (.dK (sts p0 p1 p2 p3))) ∧
            Rows4 (upd H3 T' (.tup [kV ky, v])) r u p0 p1 p2 p3 ∧ (upd H3 T' (.tup [kV ky, v])) p = some (.tup (nv (rw4 r u i))) ∧ (upd H3 T' (.tup [kV ky, v])) dp = some (.dK (pd F1 P1)) ∧ (upd H3 T' (.tup [kV ky, v])) lf = some (.lst (nv F1)) ∧ Pth n r u f F1 P1 kk i ∧ F1[kk]? = some F[kk] := by
          rintro o i ky v σ H3 T' hi hT ⟨F1, P1, o7, o8, rfl, e1, e2, e3, e4, e5, e6, e7⟩
          obtain ⟨hi4, rfl, p, rfl, hpi⟩ := sts_get hi
          have hp3 := e3 i p hpi
          refine ⟨F1, P1, p, hi4, rfl, rfl, ⟨_, _, rfl⟩, same_upd e1 (e1.free hT), by rw [upd_ne (ne_of_none e2 hT)]; exact e2, fun j q hq => ?_, by rw [upd_ne (ne_of_none hp3 hT)]; exact hp3, by rw [upd_ne (ne_of_none e4 hT)]; exact e4, by rw [upd_ne (ne_of_none e5 hT)]; exact e5, e6, e7⟩
          have := e3 j q hq
          rw [upd_ne (ne_of_none this hT)]; exact this
        refine ⟨_, rfl, ds, sts p0 p1 p2 p3, rfl, hst, fun o H3 h3s h3o => ?_⟩
        have hns : ∀ b w', H2 b = some w' → (∀ o, w' ≠ .frz o (.dK (sts p0 p1 p2 p3))) → w' ≠ .dK (sts p0 p1 p2 p3) → H3 b = some w' := fun b w' e c1 c2 => by
          have hb : b ≠ ds := fun z => by
            subst z
            rcases hst with q | ⟨o', q⟩
            · rw [e] at q; exact c2 (Option.some.inj q)
            · rw [e] at q; exact c1 o' (Option.some.inj q)
          rw [h3o b hb]; exact e
        have e1 : Same H H3 := fun b w' e => by
          rw [h3o b (ne_of_none e hds0)]; exact s2 b w' e
        have e3 : Rows4 H3 r u p0 p1 p2 p3 := fun i p hi => hns _ _ (rows2 i p hi) (fun _ z => nomatch z) (fun z => nomatch z)
        have ndps : dp ≠ ds := ndp
        have e4 : H3 dp = some (.dK (pd F P')) := by rw [h3o dp ndps]; exact h2p
        have e5 : H3 lf = some (.lst (nv F)) := by rw [h3o lf nls]; exact h2l
        refine for_items (a := ds) (kvs := sts p0 p1 p2 p3) (o := o) (PIn n r u f a ds dp lf kk F[kk] p0 p1 p2 p3 H o) (start o H3 e1 h3s e3 e4 e5) (fun i σ H4 _ ⟨_, _, _, _, _, _, e, _⟩ => e) ?_ ?_
        · intro i ky v σ H4 T' hi hT hin
          obtain ⟨F1, P1, p, hi4, rfl, rfl, ⟨q7, q8, rfl⟩, f1, f2, f3, f4, f5, f6, f7, f8⟩ := turn o i ky v σ H4 T' hi hT hin
          generalize hH5 : upd H4 T' (.tup [kV (Sum.inr (pth [i])), .ref p]) = H5 at f1 f2 f3 f4 f5 f6 ⊢
          have f0 : H5 T' = some (.tup [kV (Sum.inr (pth [i])), .ref p]) := by rw [← hH5]; exact upd_same
          have hrow := rw4_row rr ru i
          have hk1 : kk < F1.length := (List.getElem?_eq_some_iff.mp f8).1
          have hFl := f7.flen
          refine ⟨T', _, rfl, SqT.of f0, rfl, _, _, rfl, _, _, rfl, rfl, ?_⟩
          refine ⟨_, rfl, _, rfl, p, _, _, _, rfl, rfl, SqT.of f4, atI_nat (nv_get (hrow.get hxn)), _, rfl, dp, _, rfl, DGet.k (k := (Sum.inl ((nx (rw4 r u i) F[kk] : Nat) : Int) : Key)) f5, _, rfl, ?_⟩
          by_cases hy : nx (rw4 r u i) F[kk] ∈ F1
          · obtain ⟨j, hj, ej⟩ := List.mem_iff_getElem.mp hy
            have hj1 : F1[j]? = some (nx (rw4 r u i) F[kk]) := by rw [List.getElem?_eq_getElem hj, ej]
            have hj2 : j < P1.length := by rw [f7.len]; exact hj
            rw [pd_some f7.nd hj1 (List.getElem?_eq_getElem hj2)]
            refine iteF ?_
            exact ⟨F1, P1, _, _, rfl, f1, f2, f3, f5, f6, f7.old f8 hy, f8⟩
          · rw [pd_none f7.len hy]
            refine iteT ?_
            have hk2 : kk < P1.length := by rw [f7.len]; exact hk1
            obtain ⟨pk, hpk⟩ : ∃ pk, P1[kk]? = some pk := ⟨_, List.getElem?_eq_getElem hk2⟩
            have hlen := (f7.ok kk _ pk f8 hpk).2.1
            have hg := DGet.k (k := (Sum.inl ((F[kk] : Nat) : Int) : Key)) f5
            rw [pd_some f7.nd f8 hpk] at hg
            refine ⟨_, rfl, _, rfl, dp, _, rfl, hg, _, rfl, _, _, rfl, rfl, ?_, ?_⟩
            · rw [pth_len, pth_len]
              exact Nat.le_of_lt (small1000 (by show pk.length + 1 ≤ 1000; omega))
            refine ⟨_, rfl, _, rfl, _, rfl, p, _, _, _, rfl, rfl, SqT.of f4, atI_nat (nv_get (hrow.get hxn)), dp, _, rfl, DPut.k (k := (Sum.inl ((nx (rw4 r u i) F[kk] : Nat) : Int) : Key)) f5 (by rw [pd_len f7.len]; exact small1000 (by omega)), ?_⟩
            rw [putK_new _ (pd_none f7.len hy), pth_snoc, ← pd_snoc f7.len]
            generalize hH6 : upd H5 dp (.dK (pd (F1 ++ [nx (rw4 r u i) F[kk]]) (P1 ++ [pk ++ [i]]))) = H6
            have g1 : Same H H6 := by rw [← hH6]; exact same_upd f1 Hdp
            have g2 : H6 ds = some (.frz o (.dK (sts p0 p1 p2 p3))) := by rw [← hH6, upd_ne ndp.symm]; exact f2
            have g3 : Rows4 H6 r u p0 p1 p2 p3 := fun j q hq => by
              have := f3 j q hq
              rw [← hH6, upd_ne (ne_of this f5 (by intro z; cases z))]; exact this
            have g4 : H6 p = some (.tup (nv (rw4 r u i))) := by rw [← hH6, upd_ne (ne_of f4 f5 (by intro z; cases z))]; exact f4
            have g5 : H6 dp = some (.dK (pd (F1 ++ [nx (rw4 r u i) F[kk]]) (P1 ++ [pk ++ [i]]))) := by rw [← hH6]; exact upd_same
            have g6 : H6 lf = some (.lst (nv F1)) := by rw [← hH6, upd_ne nlf]; exact f6
            refine ⟨_, rfl, .inl ⟨rfl, _, SqL.of g6⟩, _, rfl, _, rfl, p, _, _, _, rfl, rfl, SqT.of g4, atI_nat (nv_get (hrow.get hxn)), lf, _, _, rfl, rfl, g6, ?_, ?_⟩
            · rw [nv_len]; exact small1000 (by omega)
            refine ⟨_, _, _, _, rfl, same_upd g1 Hlf, by rw [upd_ne nls.symm]; exact g2, fun j q hq => ?_, by rw [upd_ne nlf.symm]; exact g5, by rw [upd_same, nv_snoc], f7.new rr ru hi4 f8 hpk hy, ?_⟩
            · have := g3 j q hq
              rw [upd_ne (ne_of this g6 (by intro z; cases z))]; exact this
            · rw [List.getElem?_append_left hk1]; exact f8
        · rintro σ H4 ⟨F1, P1, q7, q8, rfl, f1, f2, f3, f5, f6, f7, f8⟩
          refine ⟨_, rfl, _, _, rfl, rfl, ⟨F1, P1, kk + 1, _, _, _, rfl, f1, .inr ⟨o, f2⟩, f3, f5, f6, f7.next f8⟩, ?_⟩
          show (100 - ((kk : Int) + 1)).toNat < (100 - (kk : Int)).toNat
          have := f7.flen
          have := (List.getElem?_eq_some_iff.mp f8).1
          omega
      · have hge : ¬ (kk : Int) < (F.length : Int) := fun z => hge (decide_eq_true z)
        exact ⟨_, rfl, k H2 dp F P' s2 Hdp h2p (hP.all (by omega))⟩
    · rintro σ H Q Q' h ⟨v, e1, v', e2, p, ys, e3, sq, i, j, e4, e5, k, e6, q⟩
      exact ⟨v, e1, v', e2, p, ys, e3, sq, i, j, e4, e5, k, e6, h _ _ q⟩
end
end K1
namespace K1
open PySem L2 Sq
def spEach (K : PySem.W.Frag) : Sp := fun vs H Q _ => ∃ (p : Addr) (n : Nat) (r : List Nat), vs = [.ref p] ∧ RowAt K H p r ∧ Row n r ∧ n ≤ 36 ∧ ∀ H' : Hp, Same H H' → Q (.bl true) H'
/-- a row handed in: a list, or a tuple of ours -/
def RowT (K : PySem.W.Frag) (H : Hp) (p : Addr) (r : List Nat) : Prop := SqL K H p (nv r) ∨ H p = some (.tup (nv r))
theorem RowT.row {K : PySem.W.Frag} {H : Hp} {p : Addr} {r : List Nat} (h : RowT K H p r) : RowAt K H p r := h.imp id SqT.of
theorem RowT.same {K : PySem.W.Frag} {H H' : Hp} {p : Addr} {r : List Nat} (e : Same H H') (h : RowT K H p r) : RowT K H' p r := h.imp e.seq (e _ _)
def spChecked (K : PySem.W.Frag) : Sp := fun vs H Q _ => ∃ (p q : Addr) (n : Nat) (r u : List Nat), vs = [.ref p, .ref q] ∧ RowT K H p r ∧ RowT K H q u ∧ Row n r ∧ Row n u ∧ 1 ≤ n ∧ n ≤ 36 ∧ ∀ (H' : Hp) (a : Addr), Same H H' → ShAt H' a r u → Q (.ref a) H'
/-- len of a list or a tuple, as it is read -/
abbrev rLen (K : PySem.W.Frag) : List V → Hp → VK → Prop := fun xs H Q => ∃ p ys, xs = [.ref p] ∧ (SqL K H p ys ∨ SqT K H p ys) ∧ Q (.int (ys.length : Int)) H
theorem compSq {K : PySem.W.Frag} {Hc : Hp} {p : Addr} {r : List Nat} {n : Nat} {Q : VK} {σ : St} (h0 : σ[0]? = some (some (.ref p))) (hb : bst 1 [0] σ = [none, some (.ref p)]) (hp : RowAt K Hc p r) (rr : Row n r) (hn : n ≤ 36)
    (k : ∀ (H' : Hp) (d : Addr), Same Hc H' → H' d = some (.lst ((List.replicate n true).map V.bl)) → Q (.ref d) H') :
    tComp (fun σ H R => iList K (tVar 0) σ H R ∨ iTup K (tVar 0) σ H R) 1 [0] (gName 0) (tCall spIsSq [] E0 (tCons (tVar 0) (tCons (tCB (rLen K) (tCons (tVar 1) tNil)) tNil))) σ Hc Q := by
  have core : ∀ (J : It), (∀ H3, Same Hc H3 → (∀ i, i < n → J.go i H3 ∧ ∀ x H2, J.yld i H3 x H2 → H2 = H3 ∧ x = .int (nx r i : Int)) ∧ J.stop n H3) → ∀ d, Hc d = none →
      ∃ W : Nat → Nat → St → Hp → Prop, (∃ m, W 0 m (bst 1 [0] σ) (upd Hc d (.lst []))) ∧ ∀ i m σ' H', W i m σ' H' →
        (J.stop i H' ∧ Q (.ref d) H') ∨ (J.go i H' ∧ ∀ x H2, J.yld i H' x H2 → gName 0 x σ' H2 fun σ3 H3 => tCall spIsSq [] E0 (tCons (tVar 0) (tCons (tCB (rLen K) (tCons (tVar 1) tNil)) tNil)) σ3 H3 fun y H4 => ∃ xs, H4 d = some (.lst xs) ∧ xs.length < sizeLine ∧ ∃ m', m' < m ∧ W (i + 1) m' σ3 (upd H4 d (.lst (xs ++ [y])))) := by
    intro J hJ d hd
    rw [hb]
    refine comp_by (Q := fun d H' => Q (.ref d) H') n ((List.replicate n true).map V.bl) (by simp) (fun i σ H3 => ∃ o, σ = [o, some (.ref p)] ∧ Same Hc H3) ⟨_, rfl, same_upd (Same.refl _) hd⟩ ?_ ?_
    · rintro i σ H3 hi ⟨o, rfl, s3⟩ hd3
      obtain ⟨g1, g2⟩ := (hJ H3 s3).1 i hi
      refine ⟨g1, fun x H4 hy => ?_⟩
      obtain ⟨e1, e2⟩ := g2 x H4 hy
      subst e1 e2
      refine ⟨_, rfl, _, rfl, p, _, rfl, hp.same s3, _, _, rfl, ?_⟩
      have hlt := rr.nlt hi
      rw [nv_len, rr.len, decide_eq_true (by omega)]
      exact cpost hi (by omega) hd3 (by simp [hi]) ⟨_, rfl, same_upd s3 hd⟩
    · rintro σ H3 ⟨o, rfl, s3⟩ hd3
      exact ⟨(hJ H3 s3).2, k H3 d s3 hd3⟩
  rcases id hp with h | h
  · refine .inl ⟨_, h0, p, rfl, ⟨_, h⟩, core _ fun H3 s3 => ⟨fun i hi => ⟨⟨_, _, s3.seq h, nv_get (rr.get hi)⟩, fun x H2 ⟨e, hy⟩ => ⟨e, ?_⟩⟩, ⟨_, s3.seq h, by rw [nv_len, rr.len]; exact Nat.le_refl _⟩⟩⟩
    have := hy _ (s3.seq h)
    rw [nv_get (rr.get hi)] at this
    exact (Option.some.inj this).symm
  · refine .inr ⟨_, h0, p, rfl, ⟨_, h⟩, core _ fun H3 s3 => ⟨fun i hi => ⟨⟨_, _, Same.tseq s3 h, nv_get (rr.get hi)⟩, fun x H2 ⟨e, hy⟩ => ⟨e, ?_⟩⟩, ⟨_, Same.tseq s3 h, by rw [nv_len, rr.len]; exact Nat.le_refl _⟩⟩⟩
    have := hy _ (Same.tseq s3 h)
    rw [nv_get (rr.get hi)] at this
    exact (Option.some.inj this).symm
section
variable {P : Program} {w : World} {K : PySem.W.Frag} {mg : Str → Option Value} {base : Heap}
theorem scEach : FnScope ["row"] ["row"] (defScope sEach) := ⟨rfl, rfl, rfl, by decide +kernel, rfl, by decide +kernel, by decide +kernel⟩
theorem ndT : (["thing", "row"] : List Str).Nodup := by decide +kernel
theorem ok_each {f fs : Addr} {fd fds : FuncData} (T : Bi mg) (F : Fn K mg "has_each_once" sEach ["row"] f fd) (FS : Fn K mg "is_square" sIsSq ["thing", "squares"] fs fds) (GS : FnOk P w K mg base CX0 2 fs fds ["thing", "squares"] spIsSq) :
    FnOk P w K mg base CX0 3 f fd ["row"] (spEach K) := by
  refine F.F.ok scEach (fun vs H Q E h => ?_) (fun cdv A outer s H vs Q E hr h => ?_)
  · obtain ⟨p, n, r, rfl, _⟩ := h; rfl
  · obtain ⟨p, n, r, rfl, hp, rr, hn, k⟩ := h
    refine ⟨_, pss_cons (ps_if (pt_not (pt_val (pe_callB (call_all_bools rfl) (by rfl) T.all boot_all (pa_cons
          (pe_comp (N := ["row"]) (names := (defScope sEach).names) (N' := ["thing", "row"]) (k := 1) (pull := [0]) (te := tCall spIsSq [] E0 (tCons (tVar 0) (tCons (tCB (rLen K) (tCons (tVar 1) tNil)) tNil))) rfl
            ⟨by rfl, by decide +kernel, by decide +kernel, by rfl, by decide +kernel, by decide +kernel⟩ rfl rfl (PI.or (pi_list (pv 0)) (pi_tup (pv 0))) (fun _ _ _ _ _ _ => pg_name (i := 0) ndT rfl (Or.inl rfl))
            (fun _ _ _ _ _ _ => pe_call GS hr rfl FS.m FS.F.kp FS.b .nil pass0 (pa_cons (pv 0) (pa_cons (pe_callB call_len_seq (by rfl) T.len PySem.boot_len (pa_cons (pv 1) pa_nil)) pa_nil)))) pa_nil)))) (pss_one (ps_ret pe_bl)) pss_nil)
      (pss_one (ps_ret (pe_cmpR op_eq (pe_callB call_len_set' (by rfl) T.len PySem.boot_len (pa_cons (pe_callTy (call_set rfl) (by rfl) T.set boot_set (pa_cons (pv 0) pa_nil)) pa_nil)) (pe_callB call_len_seq (by rfl) T.len PySem.boot_len (pa_cons (pv 0) pa_nil)) (nomark _)))), ?_⟩
    dsimp only [tNext, tSeq, tIfS, tNot, tB, tCB, tCons]
    refine compSq rfl rfl hp rr hn fun H3 d s3 hd3 => ?_
    refine ⟨d, _, rfl, SqL.of hd3, _, rfl, ?_⟩
    rw [all_rep]
    refine iteF ?_
    refine ⟨_, rfl, p, r, rfl, hp.same s3, by rw [rr.len]; omega, fun d2 S hd2 => ?_⟩
    have s4 : Same H (upd H3 d2 (.set S (dcount r))) := same_upd s3 (s3.free hd2)
    refine ⟨d2, S, _, rfl, upd_same, _, rfl, p, _, rfl, hp.same s4, rfl, ?_⟩
    have e : decide (V.int (dcount r : Int) = V.int ((nv r).length : Int)) = true := decide_eq_true (by rw [dcount_nd rr.nd, nv_len])
    rw [e]
    exact k _ s4
theorem scChecked : FnScope ["right", "up"] ["right", "up"] (defScope sChecked) := ⟨rfl, rfl, rfl, by decide +kernel, rfl, by decide +kernel, by decide +kernel⟩
/-- tuple(row), as it is read -/
def rTupOf (K : PySem.W.Frag) : List V → Hp → VK → Prop := fun xs H Q => ∃ p ys, xs = [.ref p] ∧ ((SqL K H p ys ∧ ∀ l, H l = none → Q (.ref l) (upd H l (.tup ys))) ∨ (SqT K H p ys ∧ Q (.ref p) H))
theorem call_tupleR {X : Cx} : CallR X (.type "tuple") (rTupOf X.K) := call_tuple_of
theorem tupOf {K : PySem.W.Frag} {H : Hp} {p : Addr} {r : List Nat} {Q : VK} (h : RowT K H p r) (k : ∀ (H' : Hp) (l : Addr), Same H H' → H' l = some (.tup (nv r)) → Q (.ref l) H') :
    rTupOf K [.ref p] H Q := by
  rcases h with h | h
  · exact ⟨p, _, rfl, .inl ⟨h, fun l hl => k _ l (same_upd (Same.refl H) hl) upd_same⟩⟩
  · exact ⟨p, _, rfl, .inr ⟨SqT.of h, k H p (Same.refl H) h⟩⟩
theorem ok_checked {f fe : Addr} {fd fde : FuncData} {tm : Tok} (T : Bi mg) (hm : mg "MOST_SQUARES" = some (.int 36 tm)) (F : Fn K mg "checked_rows" sChecked ["right", "up"] f fd) (FE : Fn K mg "has_each_once" sEach ["row"] fe fde) (GE : FnOk P w K mg base CX0 3 fe fde ["row"] (spEach K)) :
    FnOk P w K mg base CX0 4 f fd ["right", "up"] (spChecked K) := by
  refine F.F.ok scChecked (fun vs H Q E h => ?_) (fun cdv A outer s H vs Q E hr h => ?_)
  · obtain ⟨p, q, n, r, u, rfl, _⟩ := h; rfl
  · obtain ⟨p, q, n, r, u, rfl, hp, hq, rr, ru, h1, hn, k⟩ := h
    refine ⟨_, pss_cons (ps_if (pt_cmpR op_ne (pe_callB call_len_seq (by rfl) T.len PySem.boot_len (pa_cons (pv 0) pa_nil)) (pe_callB call_len_seq (by rfl) T.len PySem.boot_len (pa_cons (pv 1) pa_nil)) (nomark _)) pss_never pss_nil)
      (pss_cons (ps_if (pt_not (pt_chain op_le op_le pe_int (pe_callB call_len_seq (by rfl) T.len PySem.boot_len (pa_cons (pv 0) pa_nil)) (pe_glob (v := .int 36) (by rfl) hm ⟨_, rfl⟩))) pss_never pss_nil)
      (pss_cons (ps_if (pt_not (PW.pt (pw_and (pt_val (pe_call GE hr rfl FE.m FE.F.kp FE.b .nil pass0 (pa_cons (pv 0) pa_nil))) (pw_and1 (pt_val (pe_call GE hr rfl FE.m FE.F.kp FE.b .nil pass0 (pa_cons (pv 1) pa_nil))))))) pss_never pss_nil)
      (pss_one (ps_ret (pe_tup (pa_cons (pe_callTy call_tupleR (by rfl) T.tuple boot_tuple (pa_cons (pv 0) pa_nil)) (pa_cons (pe_callTy call_tupleR (by rfl) T.tuple boot_tuple (pa_cons (pv 1) pa_nil)) pa_nil))))))), ?_⟩
    refine ⟨_, rfl, p, _, rfl, hp.row, _, rfl, q, _, rfl, hq.row, rfl, _, rfl, ?_⟩
    refine iteNS (by rw [nv_len, nv_len, rr.len, ru.len]) ?_
    refine ⟨_, rfl, p, _, rfl, hp.row, _, _, rfl, rfl, _, rfl, ?_⟩
    rw [nv_len, rr.len]
    have e1 : decide ((1 : Int) ≤ (n : Int)) = true := decide_eq_true (by omega)
    have e2 : decide ((n : Int) ≤ 36) = true := decide_eq_true (by omega)
    rw [e1]
    refine iteT ?_
    refine ⟨_, _, rfl, rfl, _, rfl, ?_⟩
    rw [e2]
    refine iteF ?_
    refine ⟨_, rfl, p, n, r, rfl, hp.row, rr, hn, fun H1 s1 => ?_⟩
    refine ⟨_, rfl, ?_⟩
    refine iteT ?_
    refine ⟨_, rfl, q, n, u, rfl, hq.row.same s1, ru, hn, fun H2 s2 => ?_⟩
    refine ⟨_, rfl, ?_⟩
    refine iteF ?_
    have s12 := s1.trans s2
    refine ⟨_, rfl, ?_⟩
    dsimp only [tNil, tCons, tCB]
    refine tupOf (hp.same s12) fun H3 t1 s3 h3 => ?_
    refine ⟨_, rfl, ?_⟩
    dsimp only [tNil, tCons, tCB]
    refine tupOf (hq.same (s12.trans s3)) fun H4 t2 s4 h4 => ?_
    refine ⟨by show 2 ≤ sizeLine; decide, fun a ha => k _ a (same_upd (s12.trans (s3.trans s4)) ((s12.trans (s3.trans s4)).free ha)) ⟨t1, t2, upd_same, ?_, ?_⟩⟩
    · have := s4 _ _ h3
      rw [upd_ne (ne_of_none this ha)]; exact this
    · rw [upd_ne (ne_of_none h4 ha)]; exact h4
end
end K1
namespace K1
open PySem L2 Sq
/-- the squares below j, seen -/
def seenK (j : Nat) : List (Key × V) := (List.range j).map fun (x : Nat) => ((Sum.inl (x : Int) : Key), V.bl true)
theorem seen_succ (j : Nat) : seenK (j + 1) = seenK j ++ [(Sum.inl (j : Int), V.bl true)] := by
  unfold seenK; rw [List.range_succ, List.map_append]; rfl
theorem seen_len (j : Nat) : (seenK j).length = j := by simp [seenK]
theorem seen_val : ∀ (j i : Nat), valV (seenK j) (Sum.inl (i : Int) : Key) = if i < j then some (.bl true) else none
  | 0, i => rfl
  | j + 1, i => by
    have hn : valV (seenK j) (Sum.inl (j : Int) : Key) = none := by rw [seen_val j j, if_neg (Nat.lt_irrefl _)]
    rw [seen_succ, valV_snoc _ _ _ _ hn]
    by_cases e : i = j
    · subst e; rw [if_pos rfl, if_pos (Nat.lt_succ_self _)]
    · rw [if_neg (fun z => e (by have := Sum.inl.inj z; omega)), seen_val j i]
      by_cases h : i < j
      · rw [if_pos h, if_pos (by omega)]
      · rw [if_neg h, if_neg (by omega)]
def spGroups : Sp := fun vs H Q _ => ∃ (a : Addr) (n : Nat) (r u : List Nat), vs = [.ref a] ∧ ShAt H a r u ∧ Sheet n r u ∧ ∀ (H' : Hp) (l g : Addr), Same H H' → H' l = some (.lst [.ref g]) → H' g = some (.lst (nv (List.range n))) → Q (.ref l) H'
def spSheetOf (K : PySem.W.Frag) : Sp := fun vs H Q _ => ∃ (p q : Addr) (n : Nat) (r u : List Nat), vs = [.ref p, .ref q] ∧ RowT K H p r ∧ RowT K H q u ∧ Sheet n r u ∧ ∀ (H' : Hp) (a : Addr), Same H H' → ShAt H' a r u → Q (.ref a) H'
section
variable {P : Program} {w : World} {K : PySem.W.Frag} {mg : Str → Option Value} {base : Heap}
theorem scGroups : FnScope ["rows", "told", "seen", "first", "group", "square"] ["rows"] (defScope sGroups) := ⟨rfl, rfl, rfl, by decide +kernel, rfl, by decide +kernel, by decide +kernel⟩
theorem ok_groups {f fz fp : Addr} {fd fdz fdp : FuncData} (T : Bi mg) (F : Fn K mg "groups_of" sGroups ["rows"] f fd) (FZ : Fn K mg "size" sSize ["sheet"] fz fdz) (GZ : FnOk P w K mg base CX0 1 fz fdz ["sheet"] spSize)
    (FP : Fn K mg "paths_from" sPaths ["rows", "first"] fp fdp) (GP : FnOk P w K mg base CX0 3 fp fdp ["rows", "first"] spPaths) : FnOk P w K mg base CX0 4 f fd ["rows"] spGroups := by
  refine F.F.ok scGroups (fun vs H Q E h => ?_) (fun cdv A outer s H vs Q E hr h => ?_)
  · obtain ⟨a, n, r, u, rfl, _⟩ := h; rfl
  · obtain ⟨a, n, r, u, rfl, hsh, hS, k⟩ := h
    have hu := hu_of hr
    have hr1 : Room 1 _ := hr.mono (by decide)
    refine ⟨_, pss_cons (ps_set (i := 1) scGroups.nd rfl (Or.inl rfl) (pe_lst pa_nil))
      (pss_cons (ps_set (i := 2) scGroups.nd rfl (Or.inl rfl) pe_dnewK)
      (pss_cons (ps_for PassesOwn.never rfl (pi_range1 rfl T.range (pa_cons (pe_call GZ hr1 rfl FZ.m FZ.F.kp FZ.b .nil pass0 (pa_cons (pv 0) pa_nil)) pa_nil)) (pg_name (i := 3) scGroups.nd rfl (Or.inl rfl))
        (pss_one (ps_if (pt_cmp (pc_dnotin hu (pv 3) (pv 2)))
          (pss_cons (ps_set (i := 4) scGroups.nd rfl (Or.inl rfl) (pe_callB (call_sorted rfl) rfl T.sorted boot_sorted (pa_cons (pe_call GP hr rfl FP.m FP.F.kp FP.b .nil pass0 (pa_cons (pv 0) (pa_cons (pv 3) pa_nil))) pa_nil)))
          (pss_cons (ps_expr (pe_bm PySem.F.plainAttrs_list PySem.F.slot_list_append PySem.F.type_list_append mt_append (pv 1) (pa_cons (pv 4) pa_nil)))
          (pss_one (ps_for PassesOwn.never rfl (pi_list (pv 4)) (pg_name (i := 5) scGroups.nd rfl (Or.inl rfl)) (pss_one (ps_dput hu (pv 2) (pv 5) pe_bl rfl)))))) pss_nil)))
      (pss_one (ps_ret (pv 1))))), ?_⟩
    refine ⟨Nat.zero_le _, fun lt hlt => ?_⟩
    intro dn hdn
    have s1 : Same H (upd H lt (.lst [])) := same_upd (Same.refl H) hlt
    have Hdn : H dn = none := s1.free hdn
    have s2 : Same H (upd (upd H lt (.lst [])) dn (.dK [])) := same_upd s1 Hdn
    have nlt : lt ≠ dn := fun e => by rw [← e, upd_same] at hdn; cases hdn
    refine ⟨_, rfl, a, r, u, rfl, hsh.same s2, (r.length : Int), rfl, by omega, by have := hS.most; have := hS.row.len; omega, ?_⟩
    rw [Int.toNat_natCast, hS.row.len]
    refine for_range (n := n) (fun i σ H2 => ∃ o3 o4 o5, σ = [some (.ref a), some (.ref lt), some (.ref dn), o3, o4, o5] ∧ Same H H2 ∧ ((i = 0 ∧ H2 lt = some (.lst []) ∧ H2 dn = some (.dK [])) ∨ (1 ≤ i ∧ ∃ g, H2 lt = some (.lst [.ref g]) ∧ H2 g = some (.lst (nv (List.range n))) ∧ H2 dn = some (.dK (seenK n))))) ?_ ?_ ?_
    · exact ⟨_, _, _, rfl, s2, .inl ⟨rfl, by rw [upd_ne nlt, upd_same], upd_same⟩⟩
    · rintro i σ H2 hi ⟨o3, o4, o5, rfl, e2, ⟨rfl, h2t, h2n⟩ | ⟨h1i, g, h2t, h2g, h2n⟩⟩
      · -- the first square: its group is all
        refine ⟨_, rfl, _, rfl, dn, _, rfl, DGet.k (k := (Sum.inl (((0 : Nat) : Int)) : Key)) h2n, _, rfl, ?_⟩
        refine iteT ?_
        refine ⟨_, rfl, _, rfl, a, n, r, u, 0, rfl, hsh.same e2, hS.row, hS.col, hS.most, hS.pos, fun H3 dp F P' e3 _ h3 hP => ?_⟩
        have rF := hP.full hS
        refine ⟨dp, F, rfl, .inr (.inr ⟨_, h3, pd_keys hP.len⟩), by rw [rF.len]; have := hS.most; omega, fun g S hg pS sS => ?_⟩
        have eS : S = List.range n := rF.sorted pS sS
        subst eS
        have ngt : lt ≠ g := ne_of_none (e3 _ _ h2t) hg
        have h4t : (upd H3 g (.lst (nv (List.range n)))) lt = some (.lst []) := by rw [upd_ne ngt]; exact e3 _ _ h2t
        refine ⟨_, rfl, .inl ⟨rfl, _, SqL.of h4t⟩, _, rfl, lt, _, _, rfl, rfl, h4t, by show 0 < sizeLine; decide, ?_⟩
        have e23 := e2.trans e3
        have Hg : H g = none := e23.free hg
        have ndg : dn ≠ g := ne_of_none (e3 _ _ h2n) hg
        have f1 : Same H (upd (upd H3 g (.lst (nv (List.range n)))) lt (.lst ([] ++ [.ref g]))) := same_upd (same_upd e23 Hg) hlt
        have f2 : (upd (upd H3 g (.lst (nv (List.range n)))) lt (.lst ([] ++ [.ref g]))) g = some (.lst (nv (List.range n))) := by rw [upd_ne ngt.symm, upd_same]
        refine ⟨_, rfl, g, rfl, ⟨_, SqL.of f2⟩, for_list (K := K) (a := g) (xs := nv (List.range n)) (fun j σ H4 => ∃ o5, σ = [some (.ref a), some (.ref lt), some (.ref dn), some (.int (0 + ((0 : Nat) : Int))), some (.ref g), o5] ∧ Same H H4 ∧ H4 lt = some (.lst [.ref g]) ∧ H4 g = some (.lst (nv (List.range n))) ∧ H4 dn = some (.dK (seenK j)))
          ⟨_, rfl, f1, upd_same, f2, by rw [upd_ne nlt.symm, upd_ne ndg]; exact e3 _ _ h2n⟩ (fun j σ H4 _ ⟨_, _, _, _, e, _⟩ => SqL.of e) ?_ ?_⟩
        · rintro j x σ H4 hx ⟨o5, rfl, q1, q2, q3, q4⟩
          obtain ⟨y, hy, rfl⟩ := nv_get' hx
          have hj : j < n := by have := (List.getElem?_eq_some_iff.mp hy).1; simpa using this
          have ey : y = j := by rw [List.getElem?_range hj] at hy; exact (Option.some.inj hy).symm
          subst ey
          refine ⟨_, rfl, _, rfl, dn, _, rfl, DPut.k (k := (Sum.inl (y : Int) : Key)) q4 (by rw [seen_len]; exact small1000 (by have := hS.most; omega)), ?_⟩
          refine ⟨_, rfl, same_upd q1 Hdn, by rw [upd_ne nlt]; exact q2, by rw [upd_ne ndg.symm]; exact q3, ?_⟩
          rw [upd_same, putK_new _ (by rw [seen_val, if_neg (Nat.lt_irrefl _)]), seen_succ]
        · rintro σ H4 ⟨o5, rfl, q1, q2, q3, q4⟩
          rw [nv_len, List.length_range] at q4
          exact ⟨_, _, _, rfl, q1, .inr ⟨Nat.le_refl _, g, q2, q3, q4⟩⟩
      · refine ⟨_, rfl, _, rfl, dn, _, rfl, DGet.k (k := (Sum.inl (0 + (i : Int)) : Key)) h2n, _, rfl, ?_⟩
        have ev : valV (seenK n) (Sum.inl (0 + (i : Int)) : Key) = some (.bl true) := by
          rw [Int.zero_add, seen_val, if_pos hi]
        rw [ev]
        refine iteF ?_
        exact ⟨_, _, _, rfl, e2, .inr ⟨by omega, g, h2t, h2g, h2n⟩⟩
    · rintro σ H2 ⟨o3, o4, o5, rfl, e2, ⟨e0, _⟩ | ⟨h1i, g, h2t, h2g, h2n⟩⟩
      · have := hS.pos; omega
      · exact ⟨_, rfl, k H2 lt g e2 h2t h2g⟩
theorem scSheetOf : FnScope ["right", "up", "sheet", "parts"] ["right", "up"] (defScope sSheetOf) := ⟨rfl, rfl, rfl, by decide +kernel, rfl, by decide +kernel, by decide +kernel⟩
theorem ok_sheetOf {f fc fg : Addr} {fd fdc fdg : FuncData} (T : Bi mg) (F : Fn K mg "sheet_of" sSheetOf ["right", "up"] f fd) (FC : Fn K mg "checked_rows" sChecked ["right", "up"] fc fdc) (GC : FnOk P w K mg base CX0 4 fc fdc ["right", "up"] (spChecked K))
    (FG : Fn K mg "groups_of" sGroups ["rows"] fg fdg) (GG : FnOk P w K mg base CX0 4 fg fdg ["rows"] spGroups) : FnOk P w K mg base CX0 5 f fd ["right", "up"] (spSheetOf K) := by
  refine F.F.ok scSheetOf (fun vs H Q E h => ?_) (fun cdv A outer s H vs Q E hr h => ?_)
  · obtain ⟨p, q, n, r, u, rfl, _⟩ := h; rfl
  · obtain ⟨p, q, n, r, u, rfl, hp, hq, hS, k⟩ := h
    refine ⟨_, pss_cons (ps_set (i := 2) scSheetOf.nd rfl (Or.inl rfl) (pe_call GC hr rfl FC.m FC.F.kp FC.b .nil pass0 (pa_cons (pv 0) (pa_cons (pv 1) pa_nil))))
      (pss_cons (ps_set (i := 3) scSheetOf.nd rfl (Or.inl rfl) (pe_call GG hr rfl FG.m FG.F.kp FG.b .nil pass0 (pa_cons (pv 2) pa_nil)))
      (pss_cons (ps_if (pt_cmpR op_gt (pe_callB call_len_seq (by rfl) T.len PySem.boot_len (pa_cons (pv 3) pa_nil)) pe_int (nomark _)) pss_never pss_nil)
      (pss_one (ps_ret (pv 2))))), ?_⟩
    refine ⟨_, rfl, _, rfl, p, q, n, r, u, rfl, hp, hq, hS.row, hS.col, hS.pos, hS.most, fun H1 a s1 ha => ?_⟩
    refine ⟨_, rfl, a, n, r, u, rfl, ha, hS, fun H2 l g s2 hl hg => ?_⟩
    refine ⟨_, rfl, l, _, rfl, .inl (SqL.of hl), _, _, rfl, rfl, _, rfl, ?_⟩
    refine iteF ?_
    exact ⟨_, rfl, k H2 a (s1.trans s2) (ha.same s2)⟩
end
end K1
namespace Sq
section
variable {n : Nat} {r f : List Nat}
theorem row_of {l : List Nat} (hl : l.length = n) (lt : ∀ i, i < n → nx l i < n) (inj : ∀ i j, i < n → j < n → nx l i = nx l j → i = j) : Row n l where
  len := hl
  nd := by
    refine List.pairwise_iff_getElem.mpr fun i j hi hj hij e => ?_
    have := inj i j (by omega) (by omega) (by simp [nx, List.getD, List.getElem?_eq_getElem hi, List.getElem?_eq_getElem hj, e])
    omega
  lt := fun x hx => by
    obtain ⟨i, hi, e⟩ := List.mem_iff_getElem.mp hx
    have := lt i (by omega)
    rwa [show nx l i = x from by simp [nx, List.getD, List.getElem?_eq_getElem hi, e]] at this
end
end Sq
namespace Sq
/-- i steps on -/
def it (w : List Nat) (x : Nat) : Nat → Nat
  | 0 => x
  | i + 1 => nx w (it w x i)
/-- the list of what is met from x on, until one would come to x again -/
structure Cyc (w : List Nat) (x : Nat) (M : List Nat) : Prop where
  pos : 1 ≤ M.length
  is : M = (List.range M.length).map (it w x)
  back : it w x M.length = x
  new : ∀ i, 1 ≤ i → i < M.length → it w x i ≠ x
theorem Cyc.unique {w : List Nat} {x : Nat} {M M' : List Nat} (h : Cyc w x M) (h' : Cyc w x M') : M = M' := by
  have e : M.length = M'.length := by
    rcases Nat.lt_trichotomy M.length M'.length with c | c | c
    · exact absurd h.back (h'.new _ h.pos c)
    · exact c
    · exact absurd h'.back (h.new _ h'.pos c)
  rw [h.is, h'.is, e]
section
variable {n : Nat} {w : List Nat}
theorem it_lt (rw' : Row n w) {x : Nat} (hx : x < n) : ∀ i, it w x i < n
  | 0 => hx
  | i + 1 => rw'.nlt (it_lt rw' hx i)
theorem it_cancel (rw' : Row n w) {x : Nat} (hx : x < n) : ∀ i j, it w x (i + j) = it w x i → it w x j = x
  | 0, j, h => by simpa [it] using h
  | i + 1, j, h => by
    have e : it w x (i + 1 + j) = nx w (it w x (i + j)) := by rw [show i + 1 + j = (i + j) + 1 from by omega]; rfl
    rw [e] at h
    exact it_cancel rw' hx i j (rw'.inj (it_lt rw' hx _) (it_lt rw' hx _) h)
theorem it_nodup (rw' : Row n w) {x k : Nat} (hx : x < n) (h : ∀ i, 1 ≤ i → i < k → it w x i ≠ x) : ((List.range k).map (it w x)).Nodup := by
  refine List.pairwise_map.mpr (List.Pairwise.imp_of_mem (R := fun a b => a < b) (fun {a b} ha hb hab e => ?_) List.pairwise_lt_range)
  have hb := List.mem_range.mp hb
  have := it_cancel rw' hx a (b - a) (by rw [show a + (b - a) = b from by omega]; exact e.symm)
  exact h (b - a) (by omega) (by omega) this
theorem it_len (rw' : Row n w) {x k : Nat} (hx : x < n) (h : ∀ i, 1 ≤ i → i < k → it w x i ≠ x) : k ≤ n := by
  have := sub_len _ (List.range n) (it_nodup rw' hx h) fun y hy => by
    obtain ⟨i, _, rfl⟩ := List.mem_map.mp hy
    exact List.mem_range.mpr (it_lt rw' hx i)
  simpa using this
theorem Cyc.nd (rw' : Row n w) {x : Nat} (hx : x < n) {M : List Nat} (h : Cyc w x M) : M.Nodup := by
  rw [h.is]; exact it_nodup rw' hx h.new
theorem Cyc.get {x : Nat} {M : List Nat} (h : Cyc w x M) {i : Nat} (hi : i < M.length) : M[i]? = some (it w x i) := by
  rw [h.is]; simp [hi]
theorem Cyc.lt (rw' : Row n w) {x : Nat} (hx : x < n) {M : List Nat} (h : Cyc w x M) : ∀ y ∈ M, y < n := fun y hy => by
  rw [h.is] at hy
  obtain ⟨i, _, rfl⟩ := List.mem_map.mp hy
  exact it_lt rw' hx i
/-- the next in the round is the next in the row -/
theorem Cyc.next {x : Nat} {M : List Nat} (h : Cyc w x M) {i y : Nat} (hi : M[i]? = some y) : M[(i + 1) % M.length]? = some (nx w y) := by
  have hl := (List.getElem?_eq_some_iff.mp hi).1
  have e : y = it w x i := by have := h.get hl; rw [hi] at this; exact Option.some.inj this
  subst e
  rcases Nat.lt_or_ge (i + 1) M.length with c | c
  · rw [Nat.mod_eq_of_lt c, h.get c]; rfl
  · have : i + 1 = M.length := by omega
    rw [this, Nat.mod_self, h.get h.pos]
    have hb := h.back
    rw [← this] at hb
    show some x = some (nx w (it w x i))
    rw [show nx w (it w x i) = it w x (i + 1) from rfl, hb]
theorem it_add (x : Nat) (i : Nat) : ∀ j, it w x (i + j) = it w (it w x i) j
  | 0 => rfl
  | j + 1 => by show nx w (it w x (i + j)) = nx w (it w (it w x i) j); rw [it_add x i j]
end
end Sq
namespace K1
open PySem L2 Sq
def spCycF (K : PySem.W.Frag) : Sp := fun vs H Q _ => ∃ (p : Addr) (n : Nat) (r : List Nat) (x : Nat), vs = [.ref p, .int (x : Int)] ∧ RowAt K H p r ∧ Row n r ∧ x < n ∧ n ≤ 36 ∧
  ∀ (H' : Hp) (l : Addr) (M : List Nat), Same H H' → H l = none → H' l = some (.lst (nv M)) → Cyc r x M → Q (.ref l) H'
/-- how far the list at l is from 100 -/
def muL (l : Addr) (H : Hp) : Nat := match H l with
  | some (.lst xs) => 100 - xs.length
  | _ => 0
theorem muL_at {l : Addr} {H : Hp} {xs : List V} (h : H l = some (.lst xs)) : muL l H = 100 - xs.length := by unfold muL; rw [h]
theorem last_at {M : List Nat} {k y : Nat} (hk : M.length = k + 1) (h : M[k]? = some y) : atI (nv M) (-1) = some (.int (y : Int)) := by
  unfold atI ixN
  rw [if_neg (by decide), if_pos (by rw [nv_len]; omega)]
  show (nv M)[((-1 : Int) + ((nv M).length : Int)).toNat]? = _
  rw [nv_len, hk, show ((-1 : Int) + ((k + 1 : Nat) : Int)).toNat = k from by omega]
  exact nv_get h
theorem rIx_mono {K : PySem.W.Frag} {x y : V} {H : Hp} {Q Q' : VK} (h : ∀ v H1, Q v H1 → Q' v H1) (q : rIx K x y H Q) : rIx K x y H Q' := by
  rcases q with ⟨a, xs, i, v, q1, q2, q3, q4, q⟩ | ⟨a, xs, i, v, q1, q2, q3, q4, q⟩ | ⟨z, i, v, q1, q2, q3, q4, q⟩
  · exact .inl ⟨a, xs, i, v, q1, q2, q3, q4, h _ _ q⟩
  · exact .inr (.inl ⟨a, xs, i, v, q1, q2, q3, q4, h _ _ q⟩)
  · exact .inr (.inr ⟨z, i, v, q1, q2, q3, q4, h _ _ q⟩)
section
variable {P : Program} {w : World} {K : PySem.W.Frag} {mg : Str → Option Value} {base : Heap}
abbrev nCy : List Str := ["row", "first", "met"]
theorem scCy : FnScope nCy ["row", "first"] (defScope sCycleFrom) := ⟨rfl, rfl, rfl, by decide +kernel, rfl, by decide +kernel, by decide +kernel⟩
theorem ok_cycF {f : Addr} {fd : FuncData} (F : Fn K mg "cycle_from" sCycleFrom ["row", "first"] f fd) : FnOk P w K mg base CX0 1 f fd ["row", "first"] (spCycF K) := by
  refine F.F.ok scCy (fun vs H Q E h => ?_) (fun cdv A outer s H vs Q E hr h => ?_)
  · obtain ⟨p, n, r, x, rfl, _⟩ := h; rfl
  · obtain ⟨p, n, r, x, rfl, hp, rr, hx, hn, k⟩ := h
    refine ⟨_, pss_cons (ps_set (i := 2) scCy.nd rfl (Or.inl rfl) (pe_lst (pa_cons (pv 1) pa_nil)))
      (pss_cons (ps_while PassesOwn.never (pt_cmpR op_ne (pe_ix ix_seq (pv 0) (pe_ix ix_list (pv 2) (pe_un un_neg pe_int) (fun _ _ => rfl)) (fun _ _ => rfl)) (pv 1) (nomark _))
        (pss_one (ps_expr (pe_bm PySem.F.plainAttrs_list PySem.F.slot_list_append PySem.F.type_list_append mt_append (pv 2) (pa_cons (pe_ix ix_seq (pv 0) (pe_ix ix_list (pv 2) (pe_un un_neg pe_int) (fun _ _ => rfl)) (fun _ _ => rfl)) pa_nil)))))
      (pss_one (ps_ret (pv 2)))), ?_⟩
    refine ⟨_, rfl, (by show 1 ≤ sizeLine; decide), fun l hl => ?_⟩
    refine while_by (fun σ H2 => ∃ k, σ = [some (.ref p), some (.int (x : Int)), some (.ref l)] ∧ Same H H2 ∧ H2 l = some (.lst (nv ((List.range (k + 1)).map (it r x)))) ∧ ∀ i, 1 ≤ i → i < k + 1 → it r x i ≠ x) (fun _ H => muL l H) ?_ ?_ ?_
    · exact ⟨0, rfl, same_upd (Same.refl H) hl, upd_same, fun i h1 h2 => absurd h2 (by omega)⟩
    · rintro σ H2 ⟨kk, rfl, s2, h2, new⟩
      have hlen := it_len rr hx new
      have hM : ((List.range (kk + 1)).map (it r x)).length = kk + 1 := by simp
      have hlast := last_at hM (show ((List.range (kk + 1)).map (it r x))[kk]? = some (it r x kk) by simp)
      have hlt := it_lt rr hx kk
      refine ⟨_, rfl, _, rfl, _, rfl, l, _, _, _, rfl, rfl, SqL.of h2, hlast, ?_⟩
      refine rowIx (hp.same s2) rr hlt ?_
      refine ⟨_, rfl, rfl, _, rfl, ?_⟩
      by_cases e : nx r (it r x kk) = x
      · refine iteNS (by rw [e]) ?_
        refine ⟨_, rfl, k H2 l _ s2 hl h2 ⟨by rw [hM]; omega, by rw [hM], by rw [hM]; exact e, by rw [hM]; exact new⟩⟩
      · rw [decide_eq_false (by intro z; have := V.int.inj z; exact e (by omega))]
        refine iteT ?_
        refine ⟨_, rfl, .inl ⟨rfl, _, SqL.of h2⟩, _, rfl, _, rfl, _, rfl, l, _, _, _, rfl, rfl, SqL.of h2, hlast, ?_⟩
        refine rowIx (hp.same s2) rr hlt ?_
        refine ⟨l, _, _, rfl, rfl, h2, by rw [nv_len, hM]; exact small1000 (by omega), ?_⟩
        have e2 : nv ((List.range (kk + 1)).map (it r x)) ++ [.int ((nx r (it r x kk) : Nat) : Int)] = nv ((List.range (kk + 1 + 1)).map (it r x)) := by
          rw [nv_snoc, List.range_succ (n := kk + 1), List.map_append]; rfl
        rw [e2]
        refine ⟨⟨kk + 1, rfl, same_upd s2 hl, upd_same, fun i h1 h2' => ?_⟩, ?_⟩
        · rcases Nat.lt_or_ge i (kk + 1) with c | c
          · exact new i h1 c
          · have : i = kk + 1 := by omega
            subst this; exact e
        · rw [muL_at upd_same, muL_at h2, nv_len, nv_len, hM]
          simp; omega
    · rintro σ H Q Q' h h2
      obtain ⟨v, e1, v1, e2, v2, e3, q⟩ := h2
      refine ⟨v, e1, v1, e2, v2, e3, ?_⟩
      obtain ⟨a, xs, i, v, q1, q2, q3, q4, q⟩ := q
      refine ⟨a, xs, i, v, q1, q2, q3, q4, ?_⟩
      exact rIx_mono (fun x H1 ⟨v', e, q5, w', e', q6⟩ => ⟨v', e, q5, w', e', h _ _ q6⟩) q
end
end K1
namespace Sq
def per (n : Nat) (w : List Nat) (x : Nat) : Nat := ((List.range n).find? fun k => decide (it w x (k + 1) = x)).getD 0 + 1
def cyc (n : Nat) (w : List Nat) (x : Nat) : List Nat := (List.range (per n w x)).map (it w x)
def lead (n : Nat) (w : List Nat) (x : Nat) : Bool := decide (∀ y ∈ cyc n w x, x ≤ y)
def rounds (n : Nat) (w : List Nat) : List (List Nat) := ((List.range n).filter (lead n w)).map (cyc n w)
section
variable {n : Nat} {w : List Nat}
theorem per_is (rw' : Row n w) {x : Nat} (hx : x < n) : it w x (per n w x) = x ∧ ∀ i, 1 ≤ i → i < per n w x → it w x i ≠ x := by
  unfold per
  cases h : (List.range n).find? fun k => decide (it w x (k + 1) = x) with
  | none =>
    have := List.find?_eq_none.mp h
    have := it_len (k := n + 1) rw' hx fun i h1 h2 e => by
      refine this (i - 1) (List.mem_range.mpr (by omega)) ?_
      rw [show i - 1 + 1 = i from by omega]; exact decide_eq_true e
    omega
  | some k =>
    obtain ⟨h1, as, bs, h2, h3⟩ := List.find?_eq_some_iff_append.mp h
    refine ⟨of_decide_eq_true h1, fun i hi hlt e => ?_⟩
    have hlt : i < k + 1 := hlt
    have hk : as.length = k := by
      have hl : as.length < n := by
        have := congrArg List.length h2
        simp at this; omega
      have e1 : (List.range n)[as.length]? = some k := by rw [h2]; simp
      rw [List.getElem?_range hl] at e1
      exact Option.some.inj e1
    have hi' : i - 1 < as.length := by omega
    have hl : as.length ≤ n := by
      have := congrArg List.length h2
      simp at this; omega
    have e2 : as[i - 1]? = some (i - 1) := by
      have : (List.range n)[i - 1]? = as[i - 1]? := by rw [h2, List.getElem?_append_left hi']
      rw [← this, List.getElem?_range (by omega)]
    have := h3 (i - 1) (List.mem_of_getElem? e2)
    rw [show i - 1 + 1 = i from by omega, e] at this
    simp at this
theorem cyc_len (n : Nat) (w : List Nat) (x : Nat) : (cyc n w x).length = per n w x := by simp [cyc]
theorem cyc_is (rw' : Row n w) {x : Nat} (hx : x < n) : Cyc w x (cyc n w x) := by
  obtain ⟨h1, h2⟩ := per_is rw' hx
  refine ⟨by rw [cyc_len]; unfold per; omega, by rw [cyc_len]; rfl, by rw [cyc_len]; exact h1, by rw [cyc_len]; exact h2⟩
theorem Cyc.eq (rw' : Row n w) {x : Nat} (hx : x < n) {M : List Nat} (h : Cyc w x M) : M = cyc n w x := h.unique (cyc_is rw' hx)
theorem cyc_head (rw' : Row n w) {x : Nat} (hx : x < n) : (cyc n w x)[0]? = some x := (cyc_is rw' hx).get (cyc_is rw' hx).pos
/-- each step stays in the cycle -/
theorem it_mem (rw' : Row n w) {x : Nat} (hx : x < n) : ∀ i, it w x i ∈ cyc n w x
  | 0 => List.mem_of_getElem? (cyc_head rw' hx)
  | i + 1 => by
    obtain ⟨j, hj, e⟩ := List.mem_iff_getElem.mp (it_mem rw' hx i)
    have := (cyc_is rw' hx).next (i := j) (y := it w x i) (by rw [List.getElem?_eq_getElem hj, e])
    exact List.mem_of_getElem? this
theorem mem_it (rw' : Row n w) {x y : Nat} (h : y ∈ cyc n w x) : ∃ i, i < per n w x ∧ y = it w x i := by
  obtain ⟨i, hi, rfl⟩ := List.mem_map.mp h
  exact ⟨i, List.mem_range.mp hi, rfl⟩
theorem cyc_lt (rw' : Row n w) {x y : Nat} (hx : x < n) (h : y ∈ cyc n w x) : y < n := (cyc_is rw' hx).lt rw' hx y h
theorem it_back (rw' : Row n w) {x : Nat} (hx : x < n) {i : Nat} (hi : i ≤ per n w x) : it w (it w x i) (per n w x - i) = x := by
  rw [← it_add, show i + (per n w x - i) = per n w x from by omega]
  exact (per_is rw' hx).1
theorem cyc_symm (rw' : Row n w) {x y : Nat} (hx : x < n) (h : y ∈ cyc n w x) : x ∈ cyc n w y := by
  obtain ⟨i, hi, rfl⟩ := mem_it rw' h
  have := it_mem rw' (it_lt rw' hx i) (per n w x - i)
  rwa [it_back rw' hx (Nat.le_of_lt hi)] at this
theorem cyc_trans (rw' : Row n w) {x y z : Nat} (hx : x < n) (h : y ∈ cyc n w x) (h' : z ∈ cyc n w y) : z ∈ cyc n w x := by
  obtain ⟨i, _, rfl⟩ := mem_it rw' h
  obtain ⟨j, _, rfl⟩ := mem_it rw' h'
  rw [← it_add]
  exact it_mem rw' hx _
/-- the least of a list -/
theorem least_of : ∀ (l : List Nat), l ≠ [] → ∃ m ∈ l, ∀ y ∈ l, m ≤ y
  | [], h => absurd rfl h
  | [a], _ => ⟨a, by simp, by simp⟩
  | a :: b :: l, _ => by
    obtain ⟨m, hm, h⟩ := least_of (b :: l) (by simp)
    rcases Nat.lt_or_ge m a with c | c
    · refine ⟨m, List.mem_cons_of_mem _ hm, fun y hy => ?_⟩
      rcases List.mem_cons.mp hy with e | hy
      · rw [e]; omega
      · exact h y hy
    · refine ⟨a, by simp, fun y hy => ?_⟩
      rcases List.mem_cons.mp hy with e | hy
      · rw [e]; omega
      · have := h y hy; omega
theorem lead_iff {x : Nat} : lead n w x = true ↔ ∀ y ∈ cyc n w x, x ≤ y := decide_eq_true_iff
theorem has_lead (rw' : Row n w) {x : Nat} (hx : x < n) : ∃ l, l < n ∧ lead n w l = true ∧ x ∈ cyc n w l := by
  obtain ⟨m, hm, h⟩ := least_of (cyc n w x) (fun e => by have := cyc_head rw' hx; rw [e] at this; simp at this)
  have hmn := cyc_lt rw' hx hm
  exact ⟨m, hmn, lead_iff.mpr fun y hy => h y (cyc_trans rw' hx hm hy), cyc_symm rw' hx hm⟩
theorem lead_unique (rw' : Row n w) {x l l' : Nat} (hl : l < n) (hl' : l' < n) (h1 : lead n w l = true) (h2 : lead n w l' = true) (h : x ∈ cyc n w l) (h' : x ∈ cyc n w l') : l = l' := by
  have a := lead_iff.mp h1 l' (cyc_trans rw' hl h (cyc_symm rw' hl' h'))
  have b := lead_iff.mp h2 l (cyc_trans rw' hl' h' (cyc_symm rw' hl h))
  omega
theorem rounds_perm (rw' : Row n w) : (rounds n w).flatten.Perm (List.range n) := by
  refine (List.perm_ext_iff_of_nodup ?_ List.nodup_range).mpr fun x => ?_
  · refine List.pairwise_flatten.mpr ⟨fun l hl => ?_, ?_⟩
    · obtain ⟨x, hx, rfl⟩ := List.mem_map.mp hl
      have hx := List.mem_range.mp (List.mem_filter.mp hx).1
      exact (cyc_is rw' hx).nd rw' hx
    · refine List.pairwise_map.mpr ?_
      have : ((List.range n).filter (lead n w)).Pairwise (· < ·) := List.Pairwise.filter _ List.pairwise_lt_range
      refine this.imp_of_mem fun {a b} ha hb hab x hx y hy e => ?_
      obtain ⟨a1, a2⟩ := List.mem_filter.mp ha
      obtain ⟨b1, b2⟩ := List.mem_filter.mp hb
      subst e
      have := lead_unique rw' (List.mem_range.mp a1) (List.mem_range.mp b1) a2 b2 hx hy
      omega
  · constructor
    · intro h
      obtain ⟨l, hl, hx⟩ := List.mem_flatten.mp h
      obtain ⟨a, ha, rfl⟩ := List.mem_map.mp hl
      exact List.mem_range.mpr (cyc_lt rw' (List.mem_range.mp (List.mem_filter.mp ha).1) hx)
    · intro h
      obtain ⟨l, h1, h2, h3⟩ := has_lead rw' (List.mem_range.mp h)
      exact List.mem_flatten.mpr ⟨_, List.mem_map.mpr ⟨l, List.mem_filter.mpr ⟨List.mem_range.mpr h1, h2⟩, rfl⟩, h3⟩
end
end Sq
namespace L2
open PySem PySem.Spec PyProof.Rows
theorem best_lt (val : Nat → Int) : ∀ n : Nat, argBest (fun i j => decide (val i < val j)) n ≤ n ∧ ∀ j, j ≤ n → val (argBest (fun i j => decide (val i < val j)) n) ≤ val j
  | 0 => ⟨Nat.le_refl _, fun j hj => by have : j = 0 := by omega
                                        subst this; exact Int.le_refl _⟩
  | n + 1 => by
    obtain ⟨h1, h2⟩ := best_lt val n
    show (if decide (val (n + 1) < val (argBest (fun i j => decide (val i < val j)) n)) = true then n + 1 else argBest (fun i j => decide (val i < val j)) n) ≤ n + 1 ∧ _
    show _ ∧ ∀ j, j ≤ n + 1 → val (if decide (val (n + 1) < val (argBest (fun i j => decide (val i < val j)) n)) = true then n + 1 else argBest (fun i j => decide (val i < val j)) n) ≤ val j
    by_cases c : val (n + 1) < val (argBest (fun i j => decide (val i < val j)) n)
    · rw [if_pos (decide_eq_true c)]
      refine ⟨Nat.le_refl _, fun j hj => ?_⟩
      rcases Nat.lt_or_ge j (n + 1) with d | d
      · have := h2 j (by omega); omega
      · have : j = n + 1 := by omega
        subst this; exact Int.le_refl _
    · rw [if_neg (by rw [decide_eq_true_iff]; exact c)]
      refine ⟨by omega, fun j hj => ?_⟩
      rcases Nat.lt_or_ge j (n + 1) with d | d
      · exact h2 j (by omega)
      · have : j = n + 1 := by omega
        subst this; omega
section
variable {X : Cx}
theorem boot_min : bootBuiltins "min" = some (.builtin "min") := by decide +kernel
theorem call_minL (hc : X.calm = true) : CallR X (.builtin "min") (fun xs H Q => ∃ (p : Addr) (ns : List Int), xs = [.ref p] ∧ SqL X.K H p (ns.map V.int) ∧ ns ≠ [] ∧ ∀ m, m ∈ ns → (∀ y ∈ ns, m ≤ y) → Q (.int m) H) := by
  intro pins s σ H xs us Q I r h
  obtain ⟨p, ns, rfl, hq, hne, q⟩ := h
  obtain ⟨u, rfl, ru⟩ := vals1 r
  obtain rfl : u = Value.ref p := ru
  obtain ⟨its, rv, pl, hz⟩ := I.list hq
  have hL := pl.isList
  have hlt : p < s.heap.objs.size := by obtain ⟨o, ho, _⟩ := id hL; exact Heap.lt_size ho
  have hlen : its.length = ns.length := by rw [← rv.length]; simp
  have hpos : 0 < ns.length := List.length_pos_iff.mpr hne
  have hval : ∀ i v, its.toArray[i]? = some v → ∃ t, v = Value.int (ns.getD i 0) t := fun i v hP => by
    have hv : its[i]? = some v := by simpa using hP
    have hi : i < ns.length := by rw [← hlen]; exact (List.getElem?_eq_some_iff.mp hv).1
    have hb : (ns.map V.int)[i]? = some (.int ns[i]) := by simp [hi]
    obtain ⟨u, hu, t, rfl⟩ := rv.get hb
    rw [hv] at hu; cases hu
    exact ⟨t, by simp [List.getD_eq_getElem?_getD, hi]⟩
  refine call_min_walk (wpAny_pyIter_list hL ⟨s.heap.objs.size, _, _, its.toArray.size, _, _, _, rfl, Walks.list (A := X.A.in1) (I.ok.hd hc) s.heap.objs.size p (Nat.ne_of_lt hlt) its.toArray, ⟨⟨_, Heap.get?_push_size _ rfl, rfl, rfl⟩, hL.push _⟩, fun b hb => ?_, by rw [List.size_toArray]; omega, CmpOf.ints_lt (fun i => ns.getD i 0) hval, fun v h' tk hP hk => ?_⟩)
  · rw [Heap.size_push]
    simp at hb
    rcases hb with rfl | rfl
    · exact Nat.lt_succ_self _
    · exact Nat.lt_succ_of_lt hlt
  · obtain ⟨t, rfl⟩ := hval _ v hP
    obtain ⟨b1, b2⟩ := best_lt (fun i => ns.getD i 0) (its.toArray.size - 1)
    rw [List.size_toArray, hlen] at b1 b2 hP ⊢
    generalize argBest (fun i j => decide (ns.getD i 0 < ns.getD j 0)) (ns.length - 1) = k at b1 b2 hP ⊢
    have hk' : k < ns.length := by omega
    refine ⟨.int (ns.getD k 0), H, ?_, ⟨t, rfl⟩, q _ ?_ fun y hy => ?_⟩
    · refine I.kept fun b o e => hk b o (fun hb => ?_) (Heap.get?_push_of_some _ e)
      have := Heap.lt_size e
      simp at hb
      rw [hb] at this
      exact Nat.lt_irrefl _ this
    · simp [List.getD_eq_getElem?_getD, hk']
    · obtain ⟨j, hj, rfl⟩ := List.mem_iff_getElem.mp hy
      have := b2 j (by omega)
      simpa [List.getD_eq_getElem?_getD, hj] using this
end
end L2
namespace K1
open PySem L2 Sq
/-- lists at these addresses -/
def Lsts (H : Hp) : List Addr → List (List Nat) → Prop
  | [], [] => True
  | a :: as, M :: Ms => H a = some (.lst (nv M)) ∧ Lsts H as Ms
  | _, _ => False
theorem Lsts.same {H H' : Hp} (e : Same H H') : ∀ {as : List Addr} {Ms : List (List Nat)}, Lsts H as Ms → Lsts H' as Ms
  | [], [], _ => trivial
  | _ :: _, _ :: _, ⟨h1, h2⟩ => ⟨e _ _ h1, Lsts.same e h2⟩
  | [], _ :: _, h => h.elim
  | _ :: _, [], h => h.elim
theorem Lsts.len {H : Hp} : ∀ {as : List Addr} {Ms : List (List Nat)}, Lsts H as Ms → as.length = Ms.length
  | [], [], _ => rfl
  | _ :: as, _ :: Ms, ⟨_, h2⟩ => by simp [Lsts.len h2]
  | [], _ :: _, h => h.elim
  | _ :: _, [], h => h.elim
theorem Lsts.get {H : Hp} : ∀ {as : List Addr} {Ms : List (List Nat)}, Lsts H as Ms → ∀ {i : Nat} {a : Addr}, as[i]? = some a → ∃ M, Ms[i]? = some M ∧ H a = some (.lst (nv M))
  | [], [], _, i, a, h => by simp at h
  | b :: as, M :: Ms, ⟨h1, h2⟩, 0, a, h => by simp at h; subst h; exact ⟨M, rfl, h1⟩
  | b :: as, M :: Ms, ⟨h1, h2⟩, i + 1, a, h => by
    obtain ⟨M', e1, e2⟩ := Lsts.get h2 (i := i) (a := a) (by simpa using h)
    exact ⟨M', by simpa using e1, e2⟩
  | [], _ :: _, h, _, _, _ => h.elim
  | _ :: _, [], h, _, _, _ => h.elim
theorem Lsts.snoc {H : Hp} : ∀ {as : List Addr} {Ms : List (List Nat)} {a : Addr} {M : List Nat}, Lsts H as Ms → H a = some (.lst (nv M)) → Lsts H (as ++ [a]) (Ms ++ [M])
  | [], [], _, _, _, h => ⟨h, trivial⟩
  | _ :: _, _ :: _, _, _, ⟨h1, h2⟩, h => ⟨h1, Lsts.snoc h2 h⟩
  | [], _ :: _, _, _, h, _ => h.elim
  | _ :: _, [], _, _, h, _ => h.elim
theorem Lsts.updN {H : Hp} {d : Addr} {o o' : HO} (hd : H d = some o') : ∀ {as : List Addr} {Ms : List (List Nat)}, Lsts H as Ms → (∀ a ∈ as, a ≠ d) → Lsts (upd H d o) as Ms
  | [], [], _, _ => trivial
  | a :: _, _ :: _, ⟨h1, h2⟩, hn => ⟨by rw [upd_ne (hn a (by simp))]; exact h1, Lsts.updN hd h2 fun b hb => hn b (by simp [hb])⟩
  | [], _ :: _, h, _ => h.elim
  | _ :: _, [], h, _ => h.elim
/-- the refs of a list of lists -/
def rv (as : List Addr) : List V := as.map V.ref
theorem rv_snoc (as : List Addr) (a : Addr) : rv as ++ [.ref a] = rv (as ++ [a]) := by simp [rv]
theorem rv_len (as : List Addr) : (rv as).length = as.length := by simp [rv]
theorem rv_get {as : List Addr} {i : Nat} {a : Addr} (h : as[i]? = some a) : (rv as)[i]? = some (.ref a) := by simp [rv, h]
theorem nv_int (M : List Nat) : nv M = (M.map fun (x : Nat) => (x : Int)).map V.int := by simp [nv]
def spCycles (K : PySem.W.Frag) : Sp := fun vs H Q _ => ∃ (p : Addr) (n : Nat) (r : List Nat), vs = [.ref p] ∧ RowAt K H p r ∧ Row n r ∧ n ≤ 36 ∧
  ∀ (H' : Hp) (l : Addr) (as : List Addr), Same H H' → H l = none → H' l = some (.lst (rv as)) → (∀ a ∈ as, H a = none) → Lsts H' as (rounds n r) → Q (.ref l) H'
theorem range_get {n i : Nat} (hi : i < n) : (List.range n)[i]? = some i := List.getElem?_range hi
section
variable {P : Program} {w : World} {K : PySem.W.Frag} {mg : Str → Option Value} {base : Heap}
abbrev nCs : List Str := ["row", "found"]
theorem scCs : FnScope nCs ["row"] (defScope sCycles) := ⟨rfl, rfl, rfl, by decide +kernel, rfl, by decide +kernel, by decide +kernel⟩
theorem ndCs1 : (["first", "row"] : List Str).Nodup := by decide +kernel
theorem ndCs2 : (["cycle"] : List Str).Nodup := by decide +kernel
theorem ok_cycles {f fc : Addr} {fd fdc : FuncData} (T : Bi mg) (Tm : mg "min" = none) (F : Fn K mg "cycles" sCycles ["row"] f fd) (FC : Fn K mg "cycle_from" sCycleFrom ["row", "first"] fc fdc) (GC : FnOk P w K mg base CX0 1 fc fdc ["row", "first"] (spCycF K)) :
    FnOk P w K mg base CX0 2 f fd ["row"] (spCycles K) := by
  refine F.F.ok scCs (fun vs H Q E h => ?_) (fun cdv A outer s H vs Q E hr h => ?_)
  · obtain ⟨p, n, r, rfl, _⟩ := h; rfl
  · obtain ⟨p, n, r, rfl, hp, rr, hn, k⟩ := h
    refine ⟨_, pss_cons (ps_comp (j := 1) (N := nCs) (names := (defScope sCycles).names) (N' := ["first", "row"]) (k := 1) (pull := [0]) (te := tCall (spCycF K) [] E0 (tCons (tVar 1) (tCons (tVar 0) tNil))) rfl scCs.nd rfl rfl
          ⟨by rfl, by decide +kernel, by decide +kernel, by rfl, by decide +kernel, by decide +kernel⟩ rfl rfl (pi_range1 rfl T.range (pa_cons (pe_callB call_len_seq rfl T.len PySem.boot_len (pa_cons (pv 0) pa_nil)) pa_nil)) (fun _ _ _ _ _ _ => pg_name (i := 0) ndCs1 rfl (Or.inl rfl))
          (fun _ _ _ _ _ _ => pe_call GC hr rfl FC.m FC.F.kp FC.b .nil pass0 (pa_cons (pv 1) (pa_cons (pv 0) pa_nil))))
      (pss_one (ps_ret (pe_compIf (N := nCs) (names := (defScope sCycles).names) (N' := ["cycle"]) (k := 1) (pull := []) (tt := tTest (tOp rEq (tOp (rIxL K) (tVar 0) (tC (.int 0))) (tCB (fun xs H Q => ∃ (p : Addr) (ns : List Int), xs = [.ref p] ∧ SqL K H p (ns.map V.int) ∧ ns ≠ [] ∧ ∀ m, m ∈ ns → (∀ y ∈ ns, m ≤ y) → Q (.int m) H) (tCons (tVar 0) tNil)))) (te := tVar 0) rfl
          ⟨by rfl, by decide +kernel, by decide +kernel, by rfl, by decide +kernel, by decide +kernel⟩ rfl rfl (pi_list (pv 1)) (fun _ _ _ _ _ _ => pg_name (i := 0) ndCs2 rfl (Or.inl rfl))
          (fun _ _ _ _ _ _ => pt_cmpR op_eq (pe_ix ix_list (pv 0) pe_int (fun _ _ => rfl)) (pe_callB (call_minL rfl) rfl Tm boot_min (pa_cons (pv 0) pa_nil)) (nomark _))
          (fun _ _ _ _ _ _ => pv 0)))), ?_⟩
    refine ⟨_, rfl, p, _, rfl, hp, (n : Int), by rw [nv_len, rr.len], by omega, by omega, fun d hd => ?_⟩
    rw [Int.toNat_natCast]
    show ∃ W : Nat → Nat → St → Hp → Prop, (∃ m, W 0 m [none, some (.ref p)] (upd H d (.lst []))) ∧ _
    refine comp_ex (J := Itr 0 n) (Q := fun d H' => gName 1 (.ref d) [some (.ref p), none] H' _) n (fun i xs σ H3 => ∃ o as, σ = [o, some (.ref p)] ∧ Same H H3 ∧ xs = rv as ∧ (∀ a ∈ as, H a = none ∧ a ≠ d) ∧ Lsts H3 as ((List.range i).map (cyc n r))) ⟨_, [], rfl, same_upd (Same.refl _) hd, rfl, by simp, trivial⟩ ?_ ?_
    · rintro i xs σ H3 hi ⟨o, as, rfl, s3, rfl, fr, hL⟩ hd3
      refine ⟨hi, fun x H4 ⟨e1, e2⟩ => ?_⟩
      subst e1 e2
      rw [show (0 : Int) + (i : Int) = (i : Int) from by omega]
      refine ⟨_, rfl, _, rfl, p, n, r, i, rfl, hp.same s3, rr, hi, hn, fun H5 l M s5 f5 hl hM => ?_⟩
      have eM := hM.eq rr hi
      subst eM
      have hlen := hL.len
      rw [List.length_map, List.length_range] at hlen
      refine xpost hi (s5 _ _ hd3) (by rw [rv_len]; omega) ⟨_, as ++ [l], rfl, same_upd (s3.trans s5) hd, rv_snoc _ _, fun a ha => ?_, ?_⟩
      · rcases List.mem_append.mp ha with ha | ha
        · exact fr a ha
        · rw [List.mem_singleton.mp ha]
          exact ⟨s3.free f5, fun e => by rw [e, hd3] at f5; cases f5⟩
      · have nd : ∀ {a : Addr} {o : HO}, H5 a = some o → a ≠ d → (upd H5 d (.lst (rv as ++ [.ref l]))) a = some o := fun h hne => by rw [upd_ne hne]; exact h
        rw [List.range_succ, List.map_append]
        have hld : l ≠ d := fun e => by rw [e, hd3] at f5; cases f5
        refine Lsts.snoc ?_ (nd hl hld)
        have h5 := hL.same s5
        exact h5.updN (s5 _ _ hd3) fun a ha => (fr a ha).2
    · rintro xs σ H3 ⟨o, as, rfl, s3, rfl, fr, hL⟩ hd3
      refine ⟨Nat.le_refl _, ?_⟩
      have hlen := hL.len
      rw [List.length_map, List.length_range] at hlen
      refine ⟨_, rfl, d, rfl, ⟨_, SqL.of hd3⟩, fun e he => ?_⟩
      refine compIf_ex (σ0 := [none]) (Q := fun d H' => Q (.ref d) H') n (fun i xs σ H4 => ∃ o bs, σ = [o] ∧ Same H3 H4 ∧ xs = rv bs ∧ (∀ a ∈ bs, a ∈ as) ∧ Lsts H4 bs (((List.range i).filter (lead n r)).map (cyc n r))) ⟨_, [], rfl, same_upd (Same.refl _) he, rfl, by simp, trivial⟩ ?_ ?_
      · rintro i xs σ H4 hi ⟨o, bs, rfl, s4, rfl, sub, hB⟩ he4
        have ha : as[i]? = some (as[i]'(by omega)) := List.getElem?_eq_getElem _
        generalize as[i]'(by omega) = a at ha
        obtain ⟨M, hM, hA⟩ := hL.get ha
        rw [List.getElem?_map, range_get hi] at hM
        have eM : cyc n r i = M := Option.some.inj hM
        subst eM
        have hd4 := SqL.of (K := K) (s4 _ _ hd3)
        refine ⟨⟨_, _, hd4, rv_get ha⟩, fun y H5 ⟨e1, hy⟩ => ?_⟩
        subst e1
        have hy := hy _ hd4
        rw [rv_get ha] at hy
        cases hy
        have hA4 := s4 _ _ hA
        refine ⟨_, rfl, a, _, 0, _, rfl, rfl, SqL.of hA4, atI_nat (j := 0) (nv_get (cyc_head rr hi)), _, rfl, a, (cyc n r i).map fun (x : Nat) => (x : Int), rfl, by rw [← nv_int]; exact SqL.of hA4, ?_, fun m hm hle => ?_⟩
        · intro z
          have := cyc_head rr hi
          rw [List.map_eq_nil_iff.mp z] at this
          simp at this
        obtain ⟨x, hx, rfl⟩ := List.mem_map.mp hm
        refine ⟨rfl, _, rfl, ?_⟩
        have hblen := hB.len
        have hbl : bs.length ≤ 36 := by
          rw [hblen, List.length_map]
          have := List.length_filter_le (lead n r) (List.range i)
          rw [List.length_range] at this
          omega
        have hfs : (List.range (i + 1)).filter (lead n r) = (List.range i).filter (lead n r) ++ [i].filter (lead n r) := by rw [List.range_succ, List.filter_append]
        by_cases e : i = x
        · subst e
          rw [decide_eq_true rfl]
          refine iteT ?_
          have hld : lead n r i = true := lead_iff.mpr fun y hy => by
            have := hle _ (List.mem_map.mpr ⟨y, hy, rfl⟩); omega
          refine ⟨_, rfl, xpost hi he4 (by rw [rv_len]; omega) ⟨_, bs ++ [a], rfl, same_upd s4 he, rv_snoc _ _, fun b hb => ?_, ?_⟩⟩
          · rcases List.mem_append.mp hb with hb | hb
            · exact sub b hb
            · rw [List.mem_singleton.mp hb]; exact List.mem_of_getElem? ha
          · rw [hfs, List.filter_cons_of_pos hld, List.filter_nil, List.map_append]
            refine Lsts.snoc (hB.updN he4 ?_) ?_
            · intro b hb z
              obtain ⟨j, hj⟩ := List.getElem?_of_mem (sub b hb)
              obtain ⟨M, _, hM⟩ := hL.get hj
              rw [z, he] at hM; cases hM
            · rw [upd_ne (fun z => by rw [z, he] at hA; cases hA)]; exact hA4
        · rw [decide_eq_false (by intro z; have := V.int.inj z; omega)]
          refine iteF ?_
          have hnl : ¬ lead n r i = true := fun z => by
            have h1 := lead_iff.mp z x hx
            have h2 := hle _ (List.mem_map.mpr ⟨i, List.mem_of_getElem? (cyc_head rr hi), rfl⟩)
            omega
          refine xskip hi he4 ⟨_, bs, rfl, s4, rfl, sub, ?_⟩
          rw [hfs, List.filter_cons_of_neg hnl, List.filter_nil, List.append_nil]
          exact hB
      · rintro xs σ H4 ⟨o, bs, rfl, s4, rfl, sub, hB⟩ he4
        refine ⟨⟨_, SqL.of (s4 _ _ hd3), by rw [rv_len, hlen]; exact Nat.le_refl _⟩, ?_⟩
        exact k H4 e bs (s3.trans s4) (s3.free he) he4 (fun a ha => (fr a (sub a ha)).1) hB
end
end K1
namespace Sq
open PySem
def sg (k : Nat) : Nat := if k < 10 then 48 + k else 87 + k
def txt (l : List Nat) : Str := ⟨l.toArray⟩
theorem signs_eq : (Str.ofString "0123456789abcdefghijklmnopqrstuvwxyz") = txt ((List.range 36).map sg) := by decide +kernel
theorem txt_len (l : List Nat) : (txt l).length = l.length := by simp [txt, Str.length]
theorem txt_app (a b : List Nat) : txt a ++ txt b = txt (a ++ b) := Str.ext' (by rw [Str.cps_append]; simp [txt])
theorem txt_cps (l : List Nat) : (txt l).cps.toList = l := by simp [txt]
theorem txt_inj {a b : List Nat} (h : txt a = txt b) : a = b := by rw [← txt_cps a, h, txt_cps]
theorem txt_one (c : Nat) : (⟨#[c]⟩ : Str) = txt [c] := rfl
theorem txt_get (l : List Nat) (i : Nat) : (txt l).cps[i]? = l[i]? := by simp [txt]
theorem empty_eq : (Str.ofString "") = txt [] := by decide +kernel
theorem blank_eq : (Str.ofString " ") = txt [32] := by decide +kernel
theorem occ_sign : ∀ k ∈ List.range 36, Builtin.Str.occurrences (txt ((List.range 36).map sg)) (txt [sg k]) 0 36 1 = [k] := by decide +kernel
theorem signs_len : (txt ((List.range 36).map sg)).length = 36 := by decide +kernel
theorem signs_get {k : Nat} (h : k < 36) : (txt ((List.range 36).map sg)).cps[k]? = some (sg k) := by
  rw [txt_get, List.getElem?_map, List.getElem?_range h]; rfl
end Sq
namespace K1
open PySem L2 Sq
abbrev SG : Str := "0123456789abcdefghijklmnopqrstuvwxyz"
theorem SG_eq : SG = txt ((List.range 36).map sg) := signs_eq
theorem SG_len : SG.length = 36 := by rw [SG_eq]; exact signs_len
theorem SG_get {k : Nat} (h : k < 36) : atI SG.cps.toList (k : Int) = some (sg k) := by
  refine atI_nat ?_
  have := signs_get h
  rw [← SG_eq] at this
  rw [← this]; simp
end K1
namespace L2
open PySem PySem.Spec PyProof.Rows
section
variable {X : Cx}
end
end L2
namespace L2
open PySem PySem.Spec PyProof.Rows
section
variable {X : Cx}
end
end L2
namespace L2
open PySem PySem.Spec PyProof.Rows
section
variable {X : Cx} {k : Nat} {f C : Addr} {fd : FuncData} {ps : List Str} {sp : Sp} {dvs : List V} {ds : List Value} {E : XK} {x : Str} {p pos : Pos} {e : Expr} {es : List Expr} {t : TA}
end
end L2
namespace L2
open PySem PySem.Spec PyProof.Rows
section
variable {prog : Program} {w : World} {A : Around} {E : Value → Shared → Prop} {s : Shared}
end
end L2
namespace L2
open PySem PySem.Spec PyProof.Rows
section
variable {X : Cx} {elt tg a0 : Expr} {sc : Scope} {pos p0 pos0 : Pos} {ta : TA} {g : TG} {te : TE} {N : List Str} {names : List (Str × NameKind)} {N' : List Str} {k : Nat} {pull : List Nat}
end
end L2
namespace L2
open PySem PySem.Spec PyProof.Rows
section
variable {X : Cx}
theorem part_of {v : Value} {o : Option Int} (p : IsPart v o) : ∃ q : Option (Int × Tok), v = partValue q ∧ q.map (·.1) = o := by
  cases p with
  | none => exact ⟨none, rfl, rfl⟩
  | int i t => exact ⟨some (i, t), rfl, rfl⟩
end
namespace RF
end RF
end L2
namespace L2
open PySem PySem.Spec PyProof.Rows Sq
section
variable {X : Cx}
end
/-- texts joined without a sign between -/
theorem join_all (zs : List (List Nat)) : Txt.join (txt []) (zs.map txt) = txt zs.flatten := by
  show Builtin.Str.glued _ _ = _
  rw [StrLaws.glued_eq_join]
  induction zs with
  | nil => rfl
  | cons c l ih => cases l with
    | nil => show txt c = _; simp
    | cons d l =>
      show txt c ++ txt [] ++ Str.join (txt []) ((d :: l).map txt) = _
      rw [ih, txt_app, txt_app]; simp
end L2
namespace L2
open PySem PySem.Spec PyProof.Rows
section
variable {X : Cx} {x : Str} {p pos : Pos} {e : Expr} {te : TE} {σ : St} {r : List V → Hp → VK → Prop} {id : String}
end
end L2
namespace L2
open PySem PySem.Spec PyProof.Rows
section
variable {X : Cx}
theorem mt_findS : MtM X "str.find" rFindS := by
  intro pins s σ H x vs v us Q I rx rv h
  obtain ⟨z, y, rfl, rfl, q⟩ := h
  obtain ⟨t, rfl⟩ := rx
  obtain ⟨u, rfl, t', rfl⟩ := rv.one
  exact SC.find ⟨.int _, H, I.tok _, ⟨_, rfl⟩, q⟩
end
end L2
namespace L2
open PySem PySem.Spec PyProof.Rows
section
variable {X : Cx} {e : Expr} {lo hi : Option Expr} {st : Expr} {te : TE} {tl th ts : TO} {p2 pos : Pos}
/-- the signs of z[l:u:k] -/
def stepText (z : Str) (l u k : Option Int) : Str :=
  if (k.getD 1 == 1 && (Builtin.Str.strSliceIndices l u (k.getD 1) z.length).length == z.length) = true then z else ⟨((Builtin.Str.strSliceIndices l u (k.getD 1) z.length).filterMap (z.cps[·]?)).toArray⟩
def tSl3 (te : TE) (tl th ts : TO) : TE := fun σ H Q => te σ H fun x H1 => tl σ H1 fun l H2 => th σ H2 fun u H3 => ts σ H3 fun k H4 => ∃ z : Str, x = .str z ∧ (k.getD 1 == 0) = false ∧ (stepText z l u k).length ≤ sizeLine ∧ Q (.str (stepText z l u k)) H4
/-- t[lo:hi:st], t a text -/
theorem pe_slice3 (he : PE X e te) (hl : PO X lo tl) (hu : PO X hi th) (hs : PO X (some st) ts) : PE X (.Subscript e (.Slice lo hi (some st) p2) pos) (tSl3 te tl th ts) := by
  intro pins s σ H Q I h
  refine Subscript_ (thn (he pins s σ H _ I h) fun v s1 ⟨x, H1, I1, r1, q1⟩ => ?_)
  refine wpAny_Slice (thn (hl pins s1 σ H1 _ I1 q1) fun vl s2 ⟨l, H2, I2, pl, q2⟩ => thn (hu pins s2 σ H2 _ I2 q2) fun vu s3 ⟨u, H3, I3, pu, q3⟩ => thn (hs pins s3 σ H3 _ I3 q3) fun vk s4 ⟨k, H4, I4, pk, z, ex, h0, hz, q4⟩ => ?_)
  subst ex
  obtain ⟨t, rfl⟩ := r1
  obtain ⟨l', rfl, el⟩ := part_of pl
  obtain ⟨u', rfl, eu⟩ := part_of pu
  obtain ⟨k', rfl, ek⟩ := part_of pk
  subst el eu ek
  have I5 : Inv X pins σ H4 { s4 with heap := s4.heap.push { cls := .type "slice", data := .fields #[partValue l', partValue u', partValue k'] } } := I4.kept (t' := s4.toks) fun b ob q => Heap.get?_push_of_some _ q
  show wpAny (model X.prog X.w) X.A (subscriptTail e (.Slice lo hi (some st) p2) (.str z t) (.ref s4.heap.objs.size)) (EP X pins σ Q) X.xe { s4 with heap := s4.heap.push { cls := .type "slice", data := .fields #[partValue l', partValue u', partValue k'] } }
  refine tail_any (ops := [.ref s4.heap.objs.size, .str z t]) (typeIs_str _ _ _) F.slot_str_getitem.lookup (wpAny_getItem_str_slice (l := l') (u := u') (st := k') ⟨_, Heap.get?_push_size _ rfl, rfl, rfl⟩ h0 ?_) (by with_unfolding_all rfl)
  exact post_val_or_str ⟨hz, fun t' n => ⟨.str _, H4, I5.tok n, ⟨_, rfl⟩, q4⟩⟩
/-- return e, e read where the slots stand -/
theorem ps1_ret {σ : St} (he : PE1 X σ e te) : PS1 X σ (.Return (some e) pos) (tRet te) := by
  intro pins s H D I h
  exact wpAny_Return_some (thn (he pins s H _ I h) fun v s1 ⟨x, H1, I1, r1, q1⟩ => ⟨x, σ, H1, I1, r1, q1⟩)
/-- handlers that are never reached -/
def hNo : TH := fun _ _ _ _ _ => False
theorem ph_never {hs : List ExceptHandler} : PH X hs hNo := by
  intro pins s σ H D C d e hl h
  exact h.elim
end
end L2
namespace Sq
open PySem
end Sq
namespace Sq
open PySem L2
def btw (b : Nat) (xs : List Nat) : List Nat := b :: xs.flatMap fun x => [sg x, b]
theorem flat_len (b : Nat) : ∀ xs : List Nat, (xs.flatMap fun x => [sg x, b]).length = 2 * xs.length
  | [] => rfl
  | x :: xs => by rw [List.flatMap_cons, List.length_append, flat_len b xs]; show 2 + 2 * xs.length = 2 * (xs.length + 1); omega
theorem btw_len (b : Nat) (xs : List Nat) : (btw b xs).length = 1 + 2 * xs.length := by
  show (xs.flatMap _).length + 1 = _
  rw [flat_len]; omega
theorem flat_get (b : Nat) : ∀ (xs : List Nat) (k : Nat), (xs.flatMap fun x => [sg x, b])[2 * k]? = (xs[k]?).map sg
  | [], k => by simp
  | x :: xs, 0 => rfl
  | x :: xs, k + 1 => by
    rw [List.flatMap_cons, List.getElem?_append_right (by show 2 ≤ 2 * (k + 1); omega)]
    show (xs.flatMap _)[2 * (k + 1) - 2]? = _
    rw [show 2 * (k + 1) - 2 = 2 * k by omega, flat_get b xs k]; rfl
theorem btw_get (b : Nat) (xs : List Nat) (k : Nat) : (btw b xs)[1 + 2 * k]? = (xs[k]?).map sg := by
  unfold btw
  rw [show 1 + 2 * k = 2 * k + 1 by omega, List.getElem?_cons_succ]
  exact flat_get b xs k
theorem step_btw (b : Nat) (xs : List Nat) : stepText (txt (btw b xs)) (some 1) none (some 2) = txt (xs.map sg) := by
  have hl : (txt (btw b xs)).length = 1 + 2 * xs.length := by rw [txt_len, btw_len]
  have ix : Builtin.Str.strSliceIndices (some 1) none 2 (1 + 2 * xs.length) = (List.range xs.length).map fun k => 1 + 2 * k := by
    unfold Builtin.Str.strSliceIndices sliceRange
    have c1 : max (0 : Int) (min 1 ((1 + 2 * xs.length : Nat) : Int)) = 1 := by omega
    simp only [show ((2 : Int) > 0) = True from by simp, if_true, show ¬ ((1 : Int) < 0) by decide, if_false, c1]
    have cnt : (if (1 : Int) < ((1 + 2 * xs.length : Nat) : Int) then (((1 + 2 * xs.length : Nat) : Int) - 1 + 2 - 1) / 2 else 0).toNat = xs.length := by
      split <;> omega
    rw [cnt]
    refine List.map_congr_left fun k _ => ?_
    omega
  unfold stepText
  rw [hl]
  show (if ((2 : Int) == 1 && _) = true then _ else _) = _
  rw [if_neg (by simp)]
  show (⟨((Builtin.Str.strSliceIndices (some 1) none 2 (1 + 2 * xs.length)).filterMap _).toArray⟩ : Str) = _
  rw [ix]
  show txt _ = _
  congr 1
  rw [List.filterMap_map]
  have : ((fun x => (txt (btw b xs)).cps[x]?) ∘ fun k => 1 + 2 * k) = fun k => (xs[k]?).map sg := funext fun k => by
    show (txt (btw b xs)).cps[1 + 2 * k]? = _
    rw [txt_get]; exact btw_get b xs k
  rw [this]
  refine List.ext_getElem? fun i => ?_
  have : ∀ (n : Nat), n ≤ xs.length → (List.range n).filterMap (fun k => (xs[k]?).map sg) = (xs.take n).map sg := fun n => by
    induction n with
    | zero => intro _; rfl
    | succ n ih =>
      intro h
      rw [List.range_succ, List.filterMap_append, ih (by omega), List.take_add_one, List.map_append, List.getElem?_eq_getElem (by omega)]
      have e : (List.filterMap (fun k => Option.map sg xs[k]?) [n]) = [sg xs[n]] := by simp [List.getElem?_eq_getElem (show n < xs.length by omega)]
      rw [e]; rfl
  rw [this xs.length (Nat.le_refl _), List.take_length]
end Sq
namespace K1
open PySem L2 Sq
abbrev teB9 : TE := tOp (fun x y H Q => ∃ i j, x = .str i ∧ y = .str j ∧ i.length + j.length ≤ sizeLine ∧ Q (.str (i ++ j)) H) (tOp rIxS (tC (.str SG)) (tVar 0)) (tVar 1)
def spBt9 (K : PySem.W.Frag) : Sp := fun vs H Q _ => ∃ (b : Nat) (p : Addr) (xs : List Nat), vs = [.str (txt [b]), .ref p] ∧ H p = some (.lst (nv xs)) ∧ (∀ x ∈ xs, x < 36) ∧ xs.length ≤ 36 ∧ ∀ H' : Hp, Same H H' → Q (.str (txt (btw b xs))) H'
section
variable {P : Program} {w : World} {K : PySem.W.Frag} {mg : Str → Option Value} {base : Heap}
abbrev n_bt : List Str := ["border", "squares"]
theorem sc_bt : FnScope n_bt ["border", "squares"] (defScope sBetween) := ⟨rfl, rfl, rfl, by decide +kernel, rfl, by decide +kernel, by decide +kernel⟩
theorem nd_bt : (["square", "border"] : List Str).Nodup := by decide +kernel
theorem ok_bt {f : Addr} {fd : FuncData} {tS : Tok} (C_SIGNS : mg "SIGNS" = some (.str SG tS)) (F : Fn K mg "between" sBetween ["border", "squares"] f fd) : FnOk P w K mg base CX0 1 f fd ["border", "squares"] (spBt9 K) := by
  refine F.F.ok sc_bt (fun vs H Q E h => ?_) (fun cdv A outer s H vs Q E hr h => ?_)
  · obtain ⟨b, p, xs, rfl, _⟩ := h; rfl
  · obtain ⟨b, p, xs, rfl, hp, hlt, hn, k⟩ := h
    have big : 1000 ≤ sizeLine := by decide
    refine ⟨_, pss_one (ps_ret (pe_op op_add_str (pv 0) (pe_bm PySem.F.plainAttrs_str PySem.F.slot_str_join PySem.F.type_str_join mt_join pe_str (pa_cons (pe_comp (N := n_bt) (names := (defScope sBetween).names) (N' := ["square", "border"]) (k := 1) (pull := [0]) (te := teB9) rfl ⟨by rfl, by decide +kernel, by decide +kernel, by rfl, by decide +kernel, by decide +kernel⟩ rfl rfl (pi_list (pv 1)) (fun _ _ _ _ _ _ => pg_name (i := 0) nd_bt rfl (Or.inl rfl)) (fun _ _ _ _ _ _ => pe_op op_add_str (pe_ix ix_str (pe_glob (v := .str SG) (by rfl) C_SIGNS ⟨_, rfl⟩) (pv 0) (fun _ _ => rfl)) (pv 1))) pa_nil)))), ?_⟩
    refine ⟨_, rfl, rfl, ?_⟩
    dsimp only [tCons, tNil]
    refine ⟨_, rfl, p, rfl, ⟨_, SqL.of hp⟩, fun d hd => ?_⟩
    refine comp_by (Q := fun d H' => rJoin K (.str (Str.ofString "")) [.ref d] H' _) xs.length ((xs.map fun x => [sg x, b]).map fun z => V.str (txt z)) (by simp) (fun i σ H3 => ∃ o, σ = [o, some (.str (txt [b]))] ∧ Same H H3) ⟨_, rfl, same_upd (Same.refl _) hd⟩ ?_ ?_
    · rintro i σ H3 hi ⟨o, rfl, s3⟩ hd3
      have hp3 := SqL.of (K := K) (s3 _ _ hp)
      have hg := nv_get (List.getElem?_eq_getElem hi)
      refine ⟨⟨_, _, hp3, hg⟩, fun y H4 ⟨e, hy⟩ => ?_⟩
      subst e
      have hy := hy _ hp3
      rw [hg] at hy
      cases hy
      refine ⟨_, rfl, SG, _, sg xs[i], rfl, rfl, by rw [SG_len]; omega, SG_get (hlt _ (List.getElem_mem hi)), _, rfl, _, _, rfl, rfl, by show 1 + 1 ≤ _; omega, ?_⟩
      refine cpost hi (by omega) hd3 ?_ ⟨_, rfl, same_upd s3 hd⟩
      rw [txt_one, txt_app]
      simp [hi]
    · rintro σ H3 ⟨o, rfl, s3⟩ hd3
      refine ⟨⟨_, SqL.of (s3 _ _ hp), by rw [nv_len]; exact Nat.le_refl _⟩, ?_⟩
      have hfl : (xs.map fun x => [sg x, b]).flatten = xs.flatMap fun x => [sg x, b] := by rw [List.flatMap_def]
      refine ⟨_, d, (xs.map fun x => [sg x, b]).map txt, rfl, rfl, .inl (SqL.of (by rw [hd3]; simp [List.map_map, Function.comp_def])), ?_, ?_⟩
      · have e0 : (Str.ofString "").length = 0 := by decide
        rw [e0, Nat.mul_zero, Nat.add_zero]
        have e1 : ((((xs.map fun x => [sg x, b]).map txt).map (·.length)).sum) = 2 * xs.length := by
          clear hd3 hd hp hlt hn hfl k
          induction xs with
          | nil => rfl
          | cons a xs ih => rw [List.map_cons, List.map_cons, List.map_cons, List.sum_cons, ih, txt_len]; show 2 + 2 * xs.length = 2 * (xs.length + 1); omega
        rw [e1]; omega
      · rw [empty_eq, join_all, hfl]
        refine ⟨_, _, rfl, rfl, by rw [txt_len, txt_len, flat_len]; show 1 + _ ≤ _; omega, ?_⟩
        rw [txt_app]
        exact k H3 s3
end
end K1
namespace K1
open PySem L2 Sq
section
variable {P : Program} {w : World} {K : PySem.W.Frag} {mg : Str → Option Value} {base : Heap}
end
/-- [g(x) for x in xs], xs a list of numbers in the slot j -/
theorem compLstN {K : PySem.W.Frag} {Hc : Hp} {p : Addr} {r : List Nat} {j : Nat} {te : TE} {pull : List Nat} {Q : VK} {σ : St} {rest : St} (g : Nat → Nat) (hj : σ[j]? = some (some (.ref p))) (hp : Hc p = some (.lst (nv r))) (hb : bst 1 pull σ = none :: rest)
    (hte : ∀ (x : Nat) (H : Hp) (R : VK), x ∈ r → Same Hc H → R (.int (g x : Int)) H → te (some (.int (x : Int)) :: rest) H R) (hn : r.length ≤ 1000)
    (k : ∀ (H' : Hp) (d : Addr), Same Hc H' → Hc d = none → H' d = some (.lst (nv (r.map g))) → Q (.ref d) H') :
    tComp (iList K (tVar j)) 1 pull (gName 0) te σ Hc Q := by
  refine ⟨_, hj, p, rfl, ⟨_, SqL.of hp⟩, fun d hd => ?_⟩
  rw [hb]
  refine comp_by (Q := fun d H' => Q (.ref d) H') r.length (nv (r.map g)) (by rw [nv_len]; simp) (fun i σ H3 => (∃ o, σ = o :: rest) ∧ Same Hc H3) ⟨⟨_, rfl⟩, same_upd (Same.refl _) hd⟩ ?_ ?_
  · rintro i σ H3 hi ⟨⟨o, rfl⟩, s3⟩ hd3
    have hp3 := SqL.of (K := K) (s3 _ _ hp)
    have hg := nv_get (List.getElem?_eq_getElem hi)
    refine ⟨⟨_, _, hp3, hg⟩, fun y H4 ⟨e, hy⟩ => ?_⟩
    subst e
    have hy := hy _ hp3
    rw [hg] at hy
    cases hy
    refine hte _ _ _ (List.getElem_mem hi) s3 ?_
    exact cpost hi hn hd3 (nv_get (by simp [hi])) ⟨⟨_, rfl⟩, same_upd s3 hd⟩
  · rintro σ H3 ⟨⟨o, rfl⟩, s3⟩ hd3
    exact ⟨⟨_, SqL.of (s3 _ _ hp), by rw [nv_len]; exact Nat.le_refl _⟩, k H3 d s3 hd hd3⟩
section
end
end K1
namespace K1
open PySem L2 Sq
def drM (u : List Nat) (Ms : List (List Nat)) : List (List Nat) := Ms.flatMap fun M => [btw 32 (M.map (nx u)), btw 124 M]
theorem bar_eq : (Str.ofString "|") = txt [124] := by decide +kernel
def tvs (zs : List (List Nat)) : List V := zs.map fun z => V.str (txt z)
theorem lsts_len {H : Hp} : ∀ {as : List Addr} {Ms : List (List Nat)}, Lsts H as Ms → as.length = Ms.length
  | [], [], _ => rfl
  | [], _ :: _, h => h.elim
  | _ :: _, [], h => h.elim
  | _ :: as, _ :: Ms, h => by rw [List.length_cons, List.length_cons, lsts_len h.2]
theorem lsts_at {H : Hp} : ∀ {as : List Addr} {Ms : List (List Nat)} {i : Nat} {b : Addr}, Lsts H as Ms → as[i]? = some b → ∃ M, Ms[i]? = some M ∧ H b = some (.lst (nv M))
  | [], [], _, _, _, h => by simp at h
  | [], _ :: _, _, _, h, _ => h.elim
  | _ :: _, [], _, _, h, _ => h.elim
  | a :: as, M :: Ms, 0, b, h, e => by cases e; exact ⟨M, rfl, h.1⟩
  | a :: as, M :: Ms, i + 1, b, h, e => by
    rw [List.getElem?_cons_succ] at e
    obtain ⟨M', h1, h2⟩ := lsts_at (i := i) h.2 e
    exact ⟨M', by rw [List.getElem?_cons_succ]; exact h1, h2⟩
def spDrw (K : PySem.W.Frag) : Sp := fun vs H Q _ => ∃ (a : Addr) (n : Nat) (r u : List Nat), vs = [.ref a] ∧ ShAt H a r u ∧ Row n r ∧ Row n u ∧ n ≤ 36 ∧ ∀ (H' : Hp) (l : Addr), Same H H' → H l = none → H' l = some (.lst (tvs (drM u (rounds n r)))) → Q (.ref l) H'
section
variable {P : Program} {w : World} {K : PySem.W.Frag} {mg : Str → Option Value} {base : Heap}
abbrev n_drw : List Str := ["sheet", "texts", "row"]
theorem sc_drw : FnScope n_drw ["sheet"] (defScope sDrawn) := ⟨rfl, rfl, rfl, by decide +kernel, rfl, by decide +kernel, by decide +kernel⟩
theorem nd_drw : (["square", "sheet"] : List Str).Nodup := by decide +kernel
set_option maxHeartbeats 2000000 in
theorem ok_drw {f fy fb : Addr} {fd dy db : FuncData} (F : Fn K mg "drawn" sDrawn ["sheet"] f fd) (FY : Fn K mg "cycles" sCycles ["row"] fy dy) (GY : FnOk P w K mg base CX0 2 fy dy ["row"] (spCycles K))
    (FB : Fn K mg "between" sBetween ["border", "squares"] fb db) (GB : FnOk P w K mg base CX0 1 fb db ["border", "squares"] (spBt9 K)) : FnOk P w K mg base CX0 3 f fd ["sheet"] (spDrw K) := by
  refine F.F.ok sc_drw (fun vs H Q E h => ?_) (fun cdv A outer s H vs Q E hr h => ?_)
  · obtain ⟨a, n, r, u, rfl, _⟩ := h; rfl
  · obtain ⟨a, n, r, u, rfl, hsh, rr, ru, hn, k⟩ := h
    have hr1 : Room 1 _ := hr.mono (by decide)
    have hr2 : Room 2 _ := hr.mono (by decide)
    refine ⟨_, (pss_cons (ps_set (i := 1) sc_drw.nd rfl (Or.inl rfl) (pe_lst pa_nil))
      (pss_cons (ps_for PassesOwn.never rfl (pi_list (pe_call GY hr2 rfl FY.m FY.F.kp FY.b .nil pass0 (pa_cons (pe_ix ix_tup (pv 0) pe_int (fun _ _ => rfl)) pa_nil))) (pg_name (i := 2) sc_drw.nd rfl (Or.inl rfl)) (pss_cons (ps_expr (pe_bm PySem.F.plainAttrs_list PySem.F.slot_list_append PySem.F.type_list_append mt_append (pv 1) (pa_cons (pe_call GB hr1 rfl FB.m FB.F.kp FB.b .nil pass0 (pa_cons pe_str (pa_cons (pe_comp (N := n_drw) (names := (defScope sDrawn).names) (N' := ["square", "sheet"]) (k := 1) (pull := [0]) (te := tOp (rIxT K) (tOp (rIxT K) (tVar 1) (tC (.int 1))) (tVar 0)) rfl ⟨by rfl, by decide +kernel, by decide +kernel, by rfl, by decide +kernel, by decide +kernel⟩ rfl rfl (pi_list (pv 2)) (fun _ _ _ _ _ _ => pg_name (i := 0) nd_drw rfl (Or.inl rfl)) (fun _ _ _ _ _ _ => pe_ix ix_tup (pe_ix ix_tup (pv 1) pe_int (fun _ _ => rfl)) (pv 0) (fun _ _ => rfl))) pa_nil))) pa_nil)))
      (pss_one (ps_expr (pe_bm PySem.F.plainAttrs_list PySem.F.slot_list_append PySem.F.type_list_append mt_append (pv 1) (pa_cons (pe_call GB hr1 rfl FB.m FB.F.kp FB.b .nil pass0 (pa_cons pe_str (pa_cons (pv 2) pa_nil))) pa_nil))))))
      (pss_one (ps_ret (pv 1))))), ?_⟩
    obtain ⟨p, q, h1, h2, h3⟩ := id hsh
    refine ⟨Nat.zero_le _, fun l hl => ?_⟩
    have s1 : Same H (upd H l (.lst [])) := same_upd (Same.refl H) hl
    have e1 : (upd H l (.lst [])) l = some (.lst []) := upd_same
    revert s1 e1
    generalize (upd H l (.lst [])) = H1
    intro s1 e1
    dsimp only [tSeq, tAsg, gName]
    refine ⟨_, rfl, a, _, 0, _, rfl, rfl, SqT.of (s1 _ _ h1), atI_nat (j := 0) rfl, p, n, r, rfl, .inr (SqT.of (s1 _ _ h2)), rr, hn, fun H2 lc as s2 hlc0 hlc has hL => ?_⟩
    have e2 := s2 _ _ e1
    have nlc : lc ≠ l := fun e => by rw [e, e1] at hlc0; cases hlc0
    have nas : ∀ c ∈ as, c ≠ l := fun c hc e => by have := has c hc; rw [e, e1] at this; cases this
    have nsh : ∀ {c : Addr} {o : HO}, H c = some o → c ≠ l := fun {c o} hc e => by rw [e, hl] at hc; cases hc
    have hrl : ∀ M ∈ rounds n r, (∀ x ∈ M, x < n) ∧ M.length ≤ 36 := fun M hM => by
      obtain ⟨x, hx, rfl⟩ := List.mem_map.mp hM
      have hxn := List.mem_range.mp (List.mem_filter.mp hx).1
      have c := cyc_is rr hxn
      refine ⟨fun y hy => cyc_lt rr hxn hy, ?_⟩
      have := sub_len (cyc n r x) (List.range n) (c.nd rr hxn) fun y hy => List.mem_range.mpr (cyc_lt rr hxn hy)
      rw [List.length_range] at this; omega
    have hM36 : (rounds n r).length ≤ 36 := by
      unfold rounds
      rw [List.length_map]
      have := List.length_filter_le (lead n r) (List.range n)
      rw [List.length_range] at this; omega
    revert hL hrl hM36 k
    generalize rounds n r = Ms
    intro k hL hrl hM36
    have hlM := lsts_len hL
    refine ⟨lc, rfl, ⟨_, SqL.of hlc⟩, ?_⟩
    refine for_list (K := K) (a := lc) (D := { nx := tRet (tVar 1) { nx := fun _ H' => Q .non H', rt := Q }, rt := Q }) (xs := rv as) (fun i σ H3 => ∃ o2, σ = [some (.ref a), some (.ref l), o2] ∧ But l H2 H3 ∧ H3 l = some (.lst (tvs (drM u (Ms.take i))))) ⟨_, rfl, fun c o _ h => h, e2⟩ (fun i σ H3 _ ⟨_, _, bt, _⟩ => SqL.of (bt _ _ nlc hlc)) ?_ ?_
    · rintro i v σ H3 hv ⟨o2, rfl, bt, hl3⟩
      unfold rv at hv
      rw [List.getElem?_map] at hv
      obtain ⟨b, hb, rfl⟩ := Option.map_eq_some_iff.mp hv
      obtain ⟨M, hM, hb2⟩ := lsts_at hL hb
      have nb := nas b (List.mem_of_getElem? hb)
      obtain ⟨hlt, hlen⟩ := hrl M (List.mem_of_getElem? hM)
      have hi : i < Ms.length := (List.getElem?_eq_some_iff.mp hM).1
      have sn : drM u (Ms.take (i + 1)) = drM u (Ms.take i) ++ [btw 32 (M.map (nx u))] ++ [btw 124 M] := by
        unfold drM
        rw [List.take_add_one, hM, List.flatMap_append]
        simp
      have ll : (drM u (Ms.take i)).length ≤ 72 := by
        have : ∀ Ns : List (List Nat), (drM u Ns).length = 2 * Ns.length := fun Ns => by
          unfold drM
          induction Ns with
          | nil => rfl
          | cons N Ns ih => rw [List.flatMap_cons, List.length_append, ih]; show 2 + 2 * Ns.length = 2 * (Ns.length + 1); omega
        rw [this, List.length_take]; omega
      rw [sn]
      revert hl3 ll
      generalize drM u (Ms.take i) = zs
      intro hl3 ll
      have kp : ∀ {c : Addr} {o : HO}, H c = some o → H3 c = some o := fun {c o} hc => bt _ _ (nsh hc) (s2 _ _ (s1 _ _ hc))
      have hb3 := bt _ _ nb hb2
      refine ⟨_, rfl, .inl ⟨rfl, _, SqL.of hl3⟩, ?_⟩
      dsimp only [tCons, tNil, tCall, tC]
      refine compLstN (r := M) (fun x => nx u x) rfl hb3 rfl (fun z Hz R hz sz hR => ⟨_, rfl, a, _, 1, _, rfl, rfl, SqT.of (sz _ _ (kp h1)), atI_nat (j := 1) rfl, _, rfl, q, _, z, _, rfl, rfl, SqT.of (sz _ _ (kp h3)), atI_nat (nv_get (ru.get (hlt z hz))), hR⟩) (by omega) fun H4 d s4 hd0 hd => ?_
      refine ⟨32, d, M.map (nx u), by rw [← blank_eq]; rfl, hd, fun x hx => ?_, by rw [List.length_map]; exact hlen, fun H5 s5 => ?_⟩
      · obtain ⟨y, hy, rfl⟩ := List.mem_map.mp hx
        exact Nat.lt_of_lt_of_le (ru.nlt (hlt y hy)) hn
      have s45 := s4.trans s5
      have tl : ∀ zs : List (List Nat), (tvs zs).length = zs.length := fun zs => by simp [tvs]
      refine ⟨l, _, _, rfl, rfl, s45 _ _ hl3, by rw [tl]; exact small1000 (by omega), ?_⟩
      have l6 : (upd H5 l (.lst (tvs zs ++ [.str (txt (btw 32 (M.map (nx u))))]))) l = some (.lst (tvs (zs ++ [btw 32 (M.map (nx u))]))) := by rw [upd_same]; simp [tvs]
      have b6 : But l H3 (upd H5 l (.lst (tvs zs ++ [.str (txt (btw 32 (M.map (nx u))))]))) := fun c o hc h => by rw [upd_ne hc]; exact s45 _ _ h
      revert l6 b6
      generalize (upd H5 l (.lst (tvs zs ++ [.str (txt (btw 32 (M.map (nx u))))]))) = H6
      intro l6 b6
      refine ⟨_, rfl, .inl ⟨rfl, _, SqL.of l6⟩, _, rfl, 124, b, M, by rw [← bar_eq]; rfl, b6 _ _ nb hb3, fun x hx => Nat.lt_of_lt_of_le (hlt x hx) hn, hlen, fun H7 s7 => ?_⟩
      refine ⟨l, _, _, rfl, rfl, s7 _ _ l6, by rw [tl, List.length_append]; exact small1000 (by show _ + 1 ≤ 1000; omega), ?_⟩
      refine ⟨_, rfl, fun c o hc h => ?_, ?_⟩
      · rw [upd_ne hc]; exact s7 _ _ (b6 _ _ hc (bt _ _ hc h))
      · rw [upd_same]; simp [tvs]
    · rintro σ H3 ⟨o2, rfl, bt, hl3⟩
      rw [rv_len, hlM, List.take_length] at hl3
      refine ⟨_, rfl, k H3 l (fun c o hc => bt _ _ (nsh hc) (s2 _ _ (s1 _ _ hc))) hl hl3⟩
end
end K1
namespace K1
open PySem L2 Sq
def dkv (F : Nat → Nat) (P : List Nat) : List (Key × V) := P.map fun (x : Nat) => ((Sum.inl (x : Int) : Key), V.int (F x : Int))
theorem dkv_val (F : Nat → Nat) (k : Nat) : ∀ P : List Nat, valV (dkv F P) (Sum.inl (k : Int) : Key) = if k ∈ P then some (.int (F k : Int)) else none
  | [] => rfl
  | x :: P => by
    show valV (((Sum.inl (x : Int) : Key), V.int (F x : Int)) :: dkv F P) _ = _
    by_cases e : x = k
    · subst e; rw [valV_pos rfl, if_pos (by simp)]
    · rw [valV_neg (fun z => e (by have : (x : Int) = (k : Int) := Sum.inl.inj z; omega)), dkv_val F k P]
      by_cases m : k ∈ P
      · rw [if_pos m, if_pos (by simp [m])]
      · rw [if_neg m, if_neg (by simp [m]; exact fun z => e z.symm)]
theorem dkv_put {F : Nat → Nat} {P : List Nat} {x : Nat} (h : x ∉ P) : putK (dkv F P) (Sum.inl (x : Int) : Key) (V.int (F x : Int)) = dkv F (P ++ [x]) := by
  rw [putK_new _ (by rw [dkv_val, if_neg h])]
  unfold dkv; rw [List.map_append]; rfl
theorem rounds_of {n : Nat} {r M : List Nat} (rr : Row n r) (h : M ∈ rounds n r) : 1 ≤ M.length ∧ M.length ≤ n ∧ (∀ x ∈ M, x < n) ∧ ∀ {i y : Nat}, M[i]? = some y → M[(i + 1) % M.length]? = some (nx r y) := by
  obtain ⟨x, hx, rfl⟩ := List.mem_map.mp h
  have hxn := List.mem_range.mp (List.mem_filter.mp hx).1
  have c := cyc_is rr hxn
  have := sub_len (cyc n r x) (List.range n) (c.nd rr hxn) fun y hy => List.mem_range.mpr (cyc_lt rr hxn hy)
  rw [List.length_range] at this
  exact ⟨c.pos, this, fun y hy => cyc_lt rr hxn hy, fun hi => c.next hi⟩
def spTo9 (K : PySem.W.Frag) : Sp := fun vs H Q _ => ∃ (pl : Addr) (ts : List Addr) (n : Nat) (r u : List Nat), vs = [.ref pl] ∧ H pl = some (.lst (ts.map V.ref)) ∧ ts.length = (rounds n r).length ∧ (∀ (i : Nat) (t : Addr) (M : List Nat), ts[i]? = some t → (rounds n r)[i]? = some M → ∃ pa pb, H t = some (.tup [.ref pa, .ref pb]) ∧ H pa = some (.lst (nv (M.map (nx u)))) ∧ H pb = some (.lst (nv M))) ∧ Sheet n r u ∧
  ∀ (H' : Hp) (a : Addr), Same H H' → ShAt H' a r u → Q (.ref a) H'
section
variable {P : Program} {w : World} {K : PySem.W.Frag} {mg : Str → Option Value} {base : Heap}
abbrev n_to9 : List Str := ["pairs", "right", "up", "pair", "row", "k", "square", "above"]
theorem sc_to9 : FnScope n_to9 ["pairs"] (defScope sSheetTold) := ⟨rfl, rfl, rfl, by decide +kernel, rfl, by decide +kernel, by decide +kernel⟩
set_option maxHeartbeats 4000000 in
theorem ok_to9 {f : Addr} {fd : FuncData} {fo fi : Addr} {dfo dfi : FuncData} (T : Bi mg) (T_zip : mg "zip" = none) (FO : Fn K mg "sheet_of" sSheetOf ["right", "up"] fo dfo) (GO : FnOk P w K mg base CX0 5 fo dfo ["right", "up"] (spSheetOf K)) (FI : Fn K mg "in_order" sInOrder ["told"] fi dfi) (GI : FnOk P w K mg base CX0 1 fi dfi ["told"] spIo9) (F : Fn K mg "sheet_told" sSheetTold ["pairs"] f fd) : FnOk P w K mg base CX0 6 f fd ["pairs"] (spTo9 K) := by
  refine F.F.ok sc_to9 (fun vs H Q E h => ?_) (fun cdv A outer s H vs Q E hr h => ?_)
  · obtain ⟨pl, ts, n, r, u, rfl, _⟩ := h; rfl
  · obtain ⟨pl, ts, n, r, u, rfl, hpl, hts, hT, hS, k⟩ := h
    have hu := hu_of hr
    have hr5 : Room 5 _ := hr.mono (by decide)
    have hr1 : Room 1 _ := hr.mono (by decide)
    refine ⟨_, (pss_cons (ps_set (i := 1) sc_to9.nd rfl (Or.inl rfl) pe_dnewK)
      (pss_cons (ps_set (i := 2) sc_to9.nd rfl (Or.inl rfl) pe_dnewK)
      (pss_cons (ps_for PassesOwn.never rfl (pi_list (pv 0)) (pg_name (i := 3) sc_to9.nd rfl (Or.inl rfl)) (pss_cons (ps_set (i := 4) sc_to9.nd rfl (Or.inl rfl) (pe_ix ix_tup (pv 3) pe_int (fun _ _ => rfl)))
      (pss_cons (ps_for PassesOwn.never rfl (pi_enumL rfl T.enum (pa_cons (pv 4) pa_nil)) (pg_tupE rfl (pgs_cons (pg_name (i := 5) sc_to9.nd rfl (Or.inl rfl)) (pgs_cons (pg_name (i := 6) sc_to9.nd rfl (Or.inl rfl)) pgs_nil))) (pss_one (ps_dput hu (pv 1) (pv 6) (pe_ix ix_list (pv 4) (pe_op op_mod (pe_op op_add (pv 5) pe_int) (pe_callB call_len_seq rfl T.len PySem.boot_len (pa_cons (pv 4) pa_nil))) (fun _ _ => rfl)) rfl)))
      (pss_one (ps_for PassesOwn.never rfl (pi_zip rfl T_zip (pa_cons (pv 4) (pa_cons (pe_ix ix_tup (pv 3) pe_int (fun _ _ => rfl)) pa_nil))) (pg_tupE rfl (pgs_cons (pg_name (i := 6) sc_to9.nd rfl (Or.inl rfl)) (pgs_cons (pg_name (i := 7) sc_to9.nd rfl (Or.inl rfl)) pgs_nil))) (pss_one (ps_dput hu (pv 2) (pv 6) (pv 7) rfl)))))))
      (pss_one (ps_try (tb := fun _ => tRet (tCall (spSheetOf K) [] E0 (tCons (tCall spIo9 [] E0 (tCons (tVar 1) tNil)) (tCons (tCall spIo9 [] E0 (tCons (tVar 2) tNil)) tNil)))) rfl rfl (fun E' σ' pn W hx => ps1_ret (pe1_call GO hr5 rfl FO.m FO.F.kp FO.b .nil (fun _ _ _ _ _ _ h => h.elim) (pa_cons (pe_call GI hr1 rfl FI.m FI.F.kp FI.b .nil pass0 (pa_cons (pv 1) pa_nil)) (pa_cons (pe_call GI hr1 rfl FI.m FI.F.kp FI.b .nil pass0 (pa_cons (pv 2) pa_nil)) pa_nil)))) ph_never))))), ?_⟩
    have rr := hS.row
    have ru := hS.col
    have hn := hS.most
    refine fun d1 hd1 => ?_
    refine fun d2 hd2 => ?_
    have n12 : d2 ≠ d1 := by rintro rfl; rw [upd_same] at hd2; cases hd2
    have d20 : H d2 = none := by rw [upd_ne n12] at hd2; exact hd2
    have s2 : Same H (upd (upd H d1 (.dK [])) d2 (.dK [])) := same_upd (same_upd (Same.refl H) hd1) d20
    have e1 : (upd (upd H d1 (.dK [])) d2 (.dK [])) d1 = some (.dK (dkv (nx r) [])) := by rw [upd_ne n12.symm, upd_same]; rfl
    have e2 : (upd (upd H d1 (.dK [])) d2 (.dK [])) d2 = some (.dK (dkv (nx u) [])) := upd_same
    revert s2 e1 e2
    generalize (upd (upd H d1 (.dK [])) d2 (.dK [])) = H2
    intro s2 e1 e2
    have nd : (rounds n r).flatten.Nodup := (rounds_perm rr).nodup_iff.mpr List.nodup_range
    have hro := fun M (hM : M ∈ rounds n r) => rounds_of rr hM
    have hper := rounds_perm rr
    revert hts hT nd hro hper
    generalize rounds n r = Ms
    intro hts hT nd hro hper
    have fl : (Ms.flatten).length = n := by rw [hper.length_eq, List.length_range]
    have pre : ∀ j, ((Ms.take j).flatten).length ≤ 36 := fun j => by
      have := (List.take_append_drop j Ms)
      have := congrArg (fun L => L.flatten.length) this
      rw [List.flatten_append, List.length_append, fl] at this
      omega
    have ln : ∀ (F : Nat → Nat) (P : List Nat), (dkv F P).length = P.length := fun F P => by simp [dkv]
    refine ⟨_, rfl, pl, rfl, ⟨_, SqL.of (s2 _ _ hpl)⟩, for_list (xs := ts.map V.ref) (fun i σ H3 => ∃ o3 o4 o5 o6 o7, σ = [some (.ref pl), some (.ref d1), some (.ref d2), o3, o4, o5, o6, o7] ∧ Same H H3 ∧ H3 d1 = some (.dK (dkv (nx r) (Ms.take i).flatten)) ∧ H3 d2 = some (.dK (dkv (nx u) (Ms.take i).flatten))) ⟨_, _, _, _, _, rfl, s2, e1, e2⟩ (fun i σ H3 _ ⟨_, _, _, _, _, _, s3, _⟩ => SqL.of (s3 _ _ hpl)) ?_ ?_⟩
    · rintro i v σ H3 hv ⟨o3, o4, o5, o6, o7, rfl, s3, h31, h32⟩
      rw [List.getElem?_map] at hv
      obtain ⟨t, htt, rfl⟩ := Option.map_eq_some_iff.mp hv
      have hi : i < Ms.length := by rw [← hts]; exact (List.getElem?_eq_some_iff.mp htt).1
      obtain ⟨M, hM⟩ : ∃ M, Ms[i]? = some M := ⟨_, List.getElem?_eq_getElem hi⟩
      obtain ⟨pa, pb, ht, hpa, hpb⟩ := hT i t M htt hM
      obtain ⟨m1, m2, m3, m4⟩ := hro M (List.mem_of_getElem? hM)
      have tk : (Ms.take (i + 1)).flatten = (Ms.take i).flatten ++ M := by rw [List.take_add_one, hM, List.flatten_append]; simp
      have hPM : ((Ms.take i).flatten ++ M).Nodup := by
        rw [← tk]
        have := List.take_append_drop (i + 1) Ms
        rw [← this, List.flatten_append] at nd
        exact (List.nodup_append.mp nd).1
      have pl1 := pre (i + 1)
      rw [tk] at pl1 ⊢
      revert h31 h32 hPM pl1
      generalize (Ms.take i).flatten = P
      intro h31 h32 hPM pl1
      have fresh : ∀ {k y : Nat}, M[k]? = some y → y ∉ P ++ M.take k := fun {k y} hy hm => by
        have hk := (List.getElem?_eq_some_iff.mp hy).1
        have e : P ++ M = (P ++ M.take k) ++ M.drop k := by rw [List.append_assoc, List.take_append_drop]
        rw [e] at hPM
        refine (List.nodup_append.mp hPM).2.2 y hm y ?_ rfl
        rw [List.drop_eq_getElem_cons hk]
        simp [(List.getElem?_eq_some_iff.mp hy).2]
      have tk1 : ∀ {k y : Nat}, M[k]? = some y → P ++ M.take (k + 1) = (P ++ M.take k) ++ [y] := fun {k y} hy => by rw [List.take_add_one, hy, List.append_assoc]; rfl
      have lk : ∀ k, (P ++ M.take k).length ≤ 36 := fun k => by rw [List.length_append, List.length_take]; rw [List.length_append] at pl1; omega
      refine ⟨_, rfl, t, _, 1, _, rfl, rfl, SqT.of (s3 _ _ ht), atI_nat (j := 1) rfl, ?_⟩
      refine ⟨_, rfl, pb, rfl, ⟨_, SqL.of (s3 _ _ hpb)⟩, for_en (xs := nv M) (fun k σ H4 => ∃ o5 o6, σ = [some (.ref pl), some (.ref d1), some (.ref d2), some (.ref t), some (.ref pb), o5, o6, o7] ∧ Same H H4 ∧ H4 d1 = some (.dK (dkv (nx r) (P ++ M.take k))) ∧ H4 d2 = some (.dK (dkv (nx u) P))) ⟨_, _, rfl, s3, by rw [List.take_zero, List.append_nil]; exact h31, h32⟩ (fun k σ H4 _ ⟨_, _, _, s4, _⟩ => SqL.of (s4 _ _ hpb)) ?_ ?_⟩
      · rintro k x σ H4 T' hx hT' ⟨o5, o6, rfl, s4, h41, h42⟩
        obtain ⟨y, hy, rfl⟩ := nv_get' hx
        have hk := (List.getElem?_eq_some_iff.mp hy).1
        have s5 := same_upd (o := tupE T' [.int (k : Int), .int (y : Int)]) s4 (s4.free hT')
        have h51 : (upd H4 T' (tupE T' [.int (k : Int), .int (y : Int)])) d1 = some (.dK (dkv (nx r) (P ++ M.take k))) := by rw [upd_ne (ne_of_none h41 hT')]; exact h41
        have h52 : (upd H4 T' (tupE T' [.int (k : Int), .int (y : Int)])) d2 = some (.dK (dkv (nx u) P)) := by rw [upd_ne (ne_of_none h42 hT')]; exact h42
        refine ⟨T', _, rfl, upd_same, rfl, _, _, rfl, _, _, rfl, rfl, ?_⟩
        revert s5 h51 h52
        generalize (upd H4 T' (tupE T' [.int (k : Int), .int (y : Int)])) = H5
        intro s5 h51 h52
        have hj : ((k : Int) + 1) % (M.length : Int) = (((k + 1) % M.length : Nat) : Int) := rfl
        refine ⟨_, rfl, _, rfl, _, _, rfl, rfl, _, rfl, pb, _, rfl, .inl (SqL.of (s5 _ _ hpb)), ?_⟩
        rw [nv_len]
        refine ⟨_, _, rfl, rfl, (by show (0 : Int) < (M.length : Int); omega), pb, _, (((k + 1) % M.length : Nat) : Int), _, rfl, congrArg V.int hj, SqL.of (s5 _ _ hpb), atI_nat (nv_get (m4 hy)), ?_⟩
        refine ⟨_, rfl, _, rfl, d1, _, rfl, DPut.k (k := (Sum.inl (y : Int) : Key)) h51 (by rw [ln]; exact small1000 (by have := lk k; omega)), ?_⟩
        rw [dkv_put (fresh hy), ← tk1 hy]
        exact ⟨_, _, rfl, same_upd s5 hd1, upd_same, by rw [upd_ne n12]; exact h52⟩
      · rintro σ H4 ⟨o5, o6, rfl, s4, h41, h42⟩
        rw [nv_len, List.take_length] at h41
        refine ⟨_, rfl, _, rfl, t, _, 0, _, rfl, rfl, SqT.of (s4 _ _ ht), atI_nat (j := 0) rfl, pb, pa, rfl, ⟨_, SqL.of (s4 _ _ hpb)⟩, ⟨_, SqL.of (s4 _ _ hpa)⟩, ?_⟩
        refine for_zip (K := K) (l1 := pb) (l2 := pa) (xs := nv M) (ys := nv (M.map (nx u))) (by rw [nv_len, nv_len, List.length_map]) (fun k σ H5 => ∃ o6 o7, σ = [some (.ref pl), some (.ref d1), some (.ref d2), some (.ref t), some (.ref pb), o5, o6, o7] ∧ Same H H5 ∧ H5 d1 = some (.dK (dkv (nx r) (P ++ M))) ∧ H5 d2 = some (.dK (dkv (nx u) (P ++ M.take k)))) ⟨_, _, rfl, s4, h41, by rw [List.take_zero, List.append_nil]; exact h42⟩ (fun k σ H5 ⟨_, _, _, s5, _⟩ => ⟨SqL.of (s5 _ _ hpb), SqL.of (s5 _ _ hpa)⟩) ?_ ?_
        · rintro k xa xb σ H5 T' hxa hxb hT' ⟨o6, o7, rfl, s5, h51, h52⟩
          obtain ⟨y, hy, rfl⟩ := nv_get' hxa
          obtain ⟨y', hy', rfl⟩ := nv_get' hxb
          obtain rfl : nx u y = y' := by rw [List.getElem?_map, hy] at hy'; exact Option.some.inj hy'
          have s6 := same_upd (o := tupE T' [.int (y : Int), .int (nx u y : Int)]) s5 (s5.free hT')
          have h61 : (upd H5 T' (tupE T' [.int (y : Int), .int (nx u y : Int)])) d1 = some (.dK (dkv (nx r) (P ++ M))) := by rw [upd_ne (ne_of_none h51 hT')]; exact h51
          have h62 : (upd H5 T' (tupE T' [.int (y : Int), .int (nx u y : Int)])) d2 = some (.dK (dkv (nx u) (P ++ M.take k))) := by rw [upd_ne (ne_of_none h52 hT')]; exact h52
          refine ⟨T', _, rfl, upd_same, rfl, _, _, rfl, _, _, rfl, rfl, ?_⟩
          revert s6 h61 h62
          generalize (upd H5 T' (tupE T' [.int (y : Int), .int (nx u y : Int)])) = H6
          intro s6 h61 h62
          refine ⟨_, rfl, _, rfl, _, rfl, d2, _, rfl, DPut.k (k := (Sum.inl (y : Int) : Key)) h62 (by rw [ln]; exact small1000 (by have := lk k; omega)), ?_⟩
          rw [dkv_put (fresh hy), ← tk1 hy]
          exact ⟨_, _, rfl, same_upd s6 d20, by rw [upd_ne n12.symm]; exact h61, upd_same⟩
        · rintro σ H5 ⟨o6, o7, rfl, s5, h51, h52⟩
          rw [nv_len, List.take_length] at h52
          exact ⟨_, _, _, _, _, rfl, s5, h51, h52⟩
    · rintro σ H3 ⟨o3, o4, o5, o6, o7, rfl, s3, h31, h32⟩
      rw [List.length_map, hts, List.take_length] at h31 h32
      have mem : ∀ i, i < n → i ∈ Ms.flatten := fun i hi => hper.mem_iff.mpr (List.mem_range.mpr hi)
      have mp : ∀ {w : List Nat}, Row n w → (List.range n).map (nx w) = w := fun {w} rw' => by
        refine List.ext_getElem (by rw [List.length_map, List.length_range, rw'.len]) fun i h1 h2 => ?_
        rw [List.getElem_map, List.getElem_range]
        show w.getD i 0 = _
        rw [List.getD_eq_getElem?_getD, List.getElem?_eq_getElem h2]; rfl
      refine ⟨fun _ _ _ => False, ?_, fun _ _ _ h => h.elim⟩
      refine ⟨_, rfl, d1, _, n, nx r, rfl, h31, by rw [ln, fl], hn, fun i hi => by rw [dkv_val, if_pos (mem i hi)], fun H4 l1 s4 _ hl1 => ?_⟩
      rw [mp rr] at hl1
      refine ⟨_, rfl, d2, _, n, nx u, rfl, s4 _ _ h32, by rw [ln, fl], hn, fun i hi => by rw [dkv_val, if_pos (mem i hi)], fun H5 l2 s5 _ hl2 => ?_⟩
      rw [mp ru] at hl2
      exact ⟨l1, l2, n, r, u, rfl, .inl (SqL.of (s5 _ _ hl1)), .inl (SqL.of hl2), hS, fun H6 a s6 ha => k H6 a (s3.trans (s4.trans (s5.trans s6))) ha⟩
end
end K1
namespace K1
open PySem L2 Sq
theorem find_sg {k : Nat} (h : k < 36) : (match Builtin.Str.occurrences SG ⟨#[sg k]⟩ 0 SG.length 1 with | i :: _ => (i : Int) | [] => -1) = (k : Int) := by
  rw [SG_len, SG_eq, txt_one, occ_sign k (List.mem_range.mpr h)]
def spSi9 : Sp := fun vs H Q _ => ∃ (b : Nat) (xs : List Nat), vs = [.str (txt (btw b xs))] ∧ (∀ x ∈ xs, x < 36) ∧ xs.length ≤ 36 ∧ ∀ (H' : Hp) (l : Addr), Same H H' → H l = none → H' l = some (.lst (nv xs)) → Q (.ref l) H'
section
variable {P : Program} {w : World} {K : PySem.W.Frag} {mg : Str → Option Value} {base : Heap}
theorem sc_si : FnScope ["text"] ["text"] (defScope sSquaresIn) := ⟨rfl, rfl, rfl, by decide +kernel, rfl, by decide +kernel, by decide +kernel⟩
theorem nd_si : (["sign"] : List Str).Nodup := by decide +kernel
theorem ok_si {f : Addr} {fd : FuncData} {tS : Tok} (C_SIGNS : mg "SIGNS" = some (.str SG tS)) (F : Fn K mg "squares_in" sSquaresIn ["text"] f fd) : FnOk P w K mg base CX0 1 f fd ["text"] spSi9 := by
  refine F.F.ok sc_si (fun vs H Q E h => ?_) (fun cdv A outer s H vs Q E hr h => ?_)
  · obtain ⟨b, xs, rfl, _⟩ := h; rfl
  · obtain ⟨b, xs, rfl, hlt, hn, k⟩ := h
    have big : 1000 ≤ sizeLine := by decide
    refine ⟨_, pss_one (ps_ret (pe_comp (N := ["text"]) (names := (defScope sSquaresIn).names) (N' := ["sign"]) (k := 1) (pull := []) (te := tBM K "str" rFindS (tC (.str SG)) (tCons (tVar 0) tNil)) rfl ⟨by rfl, by decide +kernel, by decide +kernel, by rfl, by decide +kernel, by decide +kernel⟩ rfl rfl (pi_str (pe_slice3 (pv 0) (po_some pe_int) po_none (po_some pe_int))) (fun _ _ _ _ _ _ => pg_name (i := 0) nd_si rfl (Or.inl rfl)) (fun _ _ _ _ _ _ => pe_bm PySem.F.plainAttrs_str PySem.F.slot_str_find PySem.F.type_str_find mt_findS (pe_glob (v := .str SG) (by rfl) C_SIGNS ⟨_, rfl⟩) (pa_cons (pv 0) pa_nil)))), ?_⟩
    refine ⟨_, rfl, _, rfl, _, rfl, txt (btw b xs), rfl, rfl, by rw [step_btw, txt_len, List.length_map]; omega, ?_⟩
    rw [step_btw]
    refine ⟨_, rfl, fun d hd => ?_⟩
    refine comp_by (Q := fun d H' => Q (.ref d) H') xs.length (nv xs) (nv_len xs) (fun i σ H3 => ∃ o, σ = [o] ∧ Same H H3) ⟨none, rfl, same_upd (Same.refl _) hd⟩ ?_ ?_
    · rintro i σ H3 hi ⟨o, rfl, s3⟩ hd3
      refine ⟨by show i < (txt _).length; rw [txt_len, List.length_map]; exact hi, fun x H4 ⟨e, c, hc, ey⟩ => ?_⟩
      subst e ey
      rw [txt_get, List.getElem?_map, List.getElem?_eq_getElem hi] at hc
      obtain rfl : sg xs[i] = c := Option.some.inj hc
      have hx := hlt _ (List.getElem_mem hi)
      refine ⟨rfl, _, rfl, SG, _, rfl, rfl, ?_⟩
      exact Eq.mpr (congrArg (fun v => CPost xs.length (nv xs) (fun i σ H3 => ∃ o, σ = [o] ∧ Same H H3) d i ([o].set 0 (some (V.str ⟨#[sg xs[i]]⟩))) (V.int v) H4) (find_sg hx)) (cpost hi (by omega) hd3 (nv_get (List.getElem?_eq_getElem hi)) ⟨_, rfl, same_upd s3 hd⟩)
    · rintro σ H3 ⟨o, rfl, s3⟩ hd3
      exact ⟨by show (txt _).length = _; rw [txt_len, List.length_map], k H3 d s3 hd hd3⟩
end
end K1
namespace L2
open PySem PySem.Spec PyProof.Rows
def rgN (lo hi c : Int) : Nat := (Builtin.Range.rangeSize lo hi c).toNat
theorem rgN_size {lo hi c : Int} (hc : 0 < c) : Builtin.Range.rangeSize lo hi c = (rgN lo hi c : Int) := by
  unfold rgN
  have h0 : 0 ≤ Builtin.Range.rangeSize lo hi c := by
    unfold Builtin.Range.rangeSize
    rw [if_pos hc]
    split
    · have := Int.ediv_nonneg (a := hi - lo - 1) (b := c) (by omega) (by omega); omega
    · omega
  omega
def Itr3 (lo c : Int) (n : Nat) : It := ⟨fun i _ => i < n, fun i H x H' => H' = H ∧ x = .int (lo + i * c), fun i _ => n ≤ i⟩
theorem turn_range3 {P : Program} {w : World} {K : PySem.W.Frag} {tg : Expr} (it : Addr) (lo c : Int) (n : Nat) : Turn P w K tg (Itr3 lo c n) [it] it (fun i h => IsRangeIter h it (lo + (i : Nat) * c) ((n : Int) - (i : Nat)) c) where
  mem := by simp
  obj := fun i h st b hb => by
    have e : b = it := by simpa using hb
    subst e
    exact ⟨_, st, fun v z => by
      have z' : Data.fields _ = Data.cell v := z
      cases z'⟩
  keep := fun i h h' st k => k it (by simp) _ st
  item := by
    intro X hP hw hK hc i pins s σ H E I hf st hg
    subst hP hw hK
    obtain ⟨f0, f1, f2, f3, f4, f5⟩ := hf it (by simp)
    have W := Walks.range (prog := X.prog) (w := X.w) (I.ok.hd hc) it lo c n
    refine W.item i s _ _ hg st fun v h' tk hv st' kk => ?_
    obtain ⟨t, rfl⟩ := hv
    have I1 : Inv X pins σ H { s with heap := h', toks := tk } := I.turned (fun b o hb e => kk b o (by simpa using hb) e) f0 f1 f3 f4 f5
    exact ⟨_, rfl, go_of (s := { s with heap := h', toks := tk }) (n := "range_iterator") st' rfl rfl (by decide) ⟨.int (lo + i * c), H, I1, ⟨t, rfl⟩, ⟨rfl, rfl⟩, st', fun b hb => (hf b hb).1⟩⟩
  done := by
    intro X hP hw hK hc i pins s σ H E I hf st hg
    subst hP hw hK
    obtain ⟨f0, f1, f2, f3, f4, f5⟩ := hf it (by simp)
    exact wpAny_pyNext_range_end (I.ok.hd hc) st (by have : n ≤ i := hg; omega) fun h' eb => ⟨rfl, I.turned (t' := s.toks) (fun b o hb e => eb b o hb e) f0 f1 f3 f4 f5⟩
  self := fun _ _ _ _ _ st h => wpAny_pyIter_rangeiter st h
section
variable {X : Cx} {tg : Expr}
def CRng (lo hi c : Int) : Prop := 0 ≤ lo ∧ lo ≤ 1000000 ∧ 0 ≤ hi ∧ hi ≤ 1000000 ∧ 1 ≤ c ∧ c ≤ 1000000
theorem small_three {lo hi c : Int} (h : CRng lo hi c) : Builtin.Range.small lo hi c = true := by
  obtain ⟨h1, h2, h3, h4, h5, h6⟩ := h
  have hn : 0 ≤ Builtin.Range.rangeSize lo hi c ∧ Builtin.Range.rangeSize lo hi c ≤ 1000001 := by
    unfold Builtin.Range.rangeSize
    rw [if_pos (by omega)]
    split
    · have a1 := Int.ediv_nonneg (a := hi - lo - 1) (b := c) (by omega) (by omega)
      have a2 := Int.ediv_le_self c (show 0 ≤ hi - lo - 1 by omega)
      omega
    · omega
  unfold Builtin.Range.small
  simp only [Builtin.Range.rangeFitsLong, Bool.and_eq_true, Bool.or_eq_true, decide_eq_true_eq, beq_iff_eq, show c > 0 by omega, if_true]
  omega
def iRng3 (ta : TA) : TI := fun σ H R => ta σ H fun vs H1 => ∃ lo hi c : Int, vs = [.int lo, .int hi, .int c] ∧ CRng lo hi c ∧ R (Itr3 lo c (rgN lo hi c)) H1
theorem pi_range3 {a b c : Expr} {ta : TA} {p pos : Pos} (hg : Gl X "range") (hm : X.mg "range" = none) (ha : PA X [a, b, c] ta) (hs : starEach [a, b, c] X.env = [(false, eval a X.env), (false, eval b X.env), (false, eval c X.env)] := by rfl) (hs2 : starEach [b, c] X.env = [(false, eval b X.env), (false, eval c X.env)] := by rfl) :
    PI X tg (.Call (.Name "range" p) [a, b, c] [] pos) (iRng3 ta) := by
  intro pins s σ H R I h
  refine Call_ (ld_blt I hg hm boot_range (PyProof.Rows.callWith_type1 (thn (ha pos pins s σ H _ I h) fun us s1 ⟨vs, H1, I1, r1, q1⟩ => ?_) (by rw [hs, hs2]) (by rw [hs2]; rfl)))
  obtain ⟨lo, hi, cc, e, hC, q⟩ := q1
  subst e
  cases r1 with
  | cons r rr =>
    cases rr with
    | cons r' rr =>
      cases rr with
      | cons r'' rr =>
        cases rr
        obtain ⟨t, rfl⟩ := r
        obtain ⟨t', rfl⟩ := r'
        obtain ⟨t'', rfl⟩ := r''
        obtain ⟨c1, c2, c3, c4, c5, c6⟩ := id hC
        refine call_range_3 (by omega) ?_ (.inl (PyProof.noPylong_small (by omega)))
        refine wpAny_pyIter_range (IsRange.new ..) (small_three hC) ?_
        have I2 : Inv X pins σ H1 { s1 with heap := s1.heap.push { cls := .type "range", data := .fields #[.int lo t, .int hi t', .int cc t''] }, toks := s1.toks } := I1.kept fun b o e => Heap.get?_push_of_some _ e
        refine ⟨(s1.heap.push { cls := .type "range", data := .fields #[.int lo t, .int hi t', .int cc t''] }).objs.size, [(s1.heap.push { cls := .type "range", data := .fields #[.int lo t, .int hi t', .int cc t''] }).objs.size], _, _, H1, rfl,
          I2.kept (t' := s1.toks) fun b o e => Heap.get?_push_of_some _ e, turn_range3 _ lo cc (rgN lo hi cc), ?_, fun b hb => ?_, q⟩
        · show IsRangeIter _ _ (lo + ((0 : Nat) : Int) * cc) (((rgN lo hi cc : Nat) : Int) - ((0 : Nat) : Int)) cc
          rw [show lo + ((0 : Nat) : Int) * cc = lo from by simp, show ((rgN lo hi cc : Nat) : Int) - ((0 : Nat) : Int) = Builtin.Range.rangeSize lo hi cc from by rw [rgN_size (by omega)]; simp]
          exact Heap.get?_push_size _ rfl
        · have e : b = (s1.heap.push { cls := .type "range", data := .fields #[.int lo t, .int hi t', .int cc t''] }).objs.size := by simpa using hb
          subst e
          exact I2.fpOk (Nat.le_refl _) (I2.hok.fresh (Nat.le_refl _))
end
end L2
namespace K1
open PySem L2 Sq
theorem compRange3R {Hc : Hp} {m : Nat} {ta : TA} {te : TE} {pull : List Nat} {Q : VK} {σ : St} {rest : St} (G : Nat → Addr → Hp → Prop) (mono : ∀ i a H H', Same H H' → G i a H → G i a H')
    (stab : ∀ i a H d (xs : List Addr) o, i < m → H d = some (.lst (xs.map V.ref)) → G i a H → G i a (upd H d o)) (hj : ∀ R : List V → Hp → Prop, R [.int 1, .int (2 * (m : Int)), .int 2] Hc → ta σ Hc R) (hb : bst 1 pull σ = none :: rest)
    (hte : ∀ (i : Nat) (H : Hp) (R : VK), i < m → Same Hc H → (∀ (H' : Hp) (a : Addr), Same H H' → G i a H' → R (.ref a) H') → te (some (.int (1 + (i : Int) * 2)) :: rest) H R) (hm : m ≤ 1000)
    (k : ∀ (H' : Hp) (d : Addr) (as : List Addr), Same Hc H' → Hc d = none → as.length = m → (∀ i, i < m → G i (as.getD i 0) H') → H' d = some (.lst (as.map V.ref)) → Q (.ref d) H') :
    tComp (iRng3 ta) 1 pull (gName 0) te σ Hc Q := by
  have em : rgN 1 (2 * (m : Int)) 2 = m := by
    unfold rgN Builtin.Range.rangeSize
    rw [if_pos (by decide)]
    split <;> omega
  refine hj _ ⟨1, 2 * (m : Int), 2, rfl, ⟨by decide, by decide, by omega, by omega, by decide, by decide⟩, fun d hd => ?_⟩
  rw [em, hb]
  refine comp_ex (J := Itr3 1 2 m) (Q := fun d H' => Q (.ref d) H') m (fun i xs σ H9 => (∃ o, σ = o :: rest) ∧ Same Hc H9 ∧ ∃ as : List Addr, xs = as.map V.ref ∧ as.length = i ∧ ∀ j, j < i → G j (as.getD j 0) H9) ⟨⟨_, rfl⟩, same_upd (Same.refl _) hd, [], rfl, rfl, fun j h => absurd h (Nat.not_lt_zero _)⟩ ?_ ?_
  · rintro i xs σ H9 hi ⟨⟨o, rfl⟩, s9, as, rfl, la, hG⟩ hd9
    refine ⟨hi, fun x H4 ⟨e1, e2⟩ => ?_⟩
    subst e1 e2
    refine hte i _ _ hi s9 fun H5 a s5 ga => ?_
    refine xpost hi (s5 _ _ hd9) (by rw [List.length_map]; omega) ⟨⟨_, rfl⟩, same_upd (s9.trans s5) hd, as ++ [a], by rw [List.map_append]; rfl, by rw [List.length_append, la]; rfl, fun j hj => ?_⟩
    rcases Nat.lt_or_ge j i with c | c
    · have e : (as ++ [a]).getD j 0 = as.getD j 0 := by rw [List.getD_eq_getElem?_getD, List.getElem?_append_left (by omega), List.getD_eq_getElem?_getD]
      rw [e]
      exact stab j _ _ d as _ (by omega) (s5 _ _ hd9) (mono _ _ _ _ s5 (hG j c))
    · have e : j = i := by omega
      subst e
      have e : (as ++ [a]).getD j 0 = a := by rw [List.getD_eq_getElem?_getD, List.getElem?_append_right (by omega), la, Nat.sub_self]; rfl
      rw [e]
      exact stab j _ _ d as _ hi (s5 _ _ hd9) ga
  · rintro xs σ H9 ⟨⟨o, rfl⟩, s9, as, rfl, la, hG⟩ hd9
    exact ⟨Nat.le_refl _, k H9 d as s9 hd la hG hd9⟩
abbrev teS9 (K : PySem.W.Frag) : TE := tTup (tCons (tCall spSi9 [] E0 (tCons (tOp (rIxL K) (tVar 1) (tOp (rI0 fun i j => .int (i - j)) (tVar 0) (tC (.int 1)))) tNil)) (tCons (tCall spSi9 [] E0 (tCons (tOp (rIxL K) (tVar 1) (tVar 0)) tNil)) tNil))
theorem drM_len (u : List Nat) : ∀ Ms : List (List Nat), (drM u Ms).length = 2 * Ms.length
  | [] => rfl
  | M :: Ms => by
    show ([btw 32 (M.map (nx u)), btw 124 M] ++ drM u Ms).length = _
    rw [List.length_append, drM_len u Ms]; show 2 + 2 * Ms.length = 2 * (Ms.length + 1); omega
theorem drM_get (u : List Nat) : ∀ {Ms : List (List Nat)} {i : Nat} {M : List Nat}, Ms[i]? = some M → (drM u Ms)[2 * i]? = some (btw 32 (M.map (nx u))) ∧ (drM u Ms)[2 * i + 1]? = some (btw 124 M)
  | [], i, M, h => by simp at h
  | N :: Ms, 0, M, h => by cases h; exact ⟨rfl, rfl⟩
  | N :: Ms, i + 1, M, h => by
    rw [List.getElem?_cons_succ] at h
    obtain ⟨h1, h2⟩ := drM_get u h
    have e : drM u (N :: Ms) = [btw 32 (N.map (nx u)), btw 124 N] ++ drM u Ms := rfl
    rw [e]
    refine ⟨?_, ?_⟩
    · rw [List.getElem?_append_right (by show 2 ≤ _; omega)]
      show (drM u Ms)[2 * (i + 1) - 2]? = _
      rw [show 2 * (i + 1) - 2 = 2 * i by omega]; exact h1
    · rw [List.getElem?_append_right (by show 2 ≤ _; omega)]
      show (drM u Ms)[2 * (i + 1) + 1 - 2]? = _
      rw [show 2 * (i + 1) + 1 - 2 = 2 * i + 1 by omega]; exact h2
theorem drM_ok {u : List Nat} {Ms : List (List Nat)} (hM : ∀ M ∈ Ms, ∀ x ∈ M, x < 36 ∧ nx u x < 36) {z : List Nat} (h : z ∈ drM u Ms) : ∀ c ∈ z, c < 0x110000 := by
  obtain ⟨M, hm, hz⟩ := List.mem_flatMap.mp h
  have bt : ∀ (b : Nat) (xs : List Nat), b < 200 → (∀ x ∈ xs, x < 36) → ∀ c ∈ btw b xs, c < 0x110000 := fun b xs hb hx c hc => by
    rcases List.mem_cons.mp hc with rfl | hc
    · omega
    · obtain ⟨x, hx', hc⟩ := List.mem_flatMap.mp hc
      have := hx x hx'
      simp only [List.mem_cons, List.not_mem_nil, or_false] at hc
      rcases hc with rfl | rfl
      · unfold sg; split <;> omega
      · omega
  simp only [List.mem_cons, List.not_mem_nil, or_false] at hz
  rcases hz with rfl | rfl
  · refine bt 32 _ (by decide) fun x hx => ?_
    obtain ⟨y, hy, rfl⟩ := List.mem_map.mp hx
    exact (hM M hm y hy).2
  · exact bt 124 _ (by decide) fun x hx => (hM M hm x hx).1
theorem tvs_dt {K : PySem.W.Frag} {H : Hp} : ∀ zs : List (List Nat), DtAll K H (tvs zs) (zs.map fun z => PyData.str (txt z))
  | [] => .nil
  | z :: zs => .cons (.str _) (tvs_dt zs)
theorem tvs_lay {zs : List (List Nat)} (h : ∀ z ∈ zs, ∀ c ∈ z, c < 0x110000) : (PyData.list (zs.map fun z => PyData.str (txt z))).canLay0 = true := by
  show PyData.canLayAll0 _ = true
  induction zs with
  | nil => rfl
  | cons z zs ih =>
    show ((PyData.str (txt z)).canLay0 && PyData.canLayAll0 (zs.map fun z => PyData.str (txt z))) = true
    rw [ih fun y hy => h y (by simp [hy])]
    have : (PyData.str (txt z)).canLay0 = true := by
      show ((txt z).cps.all fun c => decide (c < 0x110000)) = true
      rw [Array.all_eq_true_iff_forall_mem]
      intro c hc
      exact decide_eq_true (h z (by simp) c (by simpa [txt] using hc))
    rw [this]; rfl
theorem tvs_dep (zs : List (List Nat)) : (PyData.list (zs.map fun z => PyData.str (txt z))).depth ≤ 64 := by
  have : ∀ zs : List (List Nat), PyData.depthAll (zs.map fun z => PyData.str (txt z)) ≤ 1 := fun zs => by
    induction zs with
    | nil => decide
    | cons z zs ih => exact Nat.max_le.mpr ⟨by show 0 ≤ 1; decide, ih⟩
  exact Nat.le_trans (Nat.succ_le_succ (this zs)) (by decide)
theorem tvs_eqv (zs : List (List Nat)) : PyData.eqv (.list (zs.map fun z => PyData.str (txt z))) (.list (zs.map fun z => PyData.str (txt z))) = true := by
  show PyData.eqvAll _ _ = true
  induction zs with
  | nil => rfl
  | cons z zs ih =>
    show (PyData.eqv (.str (txt z)) (.str (txt z)) && PyData.eqvAll _ _) = true
    rw [ih]
    have : PyData.eqv (.str (txt z)) (.str (txt z)) = true := by show (txt z == txt z) = true; simp
    rw [this]; rfl
def spSe9 (K : PySem.W.Frag) : Sp := fun vs H Q _ => ∃ (pl : Addr) (n : Nat) (r u : List Nat), vs = [.ref pl] ∧ H pl = some (.lst (tvs (drM u (rounds n r)))) ∧ Sheet n r u ∧ ∀ (H' : Hp) (a : Addr), Same H H' → ShAt H' a r u → Q (.ref a) H'
section
variable {P : Program} {w : World} {K : PySem.W.Frag} {mg : Str → Option Value} {base : Heap}
abbrev n_se : List Str := ["rows", "pairs", "sheet"]
theorem sc_se : FnScope n_se ["rows"] (defScope sSeen) := ⟨rfl, rfl, rfl, by decide +kernel, rfl, by decide +kernel, by decide +kernel⟩
theorem nd_se : (["k", "rows"] : List Str).Nodup := by decide +kernel
set_option maxHeartbeats 4000000 in
theorem ok_se {f fq ft fw : Addr} {fd dq dt dw : FuncData} (T : Bi mg) (F : Fn K mg "seen" sSeen ["rows"] f fd) (FQ : Fn K mg "squares_in" sSquaresIn ["text"] fq dq) (GQ : FnOk P w K mg base CX0 1 fq dq ["text"] spSi9)
    (FT : Fn K mg "sheet_told" sSheetTold ["pairs"] ft dt) (GT : FnOk P w K mg base CX0 6 ft dt ["pairs"] (spTo9 K))
    (FW : Fn K mg "drawn" sDrawn ["sheet"] fw dw) (GW : FnOk P w K mg base CX0 3 fw dw ["sheet"] (spDrw K)) : FnOk P w K mg base CX0 7 f fd ["rows"] (spSe9 K) := by
  refine F.F.ok sc_se (fun vs H Q E h => ?_) (fun cdv A outer s H vs Q E hr h => ?_)
  · obtain ⟨pl, n, r, u, rfl, _⟩ := h; rfl
  · obtain ⟨pl, n, r, u, rfl, hpl, hS, k⟩ := h
    have hr1 : Room 1 _ := hr.mono (by decide)
    have hr3 : Room 3 _ := hr.mono (by decide)
    have hr6 : Room 6 _ := hr.mono (by decide)
    refine ⟨_, (pss_cons (ps_comp (j := 1) (N := n_se) (names := (defScope sSeen).names) (N' := ["k", "rows"]) (k := 1) (pull := [0]) (te := teS9 K) rfl sc_se.nd rfl rfl ⟨by rfl, by decide +kernel, by decide +kernel, by rfl, by decide +kernel, by decide +kernel⟩ rfl rfl (pi_range3 rfl T.range (pa_cons pe_int (pa_cons (pe_callB call_len_seq rfl T.len PySem.boot_len (pa_cons (pv 0) pa_nil)) (pa_cons pe_int pa_nil)))) (fun _ _ _ _ _ _ => pg_name (i := 0) nd_se rfl (Or.inl rfl)) (fun _ _ _ _ _ _ => pe_tup (pa_cons (pe_call GQ hr1 rfl FQ.m FQ.F.kp FQ.b .nil pass0 (pa_cons (pe_ix ix_list (pv 1) (pe_op op_sub (pv 0) pe_int) (fun _ _ => rfl)) pa_nil)) (pa_cons (pe_call GQ hr1 rfl FQ.m FQ.F.kp FQ.b .nil pass0 (pa_cons (pe_ix ix_list (pv 1) (pv 0) (fun _ _ => rfl)) pa_nil)) pa_nil))))
      (pss_cons (ps_set (i := 2) sc_se.nd rfl (Or.inl rfl) (pe_call GT hr6 rfl FT.m FT.F.kp FT.b .nil pass0 (pa_cons (pv 1) pa_nil)))
      (pss_cons (ps_if (PW.pt (pw_or (pt_cmpR op_isN (pv 2) pe_non (nomark _)) (pw_or1 (pt_cmpR op_neD (pe_call GW hr3 rfl FW.m FW.F.kp FW.b .nil pass0 (pa_cons (pv 2) pa_nil)) (pv 0) (nomark _))))) pss_never pss_nil)
      (pss_one (ps_ret (pv 2)))))), ?_⟩
    have rr := hS.row
    have ru := hS.col
    have hn := hS.most
    have two : 2 ≤ sizeLine := by decide
    have hro := fun M (hM : M ∈ rounds n r) => rounds_of rr hM
    have hM36 : (rounds n r).length ≤ 36 := by
      unfold rounds
      rw [List.length_map]
      have := List.length_filter_le (lead n r) (List.range n)
      rw [List.length_range] at this; omega
    have hdl : (drM u (rounds n r)).length = 2 * (rounds n r).length := drM_len u _
    have tl : ∀ zs : List (List Nat), (tvs zs).length = zs.length := fun zs => by simp [tvs]
    dsimp only [tSeq, tAsg, gName]
    refine compRange3R (m := (rounds n r).length) (rest := [some (.ref pl)]) (fun i a H => ∃ M, (rounds n r)[i]? = some M ∧ ∃ pa pb, H a = some (.tup [.ref pa, .ref pb]) ∧ H pa = some (.lst (nv (M.map (nx u)))) ∧ H pb = some (.lst (nv M))) (fun i a H H' s ⟨M, hM, pa, pb, g1, g2, g3⟩ => ⟨M, hM, pa, pb, s _ _ g1, s _ _ g2, s _ _ g3⟩) (fun i a H d xs o hi hd ⟨M, hM, pa, pb, g1, g2, g3⟩ => ?_) (fun R hR => ⟨_, rfl, pl, _, rfl, .inl (SqL.of hpl), by rw [tl, hdl]; exact hR⟩) rfl (fun i H' R hi hs hR => ?_) (by omega) fun H1 d as s1 hd0 la hG hd => ?_
    · have m1 := (hro M (List.mem_of_getElem? hM)).1
      have nl : ∀ {w : List Nat} {c : Addr}, 1 ≤ w.length → H c = some (.lst (nv w)) → c ≠ d := fun {w c} hw e1 q => by
        rw [q, hd] at e1
        match w, xs, hw, e1 with
        | _ :: _, [], _, e1 => cases e1
        | _ :: _, _ :: _, _, e1 => cases e1
      exact ⟨M, hM, pa, pb, by rw [upd_ne (fun q => by rw [q, hd] at g1; cases g1)]; exact g1, by rw [upd_ne (nl (by rw [List.length_map]; exact m1) g2)]; exact g2, by rw [upd_ne (nl m1 g3)]; exact g3⟩
    · obtain ⟨M, hM⟩ : ∃ M, (rounds n r)[i]? = some M := ⟨_, List.getElem?_eq_getElem hi⟩
      obtain ⟨m1, m2, m3, _⟩ := hro M (List.mem_of_getElem? hM)
      obtain ⟨q1, q2⟩ := drM_get u hM
      have ga : (tvs (drM u (rounds n r)))[2 * i]? = some (.str (txt (btw 32 (M.map (nx u))))) := by unfold tvs; rw [List.getElem?_map, q1]; rfl
      have gb : (tvs (drM u (rounds n r)))[2 * i + 1]? = some (.str (txt (btw 124 M))) := by unfold tvs; rw [List.getElem?_map, q2]; rfl
      have i1 : (1 + (i : Int) * 2) - 1 = ((2 * i : Nat) : Int) := by omega
      have i2 : (1 + (i : Int) * 2) = ((2 * i + 1 : Nat) : Int) := by omega
      refine ⟨_, rfl, _, rfl, _, _, rfl, rfl, pl, _, ((2 * i : Nat) : Int), _, rfl, congrArg V.int i1, SqL.of (hs _ _ hpl), atI_nat ga, 32, M.map (nx u), rfl, fun x hx => ?_, by rw [List.length_map]; omega, fun H2 pa s2 _ hpa => ?_⟩
      · obtain ⟨y, hy, rfl⟩ := List.mem_map.mp hx
        exact Nat.lt_of_lt_of_le (ru.nlt (m3 y hy)) hn
      refine ⟨_, rfl, _, rfl, pl, _, ((2 * i + 1 : Nat) : Int), _, rfl, congrArg V.int i2, SqL.of (s2 _ _ (hs _ _ hpl)), atI_nat gb, 124, M, rfl, fun x hx => Nat.lt_of_lt_of_le (m3 x hx) hn, by omega, fun H3 pb s3 _ hpb => ?_⟩
      refine ⟨two, fun t ht => ?_⟩
      have s4 := same_upd (o := .tup [.ref pa, .ref pb]) (Same.refl H3) ht
      exact hR _ t (s2.trans (s3.trans s4)) ⟨M, hM, pa, pb, upd_same, s4 _ _ (s3 _ _ hpa), s4 _ _ hpb⟩
    try dsimp only [tSeq, tAsg, gName]
    refine ⟨_, rfl, d, as, n, r, u, rfl, hd, la, fun i t M h1 h2 => ?_, hS, fun H2 a s2 ha => ?_⟩
    · obtain ⟨M', e, pa, pb, g⟩ := hG i (List.getElem?_eq_some_iff.mp h2).1
      rw [h2] at e
      cases e
      have : as.getD i 0 = t := by rw [List.getD_eq_getElem?_getD, h1]; rfl
      rw [this] at g
      exact ⟨pa, pb, g⟩
    try dsimp only
    refine ⟨_, rfl, rfl, _, rfl, ?_⟩
    rw [decide_eq_false (fun z => by cases z)]
    refine iteF ?_
    refine ⟨_, rfl, a, n, r, u, rfl, ha, rr, ru, hn, fun H3 l s3 _ hl => ?_⟩
    have s13 := s1.trans (s2.trans s3)
    have small : ∀ M ∈ rounds n r, ∀ x ∈ M, x < 36 ∧ nx u x < 36 := fun M hM x hx => by
      have := (hro M hM).2.2.1 x hx
      exact ⟨by omega, Nat.lt_of_lt_of_le (ru.nlt this) hn⟩
    refine ⟨_, rfl, .list ((drM u (rounds n r)).map fun z => .str (txt z)), .list ((drM u (rounds n r)).map fun z => .str (txt z)), .lst (SqL.of hl) (tvs_dt _), .lst (SqL.of (s13 _ _ hpl)) (tvs_dt _), ?_, ?_, unitsD hr ?_, _, rfl, ?_⟩
    · exact tvs_lay fun z hz => drM_ok small hz
    · exact tvs_lay fun z hz => drM_ok small hz
    · exact tvs_dep _
    · show if (!PyData.eqv _ _) = true then _ else _
      rw [tvs_eqv]
      refine iteF ?_
      exact ⟨_, rfl, k H3 a s13 (ha.same s3)⟩
end
end K1
namespace Sq
def rk (n k : Nat) (r : List Nat) : List (List Nat) := ((List.range k).filter (lead n r)).map (cyc n r)
theorem rk_lead {n k : Nat} {r : List Nat} (h : lead n r k = true) : rk n (k + 1) r = rk n k r ++ [cyc n r k] := by
  unfold rk
  rw [List.range_succ, List.filter_append, List.map_append]
  simp [h]
theorem rk_not {n k : Nat} {r : List Nat} (h : lead n r k = false) : rk n (k + 1) r = rk n k r := by
  unfold rk
  rw [List.range_succ, List.filter_append]
  simp [h]
theorem mem_rk {n k : Nat} {r : List Nat} {x : Nat} : x ∈ (rk n k r).flatten ↔ ∃ l, l < k ∧ lead n r l = true ∧ x ∈ cyc n r l := by
  unfold rk
  rw [List.mem_flatten]
  constructor
  · rintro ⟨M, hM, hx⟩
    obtain ⟨l, hl, rfl⟩ := List.mem_map.mp hM
    obtain ⟨h1, h2⟩ := List.mem_filter.mp hl
    exact ⟨l, List.mem_range.mp h1, h2, hx⟩
  · rintro ⟨l, h1, h2, hx⟩
    exact ⟨_, List.mem_map.mpr ⟨l, List.mem_filter.mpr ⟨List.mem_range.mpr h1, h2⟩, rfl⟩, hx⟩
theorem new_lead {n k : Nat} {r : List Nat} (rr : Row n r) (hk : k < n) (h : lead n r k = true) {x : Nat} (hx : x ∈ cyc n r k) : x ∉ (rk n k r).flatten := fun hm => by
  obtain ⟨l, h1, h2, h3⟩ := mem_rk.mp hm
  have := lead_unique rr (by omega) hk h2 h h3 hx
  omega
theorem old_square {n k : Nat} {r : List Nat} (rr : Row n r) (hk : k < n) (h : lead n r k = false) : k ∈ (rk n k r).flatten := by
  obtain ⟨l, hl, h1, h2⟩ := has_lead rr hk
  have := lead_iff.mp h1 k h2
  have : l ≠ k := fun e => by rw [e, h] at h1; cases h1
  exact mem_rk.mpr ⟨l, by omega, h1, h2⟩
theorem rk_len (n k : Nat) (r : List Nat) : (rk n k r).length ≤ k := by
  unfold rk
  rw [List.length_map]
  have := List.length_filter_le (lead n r) (List.range k)
  rwa [List.length_range] at this
/-- borders first -/
theorem btw_flip (b : Nat) : ∀ xs : List Nat, (xs.flatMap fun x => [b, sg x]) ++ [b] = btw b xs
  | [] => rfl
  | x :: xs => by
    have ih := btw_flip b xs
    show [b, sg x] ++ (xs.flatMap fun x => [b, sg x]) ++ [b] = _
    rw [List.append_assoc, ih]; rfl
end Sq
namespace L2
open PySem PySem.Spec PyProof.Rows
section
variable {X : Cx}
end
end L2
namespace L2
open PySem PySem.Spec PyProof.Rows
/-- while, by a word that bears its own measure -/
theorem while_nat {c : TT} {tb : TS} {D : Ends} {σ : St} {H : Hp} (Pv : Nat → St → Hp → Prop) (h0 : ∃ m, Pv m σ H)
    (hs : ∀ m σ H, Pv m σ H → c σ H fun b H1 => if b = true then tb { D with nx := fun σ' H' => ∃ m', m' < m ∧ Pv m' σ' H', ct := fun σ' H' => ∃ m', m' < m ∧ Pv m' σ' H', bk := D.nx } σ H1 else D.nx σ H1)
    (mono : ∀ σ H Q Q', (∀ b H1, Q b H1 → Q' b H1) → c σ H Q → c σ H Q') : tWhile c tb D σ H := by
  refine ⟨Pv, h0, ?_⟩
  rintro m σ H p
  refine mono σ H _ _ (fun b H1 q => ?_) (hs m σ H p)
  cases b with
  | true => exact ⟨_, fun σ' H' z => z, q⟩
  | false => exact q
end L2
namespace K1
open PySem L2 Sq
def spLSigns : Sp := fun vs H Q _ => vs = [] ∧ Q (.str SG) H
def dkb (P : List Nat) : List (Key × V) := P.map fun (x : Nat) => ((Sum.inl (x : Int) : Key), V.bl true)
theorem dkb_val (k : Nat) : ∀ P : List Nat, valV (dkb P) (Sum.inl (k : Int) : Key) = if k ∈ P then some (.bl true) else none
  | [] => rfl
  | x :: P => by
    show valV (((Sum.inl (x : Int) : Key), V.bl true) :: dkb P) _ = _
    by_cases e : x = k
    · subst e; rw [valV_pos rfl, if_pos (by simp)]
    · rw [valV_neg (fun z => e (by have : (x : Int) = (k : Int) := Sum.inl.inj z; omega)), dkb_val k P]
      by_cases m : k ∈ P
      · rw [if_pos m, if_pos (by simp [m])]
      · rw [if_neg m, if_neg (by simp [m]; exact fun z => e z.symm)]
theorem dkb_put {P : List Nat} {x : Nat} (h : x ∉ P) : putK (dkb P) (Sum.inl (x : Int) : Key) (V.bl true) = dkb (P ++ [x]) := by
  rw [putK_new _ (by rw [dkb_val, if_neg h])]
  unfold dkb; rw [List.map_append]; rfl
theorem drM_app (u : List Nat) (A B : List (List Nat)) : drM u (A ++ B) = drM u A ++ drM u B := by unfold drM; rw [List.flatMap_append]
theorem ld_step {n i : Nat} {r u : List Nat} (rr : Row n r) (hi : i < n) (hn : n ≤ 36) : ∃ (M P : List Nat), (M = if lead n r i = true then cyc n r i else []) ∧ P = (rk n i r).flatten ∧ (∀ x ∈ M, x < n) ∧ M.length ≤ 36 ∧ (P ++ M).length ≤ 36 ∧ ∃ sq : Nat → Nat, sq 0 = i ∧ (∀ j, j < M.length → M[j]? = some (sq j)) ∧ (∀ j, j < M.length → sq (j + 1) = nx r (sq j)) ∧ sq M.length ∈ P ++ M ∧ (∀ j, j < M.length → sq j ∉ P ++ M.take j) ∧ (rk n (i + 1) r).flatten = P ++ M ∧ drM u (rk n (i + 1) r) = drM u (rk n i r) ++ (if M = [] then [] else [btw 32 (M.map (nx u)), btw 124 M]) := by
  have sub : ∀ j, j ≤ n → ((rk n j r).flatten).length ≤ 36 := fun j hj => by
    have nd : (rounds n r).flatten.Nodup := (rounds_perm rr).nodup_iff.mpr List.nodup_range
    have : (rk n j r).flatten.length ≤ (rounds n r).flatten.length := by
      have e : ∃ B, rounds n r = rk n j r ++ B := by
        obtain ⟨m, rfl⟩ : ∃ m, n = j + m := ⟨n - j, by omega⟩
        refine ⟨(((List.range m).map (j + ·)).filter (lead (j + m) r)).map (cyc (j + m) r), ?_⟩
        unfold rounds rk
        rw [List.range_add, List.filter_append, List.map_append]
      obtain ⟨B, e⟩ := e
      rw [e, List.flatten_append, List.length_append]; omega
    rw [(rounds_perm rr).length_eq, List.length_range] at this
    omega
  cases h : lead n r i with
  | true =>
    have c := cyc_is rr hi
    have hl := cyc_len n r i
    have e1 := rk_lead h
    have e2 : (rk n (i + 1) r).flatten = (rk n i r).flatten ++ cyc n r i := by rw [e1, List.flatten_append]; simp
    have s1 := sub (i + 1) (by omega)
    rw [e2] at s1
    have c36 : (cyc n r i).length ≤ 36 := by rw [List.length_append] at s1; omega
    refine ⟨cyc n r i, (rk n i r).flatten, by rw [if_pos rfl], rfl, fun x hx => cyc_lt rr hi hx, c36, s1, it r i, rfl, fun j hj => c.get hj, fun j hj => rfl, ?_, fun j hj hm => ?_, e2, ?_⟩
    · rw [c.back]
      exact List.mem_append_right _ (List.mem_of_getElem? (cyc_head rr hi))
    · have hg := c.get hj
      rcases List.mem_append.mp hm with g | g
      · exact new_lead rr hi h (List.mem_of_getElem? hg) g
      · have nd := c.nd rr hi
        rw [← List.take_append_drop j (cyc n r i)] at nd
        refine (List.nodup_append.mp nd).2.2 _ g _ ?_ rfl
        rw [List.drop_eq_getElem_cons hj]
        simp [(List.getElem?_eq_some_iff.mp hg).2]
    · have ne : cyc n r i ≠ [] := fun z => by have := c.pos; rw [z] at this; simp at this
      rw [e1, drM_app, if_neg ne]; rfl
  | false =>
    refine ⟨[], (rk n i r).flatten, by simp, rfl, by simp, by simp, by rw [List.append_nil]; exact sub i (by omega), fun _ => i, rfl, fun j hj => by simp at hj, fun j hj => by simp at hj, by rw [List.append_nil]; exact old_square rr hi h, fun j hj => by simp at hj, by rw [rk_not h, List.append_nil], by rw [rk_not h, if_pos rfl, List.append_nil]⟩
def spLd9 (K : PySem.W.Frag) : Sp := fun vs H Q _ => ∃ (a : Addr) (n : Nat) (r u : List Nat), vs = [.ref a] ∧ ShAt H a r u ∧ Row n r ∧ Row n u ∧ n ≤ 36 ∧ ∀ (H' : Hp) (l : Addr), Same H H' → H' l = some (.lst (tvs (drM u (rounds n r)))) → Q (.ref l) H'
section
variable {P : Program} {w : World} {K : PySem.W.Frag} {mg : Str → Option Value} {base : Heap}
abbrev n_ld9 : List Str := ["_law_sheet_here", "_law_some", "_law_told", "_law_done", "_law_first", "_law_above", "_law_below", "_law_square"]
theorem sc_ld9 : FnScope n_ld9 ["_law_sheet_here"] (defScope sLDrawn) := ⟨rfl, rfl, rfl, by decide +kernel, rfl, by decide +kernel, by decide +kernel⟩
set_option maxHeartbeats 4000000 in
theorem ok_ld9 {f : Addr} {fd : FuncData} {fs : Addr} {ds : FuncData} (T : Bi mg) (FS : Fn K mg "_law_signs" sLSigns [] fs ds) (GS : FnOk P w K mg base CX0 1 fs ds [] spLSigns) (F : Fn K mg "_law_drawn" sLDrawn ["_law_sheet_here"] f fd) : FnOk P w K mg base CX0 2 f fd ["_law_sheet_here"] (spLd9 K) := by
  refine F.F.ok sc_ld9 (fun vs H Q E h => ?_) (fun cdv A outer s H vs Q E hr h => ?_)
  · obtain ⟨a, n, r, u, rfl, _⟩ := h; rfl
  · obtain ⟨a, n, r, u, rfl, hsh, rr, ru, hn, k⟩ := h
    have hu := hu_of hr
    have hr1 : Room 1 _ := hr.mono (by decide)
    refine ⟨_, (pss_cons (ps_set (i := 1) sc_ld9.nd rfl (Or.inl rfl) (pe_call0 GS hr1 rfl FS.m FS.F.kp FS.b .nil pass0))
      (pss_cons (ps_set (i := 2) sc_ld9.nd rfl (Or.inl rfl) (pe_lst pa_nil))
      (pss_cons (ps_set (i := 3) sc_ld9.nd rfl (Or.inl rfl) pe_dnewK)
      (pss_cons (ps_for PassesOwn.never rfl (pi_range1 rfl T.range (pa_cons (pe_callB call_len_seq rfl T.len PySem.boot_len (pa_cons (pe_ix ix_tup (pv 0) pe_int (fun _ _ => rfl)) pa_nil)) pa_nil)) (pg_name (i := 4) sc_ld9.nd rfl (Or.inl rfl)) (pss_cons (ps_set (i := 5) sc_ld9.nd rfl (Or.inl rfl) pe_str)
      (pss_cons (ps_set (i := 6) sc_ld9.nd rfl (Or.inl rfl) pe_str)
      (pss_cons (ps_set (i := 7) sc_ld9.nd rfl (Or.inl rfl) (pv 4))
      (pss_cons (ps_while PassesOwn.never (pt_cmp (pc_dnotin hu (pv 7) (pv 3))) (pss_cons (ps_dput hu (pv 3) (pv 7) pe_bl rfl)
      (pss_cons (ps_set (i := 5) sc_ld9.nd rfl (Or.inl rfl) (pe_op op_add_str (pe_op op_add_str (pv 5) pe_str) (pe_ix ix_str (pv 1) (pe_ix ix_tup (pe_ix ix_tup (pv 0) pe_int (fun _ _ => rfl)) (pv 7) (fun _ _ => rfl)) (fun _ _ => rfl))))
      (pss_cons (ps_set (i := 6) sc_ld9.nd rfl (Or.inl rfl) (pe_op op_add_str (pe_op op_add_str (pv 6) pe_str) (pe_ix ix_str (pv 1) (pv 7) (fun _ _ => rfl))))
      (pss_one (ps_set (i := 7) sc_ld9.nd rfl (Or.inl rfl) (pe_ix ix_tup (pe_ix ix_tup (pv 0) pe_int (fun _ _ => rfl)) (pv 7) (fun _ _ => rfl))))))))
      (pss_one (ps_if (pt_cmpR op_ne (pv 5) pe_str (nomark _)) (pss_one (ps_expr (pe_bm PySem.F.plainAttrs_list PySem.F.slot_list_extend PySem.F.type_list_extend mt_extend (pv 2) (pa_cons (pe_lst (pa_cons (pe_op op_add_str (pv 5) pe_str) (pa_cons (pe_op op_add_str (pv 6) pe_str) pa_nil))) pa_nil)))) pss_nil)))))))
      (pss_one (ps_ret (pv 2))))))), ?_⟩
    obtain ⟨p, q, h1, h2, h3⟩ := id hsh
    have big : 1000 ≤ sizeLine := by decide
    refine ⟨rfl, ?_⟩
    refine ⟨Nat.zero_le _, fun l hl => ?_⟩
    refine fun d hd => ?_
    have nld : l ≠ d := fun e => by rw [← e, upd_same] at hd; cases hd
    have d0 : H d = none := by rw [upd_ne nld.symm] at hd; exact hd
    have s1 : Same H (upd (upd H l (.lst [])) d (.dK [])) := same_upd (same_upd (Same.refl H) hl) d0
    have e1 : (upd (upd H l (.lst [])) d (.dK [])) l = some (.lst (tvs (drM u (rk n 0 r)))) := by rw [upd_ne nld, upd_same]; rfl
    have e2 : (upd (upd H l (.lst [])) d (.dK [])) d = some (.dK (dkb (rk n 0 r).flatten)) := upd_same
    revert s1 e1 e2
    generalize (upd (upd H l (.lst [])) d (.dK [])) = H1
    intro s1 e1 e2
    try dsimp only [tSeq, tAsg, gName]
    refine ⟨_, rfl, a, _, 0, _, rfl, rfl, SqT.of (s1 _ _ h1), atI_nat (j := 0) rfl, p, _, rfl, .inr (SqT.of (s1 _ _ h2)), (n : Int), by rw [nv_len, rr.len], by omega, by omega, ?_⟩
    rw [Int.toNat_natCast]
    refine for_range (n := n) (fun i σ H3 => ∃ o4 o5 o6 o7, σ = [some (.ref a), some (.str SG), some (.ref l), some (.ref d), o4, o5, o6, o7] ∧ Same H H3 ∧ H3 l = some (.lst (tvs (drM u (rk n i r)))) ∧ H3 d = some (.dK (dkb (rk n i r).flatten))) ⟨_, _, _, _, rfl, s1, e1, e2⟩ ?_ ?_
    · rintro i σ H3 hi ⟨o4, o5, o6, o7, rfl, s3, h3l, h3d⟩
      rw [show (0 : Int) + (i : Int) = (i : Int) from by omega]
      obtain ⟨M, P, hM, hP, hMn, hMl, hPl, sq, sq0, sqj, sqn, sqe, hnew, hrk⟩ : ∃ (M P : List Nat), (M = if lead n r i = true then cyc n r i else []) ∧ P = (rk n i r).flatten ∧ (∀ x ∈ M, x < n) ∧ M.length ≤ 36 ∧ (P ++ M).length ≤ 36 ∧ ∃ sq : Nat → Nat, sq 0 = i ∧ (∀ j, j < M.length → M[j]? = some (sq j)) ∧ (∀ j, j < M.length → sq (j + 1) = nx r (sq j)) ∧ sq M.length ∈ P ++ M ∧ (∀ j, j < M.length → sq j ∉ P ++ M.take j) ∧ (rk n (i + 1) r).flatten = P ++ M ∧ drM u (rk n (i + 1) r) = drM u (rk n i r) ++ (if M = [] then [] else [btw 32 (M.map (nx u)), btw 124 M]) := ld_step rr hi hn
      subst hP
      clear hM
      have fl2 : ∀ (b : Nat) (g : Nat → Nat) (L : List Nat), (L.flatMap fun x => [b, sg (g x)]).length = 2 * L.length := fun b g L => by
        induction L with
        | nil => rfl
        | cons y L ih => rw [List.flatMap_cons, List.length_append, ih]; show 2 + 2 * L.length = 2 * (L.length + 1); omega
      have lkb : ∀ L : List Nat, (dkb L).length = L.length := fun L => by simp [dkb]
      refine ⟨_, rfl, ?_⟩
      try dsimp only [gName]
      rw [empty_eq]
      refine while_nat (fun m σ H4 => ∃ j, j ≤ M.length ∧ m = M.length - j ∧ σ = [some (.ref a), some (.str SG), some (.ref l), some (.ref d), some (.int (i : Int)), some (.str (txt ((M.take j).flatMap fun x => [32, sg (nx u x)]))), some (.str (txt ((M.take j).flatMap fun x => [124, sg x]))), some (.int (sq j : Int))] ∧ Same H H4 ∧ H4 l = some (.lst (tvs (drM u (rk n i r)))) ∧ H4 d = some (.dK (dkb ((rk n i r).flatten ++ M.take j)))) ?_ ?_ ?_
      · exact ⟨_, 0, Nat.zero_le _, rfl, by rw [sq0]; rfl, s3, h3l, by rw [List.take_zero, List.append_nil]; exact h3d⟩
      · rintro m σ H4 ⟨j, hj, em, rfl, s4, h4l, h4d⟩
        refine ⟨_, rfl, _, rfl, d, _, rfl, DGet.k (k := (Sum.inl (sq j : Int) : Key)) h4d, _, rfl, ?_⟩
        rw [dkb_val]
        by_cases hjl : j < M.length
        · rw [if_neg (hnew j hjl)]
          refine iteT ?_
          have hg := sqj j hjl
          have hsn : sq j < n := hMn _ (List.mem_of_getElem? hg)
          have tk : M.take (j + 1) = M.take j ++ [sq j] := by rw [List.take_add_one, hg]; rfl
          have lt1 : ((rk n i r).flatten ++ M.take j).length ≤ 36 := by rw [List.length_append, List.length_take]; rw [List.length_append] at hPl; omega
          have la : ((M.take j).flatMap fun x => [32, sg (nx u x)]).length ≤ 72 := by rw [fl2, List.length_take]; omega
          have lb : ((M.take j).flatMap fun x => [124, sg x]).length ≤ 72 := by have := fl2 124 id (M.take j); simp only [id] at this; rw [this, List.length_take]; omega
          refine ⟨_, rfl, _, rfl, d, _, rfl, DPut.k (k := (Sum.inl (sq j : Int) : Key)) h4d (by rw [lkb]; exact small1000 (by omega)), ?_⟩
          rw [dkb_put (hnew j hjl), List.append_assoc, ← tk]
          have s5 : Same H (upd H4 d (.dK (dkb ((rk n i r).flatten ++ M.take (j + 1))))) := same_upd s4 d0
          have h5d : (upd H4 d (.dK (dkb ((rk n i r).flatten ++ M.take (j + 1))))) d = some (.dK (dkb ((rk n i r).flatten ++ M.take (j + 1)))) := upd_same
          have h5l : (upd H4 d (.dK (dkb ((rk n i r).flatten ++ M.take (j + 1))))) l = some (.lst (tvs (drM u (rk n i r)))) := by rw [upd_ne nld]; exact h4l
          revert s5 h5d h5l
          generalize (upd H4 d (.dK (dkb ((rk n i r).flatten ++ M.take (j + 1))))) = H5
          intro s5 h5d h5l
          have su : nx u (sq j) < n := ru.nlt hsn
          refine ⟨_, rfl, _, _, rfl, rfl, by rw [blank_eq, txt_len, txt_len]; show _ + 1 ≤ _; omega, ?_⟩
          rw [blank_eq, txt_app]
          refine ⟨_, rfl, _, rfl, a, _, 1, _, rfl, rfl, SqT.of (s5 _ _ h1), atI_nat (j := 1) rfl, _, rfl, q, _, sq j, _, rfl, rfl, SqT.of (s5 _ _ h3), atI_nat (nv_get (ru.get hsn)), SG, _, sg (nx u (sq j)), rfl, rfl, by rw [SG_len]; omega, SG_get (by omega), ?_⟩
          refine ⟨_, _, rfl, rfl, by rw [txt_len, List.length_append]; show _ + 1 + 1 ≤ _; omega, ?_⟩
          rw [txt_one, txt_app]
          try dsimp only [gName]
          refine ⟨_, rfl, _, _, rfl, rfl, by rw [bar_eq, txt_len, txt_len]; show _ + 1 ≤ _; omega, ?_⟩
          rw [bar_eq, txt_app]
          refine ⟨_, rfl, _, rfl, SG, _, sg (sq j), rfl, rfl, by rw [SG_len]; omega, SG_get (by omega), ?_⟩
          refine ⟨_, _, rfl, rfl, by rw [txt_len, List.length_append]; show _ + 1 + 1 ≤ _; omega, ?_⟩
          rw [txt_one, txt_app]
          try dsimp only [gName]
          refine ⟨_, rfl, a, _, 0, _, rfl, rfl, SqT.of (s5 _ _ h1), atI_nat (j := 0) rfl, _, rfl, p, _, sq j, _, rfl, rfl, SqT.of (s5 _ _ h2), atI_nat (nv_get (rr.get hsn)), ?_⟩
          refine ⟨_, ?_, j + 1, hjl, rfl, ?_, s5, h5l, h5d⟩
          · omega
          · rw [sqn j hjl, tk, List.flatMap_append, List.flatMap_append]
            simp
        · have ej : j = M.length := by omega
          subst ej
          rw [List.take_length] at h4d ⊢
          rw [if_pos sqe]
          refine iteF ?_
          have la : (M.flatMap fun x => [32, sg (nx u x)]).length = 2 * M.length := fl2 32 (nx u) M
          have lb : (M.flatMap fun x => [124, sg x]).length = 2 * M.length := fl2 124 id M
          refine ⟨_, rfl, rfl, _, rfl, ?_⟩
          try rw [empty_eq]
          by_cases hMe : M = []
          · subst hMe
            rw [show decide (V.str (txt (List.flatMap (fun x => [32, sg (nx u x)]) ([] : List Nat))) = V.str (txt [])) = true from decide_eq_true rfl]
            refine iteF ?_
            refine ⟨_, _, _, _, rfl, s4, ?_, ?_⟩
            · rw [hrk.2, if_pos rfl, List.append_nil]; exact h4l
            · rw [hrk.1]; exact h4d
          · have hpos : 0 < M.length := List.length_pos_iff.mpr hMe
            rw [decide_eq_false (fun z => by have := congrArg List.length (txt_inj (V.str.inj z)); rw [la] at this; simp at this; omega)]
            refine iteT ?_
            refine ⟨_, rfl, .inl ⟨rfl, _, SqL.of h4l⟩, _, rfl, _, _, rfl, rfl, by rw [blank_eq, txt_len, txt_len, la]; show _ + 1 ≤ _; omega, ?_⟩
            rw [blank_eq, txt_app]
            refine ⟨_, rfl, _, _, rfl, rfl, by rw [bar_eq, txt_len, txt_len, lb]; show _ + 1 ≤ _; omega, ?_⟩
            rw [bar_eq, txt_app]
            have b1 : (M.flatMap fun x => [32, sg (nx u x)]) ++ [32] = btw 32 (M.map (nx u)) := by rw [← btw_flip, List.flatMap_map]
            have b2 : (M.flatMap fun x => [124, sg x]) ++ [124] = btw 124 M := btw_flip 124 M
            rw [b1, b2]
            refine ⟨by show 2 ≤ sizeLine; decide, fun e he => ?_⟩
            have s5 := same_upd (o := .lst [.str (txt (btw 32 (M.map (nx u)))), .str (txt (btw 124 M))]) (Same.refl H4) he
            have h5e : (upd H4 e (.lst [.str (txt (btw 32 (M.map (nx u)))), .str (txt (btw 124 M))])) e = some (.lst [.str (txt (btw 32 (M.map (nx u)))), .str (txt (btw 124 M))]) := upd_same
            revert s5 h5e
            generalize (upd H4 e (.lst [.str (txt (btw 32 (M.map (nx u)))), .str (txt (btw 124 M))])) = H5
            intro s5 h5e
            refine ⟨l, e, _, _, rfl, rfl, s5 _ _ h4l, h5e, ?_, ?_⟩
            · have := drM_len u (rk n i r)
              have := rk_len n i r
              show (tvs (drM u (rk n i r))).length + 2 ≤ sizeLine
              have tl : (tvs (drM u (rk n i r))).length = (drM u (rk n i r)).length := by simp [tvs]
              omega
            · refine ⟨_, _, _, _, rfl, same_upd (s4.trans s5) hl, ?_, ?_⟩
              · rw [upd_same, hrk.2, if_neg hMe]
                simp [tvs]
              · rw [upd_ne nld.symm, hrk.1]; exact s5 _ _ h4d
      · rintro σ H Q Q' hQ ⟨v, e1, v', e2, a', o, e3, g, b, e4, h⟩
        exact ⟨v, e1, v', e2, a', o, e3, g, b, e4, hQ _ _ h⟩
    · rintro σ H3 ⟨o4, o5, o6, o7, rfl, s3, h3l, h3d⟩
      exact ⟨_, rfl, k H3 l s3 h3l⟩
end
end K1
namespace K1
open PySem L2 Sq
def spPicked (K : PySem.W.Frag) : Sp := fun vs H Q _ => ∃ (p : Addr) (r : List Nat) (c : Int), vs = [.ref p, .int c] ∧ SqL K H p (nv r) ∧ r.length ≤ 36 ∧
  ∀ (H' : Hp) (l : Addr) (t : List Nat), Same H H' → H l = none → H' l = some (.lst (nv t)) → t.Perm r → Q (.ref l) H'
theorem pick_perm {line left r : List Nat} {k y : Nat} (p : (line ++ left).Perm r) (e : left[k]? = some y) : (line ++ [y] ++ left.eraseIdx k).Perm r := by
  refine List.Perm.trans ?_ p
  rw [List.append_assoc]
  refine List.Perm.append_left _ ?_
  have hk : k < left.length := (List.getElem?_eq_some_iff.mp e).1
  have hy : left[k] = y := (List.getElem?_eq_some_iff.mp e).2
  have h1 : left = left.take k ++ left[k] :: left.drop (k + 1) := by
    rw [← List.drop_eq_getElem_cons hk, List.take_append_drop]
  rw [List.eraseIdx_eq_take_drop_succ]
  conv => rhs; rw [h1, hy]
  exact (List.perm_middle (a := y) (l₁ := left.take k) (l₂ := left.drop (k + 1))).symm
section
variable {P : Program} {w : World} {K : PySem.W.Frag} {mg : Str → Option Value} {base : Heap}
abbrev nPk : List Str := ["_law_things", "_law_number", "_law_left", "_law_told"]
theorem scPk : FnScope nPk ["_law_things", "_law_number"] (defScope sPicked) := ⟨rfl, rfl, rfl, by decide +kernel, rfl, by decide +kernel, by decide +kernel⟩
/-- how long the list at the slot's address is left: the rank is kept in the heap -/
theorem ok_picked {f : Addr} {fd : FuncData} (T : Bi mg) (F : Fn K mg "_law_picked" sPicked ["_law_things", "_law_number"] f fd) : FnOk P w K mg base CX0 1 f fd ["_law_things", "_law_number"] (spPicked K) := by
  refine F.F.ok scPk (fun vs H Q E h => ?_) (fun cdv A outer s H vs Q E hr h => ?_)
  · obtain ⟨p, r, c, rfl, _⟩ := h; rfl
  · obtain ⟨p, r, c, rfl, hp, hn, k⟩ := h
    refine ⟨_, pss_cons (ps_set (i := 2) scPk.nd rfl (Or.inl rfl) (pe_callTy call_list_of rfl T.list boot_list (pa_cons (pv 0) pa_nil)))
      (pss_cons (ps_set (i := 3) scPk.nd rfl (Or.inl rfl) (pe_lst pa_nil))
      (pss_cons (ps_set (i := 1) scPk.nd rfl (Or.inl rfl) (pe_op op_add pe_int (pe_op op_mod (pv 1) pe_int)))
      (pss_cons (ps_while PassesOwn.never (pt_cmpR op_gt (pe_callB call_len_seq (by rfl) T.len PySem.boot_len (pa_cons (pv 2) pa_nil)) pe_int (nomark _))
        (pss_cons (ps_set (i := 1) scPk.nd rfl (Or.inl rfl) (pe_op op_mod (pe_op op_mul (pv 1) pe_int) pe_int))
        (pss_one (ps_expr (pe_bm PySem.F.plainAttrs_list PySem.F.slot_list_append PySem.F.type_list_append mt_append (pv 3) (pa_cons
          (pe_bm PySem.F.plainAttrs_list PySem.F.slot_list_pop PySem.F.type_list_pop mt_popAt (pv 2) (pa_cons (pe_op op_mod (pe_op op_fdiv (pv 1) pe_int) (pe_callB call_len_seq (by rfl) T.len PySem.boot_len (pa_cons (pv 2) pa_nil))) pa_nil)) pa_nil))))))
      (pss_one (ps_ret (pv 3)))))), ?_⟩
    refine ⟨_, rfl, p, _, rfl, .inl hp, fun lf hlf => ?_⟩
    refine ⟨Nat.zero_le _, fun ln hln => ?_⟩
    have nlnl : ln ≠ lf := fun e => by rw [e, upd_same] at hln; cases hln
    have g1 : H ln = none := by rwa [upd_ne nlnl] at hln
    refine ⟨_, rfl, _, _, rfl, rfl, (by show (0 : Int) < 2147483646; decide), _, _, rfl, rfl, ?_⟩
    refine while_by (fun σ H2 => ∃ (num : Int) (line left : List Nat), σ = [some (.ref p), some (.int num), some (.ref lf), some (.ref ln)] ∧ Same H H2 ∧ H2 lf = some (.lst (nv left)) ∧ H2 ln = some (.lst (nv line)) ∧ (line ++ left).Perm r)
      (fun _ H2 => match H2 lf with | some (.lst xs) => xs.length | _ => 0) ?_ ?_ ?_
    · exact ⟨_, [], r, rfl, same_upd (same_upd (Same.refl H) hlf) g1, by rw [upd_ne nlnl.symm, upd_same], upd_same, List.Perm.refl _⟩
    · rintro σ H2 ⟨num, line, left, rfl, s2, hlf2, hln2, hP⟩
      have hlen : line.length + left.length = r.length := by have := hP.length_eq; rwa [List.length_append] at this
      refine ⟨_, rfl, lf, _, rfl, .inl (SqL.of hlf2), _, _, rfl, rfl, _, rfl, ?_⟩
      rw [nv_len]
      refine ite2 (fun hgt => ?_) (fun hle => ?_)
      · have hgt : (0 : Int) < (left.length : Int) := of_decide_eq_true hgt
        have hpos : 0 < left.length := by omega
        refine ⟨_, rfl, _, _, rfl, rfl, .inr ⟨by decide, by decide⟩, _, _, rfl, rfl, (by show (0 : Int) < 2147483647; decide), ?_⟩
        refine ⟨_, rfl, .inl ⟨rfl, _, SqL.of hln2⟩, _, rfl, .inl ⟨rfl, _, SqL.of hlf2⟩, _, rfl, _, _, rfl, rfl, ⟨by decide, by decide⟩, _, rfl, lf, _, rfl, .inl (SqL.of hlf2), _, _, rfl, rfl, ?_, ?_⟩
        · rw [nv_len]; omega
        refine popDraw hlf2 hpos (by omega) fun kx y hy => ?_
        have e3 : (upd H2 lf (.lst (nv (left.eraseIdx kx)))) ln = some (.lst (nv line)) := by rw [upd_ne nlnl]; exact hln2
        refine ⟨ln, _, _, rfl, rfl, e3, ?_, ?_⟩
        · rw [nv_len]; exact small1000 (by omega)
        have hk := (List.getElem?_eq_some_iff.mp hy).1
        have e4 : (upd (upd H2 lf (.lst (nv (left.eraseIdx kx)))) ln (.lst (nv line ++ [V.int (y : Int)]))) lf = some (.lst (nv (left.eraseIdx kx))) := by rw [upd_ne nlnl.symm, upd_same]
        refine ⟨⟨_, line ++ [y], left.eraseIdx kx, rfl, same_upd (same_upd s2 hlf) g1, e4, by rw [upd_same, nv_snoc], pick_perm hP hy⟩, ?_⟩
        rw [e4, hlf2]
        show (nv (left.eraseIdx kx)).length < (nv left).length
        rw [nv_len, nv_len, List.length_eraseIdx, if_pos hk]
        omega
      · have hle : ¬ (0 : Int) < (left.length : Int) := fun z => hle (decide_eq_true z)
        have hl0 : left = [] := List.length_eq_zero_iff.mp (by omega)
        subst hl0
        rw [List.append_nil] at hP
        exact ⟨_, rfl, k H2 ln line s2 g1 hln2 hP⟩
    · rintro σ H Q Q' h ⟨v, e1, p, ys, e3, sq, i, j, e4, e5, k, e6, q⟩
      exact ⟨v, e1, p, ys, e3, sq, i, j, e4, e5, k, e6, h _ _ q⟩
end
end K1
namespace Sq
theorem dm {w x y : Nat} (hx : x < w) : (y * w + x) / w = y ∧ (y * w + x) % w = x := by
  have hw : 0 < w := by omega
  constructor
  · rw [Nat.add_comm, Nat.add_mul_div_right _ _ hw, Nat.div_eq_of_lt hx, Nat.zero_add]
  · rw [Nat.add_comm, Nat.add_mul_mod_self_right, Nat.mod_eq_of_lt hx]
def erR (w : Nat) (k : Nat) : Nat := k / w * w + (k + 1) % w
def erU (w h : Nat) (s : Nat → Nat) (k : Nat) : Nat := (k / w + 1) % h * w + (k + s (k / w)) % w
theorem mod_add_inj {w a b s : Nat} (ha : a < w) (hb : b < w) (e : (a + s) % w = (b + s) % w) : a = b := by
  have h1 := Nat.mod_add_div (a + s) w
  have h2 := Nat.mod_add_div (b + s) w
  rw [e] at h1
  rcases Nat.lt_trichotomy ((a + s) / w) ((b + s) / w) with c | c | c
  · have : w * ((a + s) / w) + w ≤ w * ((b + s) / w) := by rw [← Nat.mul_succ]; exact Nat.mul_le_mul_left _ c
    omega
  · rw [c] at h1; omega
  · have : w * ((b + s) / w) + w ≤ w * ((a + s) / w) := by rw [← Nat.mul_succ]; exact Nat.mul_le_mul_left _ c
    omega
theorem kdm {w k j : Nat} (h1 : k / w = j / w) (h2 : k % w = j % w) : k = j := by
  rw [← Nat.div_add_mod k w, ← Nat.div_add_mod j w, h1, h2]
theorem erR_inj {w k j : Nat} (hw : 0 < w) (e : erR w k = erR w j) : k = j := by
  unfold erR at e
  have a := dm (y := k / w) (Nat.mod_lt (k + 1) hw)
  have b := dm (y := j / w) (Nat.mod_lt (j + 1) hw)
  rw [e] at a
  have e1 : k / w = j / w := by rw [← a.1, b.1]
  have e2 : (k + 1) % w = (j + 1) % w := by rw [← a.2, b.2]
  refine kdm e1 (mod_add_inj (s := 1) (Nat.mod_lt _ hw) (Nat.mod_lt _ hw) ?_)
  rw [Nat.mod_add_mod, Nat.mod_add_mod]; exact e2
theorem erU_inj {w h k j : Nat} {s : Nat → Nat} (hw : 0 < w) (hk : k / w < h) (hj : j / w < h) (e : erU w h s k = erU w h s j) : k = j := by
  unfold erU at e
  have a := dm (y := (k / w + 1) % h) (Nat.mod_lt (k + s (k / w)) hw)
  have b := dm (y := (j / w + 1) % h) (Nat.mod_lt (j + s (j / w)) hw)
  rw [e] at a
  have e1 : (k / w + 1) % h = (j / w + 1) % h := by rw [← a.1, b.1]
  have e2 : (k + s (k / w)) % w = (j + s (j / w)) % w := by rw [← a.2, b.2]
  have e3 := mod_add_inj hk hj e1
  rw [← e3] at e2
  refine kdm e3 (mod_add_inj (s := s (k / w)) (Nat.mod_lt _ hw) (Nat.mod_lt _ hw) ?_)
  rw [Nat.mod_add_mod, Nat.mod_add_mod]; exact e2
theorem lt_of_dm {w h y x : Nat} (hy : y < h) (hx : x < w) : y * w + x < w * h := by
  have : (y + 1) * w ≤ h * w := Nat.mul_le_mul_right _ hy
  rw [Nat.succ_mul] at this
  rw [Nat.mul_comm w h]; omega
end Sq
namespace Sq
section
variable {n nb : Nat} {r u rb ub m m' : List Nat}
end
end Sq
namespace Sq
theorem shut_compl {n : Nat} {r M : List Nat} (hr : Row n r) (nd : M.Nodup) (lt : ∀ x ∈ M, x < n) (sh : ∀ x ∈ M, nx r x ∈ M) {x : Nat} (hx : x < n) (hn : x ∉ M) : nx r x ∉ M := fun z => by
  have nd' : (M.map (nx r)).Nodup := List.pairwise_map.mpr (List.Pairwise.imp_of_mem (fun {a b} ha hb hne e => hne (hr.inj (lt a ha) (lt b hb) e)) nd)
  have := full nd' (l' := M) (fun y hy => by obtain ⟨w, hw, rfl⟩ := List.mem_map.mp hy; exact sh w hw) (by simp) _ z
  obtain ⟨w, hw, e⟩ := List.mem_map.mp this
  exact hn (hr.inj (lt w hw) hx e ▸ hw)
end Sq
namespace Sq
end Sq
namespace Sq
theorem among_sheetP {n : Nat} {r u S : List Nat} (hn : n ≤ 36) (hr : Row n r) (hu : Row n u) (h : MetAll n r u 0 S) : Sheet S.length (among r S) (among u S) where
  pos := List.length_pos_of_mem h.hd
  most := by
    have := sub_len S (List.range n) h.nd fun x hx => List.mem_range.mpr (h.lt x hx)
    simp only [List.length_range] at this
    omega
  row := among_row hr h.nd h.lt fun x hx => (h.shut x hx).1
  col := among_row hu h.nd h.lt fun x hx => (h.shut x hx).2
  conn := by
    classical
    intro T h0 hT
    have gi : ∀ {y}, y ∈ S → S[S.idxOf y]? = some y := fun {y} hy => by
      have hl := List.idxOf_lt_length_of_mem hy
      rw [List.getElem?_eq_getElem hl, List.getElem_idxOf hl]
    have mem : ∀ y, y ∈ S.filter (fun y => decide (T (S.idxOf y))) ↔ y ∈ S ∧ T (S.idxOf y) := fun y => by rw [List.mem_filter, decide_eq_true_iff]
    have nd : (S.filter fun y => decide (T (S.idxOf y))).Nodup := h.nd.sublist List.filter_sublist
    have lt : ∀ x ∈ S.filter (fun y => decide (T (S.idxOf y))), x < n := fun x hx => h.lt x ((mem x).mp hx).1
    have cl : ∀ x ∈ S.filter (fun y => decide (T (S.idxOf y))), nx r x ∈ S.filter (fun y => decide (T (S.idxOf y))) ∧ nx u x ∈ S.filter (fun y => decide (T (S.idxOf y))) := fun x hx => by
      obtain ⟨h1, h2⟩ := (mem x).mp hx
      have hs := hT _ (List.idxOf_lt_length_of_mem h1) h2
      rw [among_nx (gi h1), among_nx (gi h1)] at hs
      exact ⟨(mem _).mpr ⟨(h.shut x h1).1, hs.1⟩, (mem _).mpr ⟨(h.shut x h1).2, hs.2⟩⟩
    have hpos : 0 < S.length := List.length_pos_of_mem h.hd
    have s0 : S[0] ∈ S.filter (fun y => decide (T (S.idxOf y))) := (mem _).mpr ⟨List.getElem_mem hpos, by rw [idx_get h.nd (List.getElem?_eq_getElem hpos)]; exact h0⟩
    have z0 : 0 ∈ S.filter (fun y => decide (T (S.idxOf y))) := Classical.byContradiction fun hz => by
      have := h.least (fun x => x ∉ S.filter (fun y => decide (T (S.idxOf y)))) hz (fun x hx hn' => ⟨shut_compl hr nd lt (fun y hy => (cl y hy).1) hx hn', shut_compl hu nd lt (fun y hy => (cl y hy).2) hx hn'⟩) _ (List.getElem_mem hpos)
      exact this s0
    have all := h.least (fun x => x ∈ S.filter (fun y => decide (T (S.idxOf y)))) z0 fun x _ hx => cl x hx
    intro i hi
    have := (mem _).mp (all S[i] (List.getElem_mem hi))
    rw [idx_get h.nd (List.getElem?_eq_getElem hi)] at this
    exact this.2
end Sq
namespace K1
open PySem L2 Sq
def spEr9 (K : PySem.W.Frag) : Sp := fun vs H Q _ => ∃ (sc : Addr) (ns : List Int) (wd hg : Nat), vs = [.ref sc, .int (wd : Int), .int (hg : Int)] ∧ SqL K H sc (ns.map V.int) ∧ 1 ≤ wd ∧ wd ≤ 6 ∧ 1 ≤ hg ∧ hg ≤ 6 ∧ ∀ (H' : Hp) (b : Addr) (m : Nat) (r u : List Nat), Same H H' → ShAt H' b r u → Sheet m r u → Q (.ref b) H'
section
variable {P : Program} {w : World} {K : PySem.W.Frag} {mg : Str → Option Value} {base : Heap}
abbrev n_er9 : List Str := ["_law_script", "_law_wide", "_law_high", "_law_right", "_law_up", "_law_k", "_law_shift"]
theorem sc_er9 : FnScope n_er9 ["_law_script", "_law_wide", "_law_high"] (defScope sLEvenRows) := ⟨rfl, rfl, rfl, by decide +kernel, rfl, by decide +kernel, by decide +kernel⟩
set_option maxHeartbeats 4000000 in
theorem ok_er9 {f fc fm fp fa : Addr} {fd dc dm dp da : FuncData} (T : Bi mg) (F : Fn K mg "_law_even_rows" sLEvenRows ["_law_script", "_law_wide", "_law_high"] f fd) (FC : Fn K mg "_law_cell" sCell ["_law_script", "_law_k"] fc dc) (GC : FnOk P w K mg base CX0 1 fc dc ["_law_script", "_law_k"] (spCell K))
    (FM : Fn K mg "_law_met" sMet ["_law_right", "_law_up", "_law_first"] fm dm) (GM : FnOk P w K mg base CX0 1 fm dm ["_law_right", "_law_up", "_law_first"] (spMet K))
    (FP : Fn K mg "_law_picked" sPicked ["_law_things", "_law_number"] fp dp) (GP : FnOk P w K mg base CX0 1 fp dp ["_law_things", "_law_number"] (spPicked K))
    (FA : Fn K mg "_law_among" sAmong ["_law_right", "_law_up", "_law_met_here"] fa da) (GA : FnOk P w K mg base CX0 1 fa da ["_law_right", "_law_up", "_law_met_here"] (spAmong K)) : FnOk P w K mg base CX0 3 f fd ["_law_script", "_law_wide", "_law_high"] (spEr9 K) := by
  refine F.F.ok sc_er9 (fun vs H Q E h => ?_) (fun cdv A outer s H vs Q E hr h => ?_)
  · obtain ⟨sc, ns, wd, hg, rfl, _⟩ := h; rfl
  · obtain ⟨sc, ns, wd, hg, rfl, hS, w1, w6, h1, h6, k⟩ := h
    have hr1 : Room 1 _ := hr.mono (by decide)
    refine ⟨_, (pss_cons (ps_set (i := 3) sc_er9.nd rfl (Or.inl rfl) (pe_lst pa_nil))
      (pss_cons (ps_set (i := 4) sc_er9.nd rfl (Or.inl rfl) (pe_lst pa_nil))
      (pss_cons (ps_for PassesOwn.never rfl (pi_range1 rfl T.range (pa_cons (pe_op op_mul (pv 1) (pv 2)) pa_nil)) (pg_name (i := 5) sc_er9.nd rfl (Or.inl rfl)) (pss_cons (ps_expr (pe_bm PySem.F.plainAttrs_list PySem.F.slot_list_append PySem.F.type_list_append mt_append (pv 3) (pa_cons (pe_op op_add (pe_op op_mul (pe_op op_fdiv (pv 5) (pv 1)) (pv 1)) (pe_op op_mod (pe_op op_add (pv 5) pe_int) (pv 1))) pa_nil)))
      (pss_cons (ps_set (i := 6) sc_er9.nd rfl (Or.inl rfl) (pe_op op_mod (pe_op op_fdiv (pe_call GC hr1 rfl FC.m FC.F.kp FC.b .nil pass0 (pa_cons (pv 0) (pa_cons pe_int pa_nil))) (pe_op op_add pe_int (pe_op op_fdiv (pv 5) (pv 1)))) (pv 1)))
      (pss_one (ps_expr (pe_bm PySem.F.plainAttrs_list PySem.F.slot_list_append PySem.F.type_list_append mt_append (pv 4) (pa_cons (pe_op op_add (pe_op op_mul (pe_op op_mod (pe_op op_add (pe_op op_fdiv (pv 5) (pv 1)) pe_int) (pv 2)) (pv 1)) (pe_op op_mod (pe_op op_add (pv 5) (pv 6)) (pv 1))) pa_nil)))))))
      (pss_one (ps_ret (pe_call GA hr1 rfl FA.m FA.F.kp FA.b .nil pass0 (pa_cons (pv 3) (pa_cons (pv 4) (pa_cons (pe_call GP hr1 rfl FP.m FP.F.kp FP.b .nil pass0 (pa_cons (pe_call GM hr1 rfl FM.m FM.F.kp FM.b .nil pass0 (pa_cons (pv 3) (pa_cons (pv 4) (pa_cons pe_int pa_nil)))) (pa_cons (pe_call GC hr1 rfl FC.m FC.F.kp FC.b .nil pass0 (pa_cons (pv 0) (pa_cons pe_int pa_nil))) pa_nil))) pa_nil))))))))), ?_⟩
    have hN : wd * hg ≤ 36 := Nat.le_trans (Nat.mul_le_mul w6 h6) (by decide)
    have hN1 : 1 ≤ wd * hg := Nat.mul_pos w1 h1
    refine ⟨Nat.zero_le _, fun lr hlr => ⟨Nat.zero_le _, fun lu hlu => ?_⟩⟩
    have nru : lr ≠ lu := fun e => by rw [← e, upd_same] at hlu; cases hlu
    have hlu0 : H lu = none := by rwa [upd_ne nru.symm] at hlu
    have s0 := same_upd (o := .lst []) (same_upd (o := .lst []) (Same.refl H) hlr) hlu0
    have e0r : (upd (upd H lr (.lst [])) lu (.lst [])) lr = some (.lst (nv [])) := by rw [upd_ne nru, upd_same]; rfl
    have e0u : (upd (upd H lr (.lst [])) lu (.lst [])) lu = some (.lst (nv [])) := by rw [upd_same]; rfl
    revert s0 e0r e0u
    generalize (upd (upd H lr (.lst [])) lu (.lst [])) = H0
    intro s0 e0r e0u
    generalize hz2 : ns.getD (2 : Int).toNat 0 = z2
    have sh : ∀ y : Nat, ∃ t : Nat, z2 / (1 + (y : Int)) % (wd : Int) = (t : Int) := fun y => ⟨(z2 / (1 + (y : Int)) % (wd : Int)).toNat, (Int.toNat_of_nonneg (Int.emod_nonneg _ (by omega))).symm⟩
    have shs : ∀ y : Nat, z2 / (1 + (y : Int)) % (wd : Int) = ((z2 / (1 + (y : Int)) % (wd : Int)).toNat : Int) := fun y => (Int.toNat_of_nonneg (Int.emod_nonneg _ (by omega))).symm
    refine ⟨_, rfl, _, rfl, _, _, rfl, rfl, .inl ⟨by omega, by omega⟩, ((wd * hg : Nat) : Int), rfl, by omega, by omega, ?_⟩
    rw [Int.toNat_natCast]
    refine for_range (n := wd * hg) (fun i σ H3 => ∃ o5 o6, σ = [some (.ref sc), some (.int (wd : Int)), some (.int (hg : Int)), some (.ref lr), some (.ref lu), o5, o6] ∧ Same H H3 ∧ H3 lr = some (.lst (nv ((List.range i).map (erR wd)))) ∧ H3 lu = some (.lst (nv ((List.range i).map (erU wd hg fun y => (z2 / (1 + (y : Int)) % (wd : Int)).toNat))))) ⟨_, _, rfl, s0, e0r, e0u⟩ ?_ ?_
    · rintro i σ H3 hi ⟨o5, o6, rfl, s3, h3r, h3u⟩
      rw [show (0 : Int) + (i : Int) = (i : Int) from by omega]
      have hw0 : (0 : Int) < (wd : Int) := by omega
      have hh0 : (0 : Int) < (hg : Int) := by omega
      have cw : CDiv (i : Int) (wd : Int) := ⟨hw0, by omega⟩
      have bw : ∀ x : Int, CMul x (wd : Int) := fun x => .inr ⟨by omega, by omega⟩
      have rl : ∀ g : Nat → Nat, (nv ((List.range i).map g)).length < sizeLine := fun g => by rw [nv_len, List.length_map, List.length_range]; exact small1000 (by omega)
      have sn : ∀ g : Nat → Nat, nv ((List.range i).map g) ++ [.int (g i : Int)] = nv ((List.range (i + 1)).map g) := fun g => by rw [List.range_succ, List.map_append]; simp [nv]
      refine ⟨_, rfl, .inl ⟨rfl, _, SqL.of h3r⟩, _, rfl, _, rfl, _, _, rfl, rfl, cw, _, rfl, _, _, rfl, rfl, bw _, _, rfl, _, _, rfl, rfl, _, rfl, _, _, rfl, rfl, hw0, _, _, rfl, rfl, lr, _, _, rfl, rfl, h3r, rl _, ?_⟩
      have e4 : (upd H3 lr (.lst (nv ((List.range i).map (erR wd)) ++ [.int (erR wd i : Int)]))) lr = some (.lst (nv ((List.range (i + 1)).map (erR wd)))) := by rw [upd_same, sn]
      have u4 : (upd H3 lr (.lst (nv ((List.range i).map (erR wd)) ++ [.int (erR wd i : Int)]))) lu = some (.lst (nv ((List.range i).map (erU wd hg fun y => (z2 / (1 + (y : Int)) % (wd : Int)).toNat)))) := by rw [upd_ne nru.symm]; exact h3u
      have s4 : Same H (upd H3 lr (.lst (nv ((List.range i).map (erR wd)) ++ [.int (erR wd i : Int)]))) := same_upd s3 hlr
      change tSeq _ _ _ _ (upd H3 lr (.lst (nv ((List.range i).map (erR wd)) ++ [.int (erR wd i : Int)])))
      revert e4 u4 s4
      generalize (upd H3 lr (.lst (nv ((List.range i).map (erR wd)) ++ [.int (erR wd i : Int)]))) = H4
      intro e4 u4 s4
      obtain ⟨yq, hyq⟩ : ∃ y, i / wd = y := ⟨_, rfl⟩
      have hyi : yq ≤ i := hyq ▸ Nat.div_le_self i wd
      refine ⟨_, rfl, sc, ns, 2, rfl, s4.seq hS, by decide, ?_⟩
      rw [hz2]
      refine ⟨_, rfl, _, rfl, _, _, rfl, rfl, cw, _, _, rfl, rfl, _, _, rfl, rfl, ⟨by show (0 : Int) < 1 + ((i / wd : Nat) : Int); rw [hyq]; omega, by show (1 : Int) + ((i / wd : Nat) : Int) < 1073741824; rw [hyq]; omega⟩, _, rfl, _, _, rfl, rfl, hw0, ?_⟩
      have ev := shs (i / wd)
      change gName 6 (V.int (z2 / (1 + ((i / wd : Nat) : Int)) % (wd : Int))) _ _ _
      rw [ev]
      refine ⟨_, rfl, .inl ⟨rfl, _, SqL.of u4⟩, _, rfl, _, rfl, _, _, rfl, rfl, cw, _, _, rfl, rfl, _, rfl, _, _, rfl, rfl, hh0, _, rfl, _, _, rfl, rfl, bw _, _, rfl, _, rfl, _, _, rfl, rfl, _, rfl, _, _, rfl, rfl, hw0, _, _, rfl, rfl, lu, _, _, rfl, rfl, u4, rl _, ?_⟩
      refine ⟨_, _, rfl, same_upd s4 hlu0, by rw [upd_ne nru]; exact e4, ?_⟩
      rw [upd_same]
      exact congrArg (fun x => some (HO.lst x)) (sn (erU wd hg fun y => (z2 / (1 + (y : Int)) % (wd : Int)).toNat))
    · rintro σ H3 ⟨o5, o6, rfl, s3, h3r, h3u⟩
      have gx : ∀ (g : Nat → Nat) {x : Nat}, x < wd * hg → nx ((List.range (wd * hg)).map g) x = g x := fun g {x} hx => by
        show ((List.range (wd * hg)).map g).getD x 0 = _
        rw [List.getD_eq_getElem?_getD, List.getElem?_map, List.getElem?_range hx]; rfl
      have dv : ∀ {x : Nat}, x < wd * hg → x / wd < hg := fun {x} hx => Nat.div_lt_of_lt_mul hx
      have rr : Row (wd * hg) ((List.range (wd * hg)).map (erR wd)) := row_of (by simp) (fun x hx => by rw [gx _ hx]; exact lt_of_dm (dv hx) (Nat.mod_lt _ w1)) fun x y hx hy e => by rw [gx _ hx, gx _ hy] at e; exact erR_inj w1 e
      have ru : Row (wd * hg) ((List.range (wd * hg)).map (erU wd hg fun y => (z2 / (1 + (y : Int)) % (wd : Int)).toNat)) := row_of (by simp) (fun x hx => by rw [gx _ hx]; exact lt_of_dm (Nat.mod_lt _ h1) (Nat.mod_lt _ w1)) fun x y hx hy e => by rw [gx _ hx, gx _ hy] at e; exact erU_inj w1 (dv hx) (dv hy) e
      revert h3r h3u rr ru
      generalize (List.range (wd * hg)).map (erR wd) = R
      generalize (List.range (wd * hg)).map (erU wd hg fun y => (z2 / (1 + (y : Int)) % (wd : Int)).toNat) = U
      intro h3r h3u rr ru
      refine ⟨_, rfl, _, rfl, _, rfl, _, rfl, lr, lu, wd * hg, R, U, 0, rfl, .inl (SqL.of h3r), .inl (SqL.of h3u), rr, ru, hN1, hN, fun H4 l4 M s4 _ hl4 hM => ?_⟩
      have hMl : M.length ≤ 36 := by
        have := sub_len M (List.range (wd * hg)) hM.nd fun x hx => List.mem_range.mpr (hM.lt x hx)
        rw [List.length_range] at this; omega
      refine ⟨_, rfl, sc, ns, 1, rfl, (s3.trans s4).seq hS, by decide, ?_⟩
      refine ⟨l4, M, _, rfl, SqL.of hl4, hMl, fun H5 l5 S s5 _ hl5 pS => ?_⟩
      have hM5 := hM.perm pS
      have s35 := s4.trans s5
      refine ⟨lr, lu, l5, wd * hg, R, U, S, rfl, .inl (SqL.of (s35 _ _ h3r)), .inl (SqL.of (s35 _ _ h3u)), SqL.of hl5, rr, ru, hN, hM5.nd, fun x hx => ⟨hM5.lt x hx, (hM5.shut x hx).1, (hM5.shut x hx).2⟩, fun H6 b s6 hb => ?_⟩
      exact k H6 b S.length _ _ (s3.trans (s35.trans s6)) hb (among_sheetP hN rr ru hM5)
end
end K1
namespace L2
open PySem PySem.Spec PyProof.Rows
section
variable {X : Cx}
end
section
variable {P : Program} {w : World} {K : PySem.W.Frag} {mg : Str → Option Value} {base : Heap}
end
theorem ite_rest' {c : Prop} [Decidable c] {A : Prop} {N : St → Hp → Prop} {σ : St} {H : Hp} (Pv : St → Hp → Prop) (h0 : ¬ c → Pv σ H) (hr : ∀ σ H, Pv σ H → N σ H) (hA : (∀ σ H, Pv σ H → N σ H) → c → A) : if c then A else N σ H := by
  by_cases h : c
  · rw [if_pos h]; exact hA hr h
  · rw [if_neg h]; exact hr _ _ (h0 h)
end L2
namespace K1
open PySem L2 Sq
theorem kit_str_str9 (K : PySem.W.Frag) : PySem.W.kitOne K (.type "str") (.type "str") = some true := by kernel_rfl
theorem boot_str9 : bootBuiltins "str" = some (.type "str") := by decide +kernel
abbrev teI9 (K : PySem.W.Frag) : TE := tCB (fun xs H Q => ∃ x c t b, xs = [x, .ty c] ∧ TyOf K H x t ∧ PySem.W.kitOne K t (.type c) = some b ∧ Q (.bl b) H) (tCons (tVar 0) (tCons (tC (.ty "str")) tNil))
theorem compStr9 {K : PySem.W.Frag} {Hc : Hp} {p : Addr} {zs : List (List Nat)} {Q : VK} {σ : St} (hj : σ[5]? = some (some (.ref p))) (hp : Hc p = some (.lst (tvs zs))) (hn : zs.length ≤ 1000)
    (k : ∀ (H' : Hp) (d : Addr), Same Hc H' → H' d = some (.lst ((zs.map fun _ => true).map V.bl)) → Q (.ref d) H') : tComp (iList K (tVar 5)) 1 [] (gName 0) (teI9 K) σ Hc Q := by
  refine ⟨_, hj, p, rfl, ⟨_, SqL.of hp⟩, fun d hd => ?_⟩
  refine comp_by (Q := fun d H' => Q (.ref d) H') zs.length ((zs.map fun _ => true).map V.bl) (by simp) (fun i σ H3 => ∃ o, σ = [o] ∧ Same Hc H3) ⟨none, rfl, same_upd (Same.refl _) hd⟩ ?_ ?_
  · rintro i σ H3 hi ⟨o, rfl, s3⟩ hd3
    have hp3 := SqL.of (K := K) (s3 _ _ hp)
    have hg : (tvs zs)[i]? = some (.str (txt zs[i])) := by simp [tvs, hi]
    refine ⟨⟨_, _, hp3, hg⟩, fun y H4 ⟨e, hy⟩ => ?_⟩
    subst e
    have hy := hy _ hp3
    rw [hg] at hy
    cases hy
    exact ⟨_, rfl, _, _, _, _, rfl, .str _, kit_str_str9 K, cpost hi hn hd3 (by simp [hi]) ⟨_, rfl, same_upd s3 hd⟩⟩
  · rintro σ H3 ⟨o, rfl, s3⟩ hd3
    exact ⟨⟨_, SqL.of (s3 _ _ hp), by simp [tvs]⟩, k H3 d s3 hd3⟩
def spLaw (K : PySem.W.Frag) : Sp := fun vs H Q _ => ∃ (a : Addr) (ns : List Int), vs = [.ref a] ∧ SqL K H a (ns.map V.int) ∧ ∀ H' : Hp, Q (.bl true) H'
section
variable {P : Program} {w : World} {K : PySem.W.Frag} {mg : Str → Option Value} {base : Heap}
theorem scLSigns : FnScope [] [] (defScope sLSigns) := ⟨rfl, rfl, rfl, by decide +kernel, rfl, by decide +kernel, by decide +kernel⟩
theorem ok_lsigns {f : Addr} {fd : FuncData} (F : Fn K mg "_law_signs" sLSigns [] f fd) : FnOk P w K mg base CX0 1 f fd [] spLSigns := by
  refine F.F.ok scLSigns (fun vs H Q E h => ?_) (fun cdv A outer s H vs Q E hr h => ?_)
  · obtain ⟨rfl, _⟩ := h; rfl
  · obtain ⟨rfl, k⟩ := h
    exact ⟨_, pss_one (ps_ret pe_str), k⟩
abbrev n_law : List Str := ["_law_script", "_law_first", "_law_sheet_here", "_law_due", "_law_turn", "_law_told", "_law_found"]
theorem sc_law : FnScope n_law ["_law_script"] (defScope sLaw) := ⟨rfl, rfl, rfl, by decide +kernel, rfl, by decide +kernel, by decide +kernel⟩
theorem nd_law : (["_law_text"] : List Str).Nodup := by decide +kernel
set_option maxHeartbeats 4000000 in
theorem ok_law {f fc fs fe_ fx fw fn fi : Addr} {fd dc ds de_ dx dw dn di : FuncData} (T : Bi mg) (T_str : mg "str" = none) (F : Fn K mg "law" sLaw ["_law_script"] f fd) (FC : Fn K mg "_law_cell" sCell ["_law_script", "_law_k"] fc dc) (GC : FnOk P w K mg base CX0 1 fc dc ["_law_script", "_law_k"] (spCell K))
    (FS : Fn K mg "_law_sheet" sSheet ["_law_script", "_law_at", "_law_many"] fs ds) (GS : FnOk P w K mg base CX0 3 fs ds ["_law_script", "_law_at", "_law_many"] (spSheet2 K))
    (FE_ : Fn K mg "_law_even_rows" sLEvenRows ["_law_script", "_law_wide", "_law_high"] fe_ de_) (GE : FnOk P w K mg base CX0 3 fe_ de_ ["_law_script", "_law_wide", "_law_high"] (spEr9 K))
    (FX : Fn K mg "_law_drawn" sLDrawn ["_law_sheet_here"] fx dx) (GX : FnOk P w K mg base CX0 2 fx dx ["_law_sheet_here"] (spLd9 K))
    (FW : Fn K mg "drawn" sDrawn ["sheet"] fw dw) (GW : FnOk P w K mg base CX0 3 fw dw ["sheet"] (spDrw K))
    (FN : Fn K mg "seen" sSeen ["rows"] fn dn) (GN : FnOk P w K mg base CX0 7 fn dn ["rows"] (spSe9 K))
    (FI : Fn K mg "_law_is_sheet" sIsSheet ["_law_found", "_law_many"] fi di) (GI : FnOk P w K mg base CX0 2 fi di ["_law_found", "_law_many"] spIsSheet) : FnOk P w K mg base CX0 8 f fd ["_law_script"] (spLaw K) := by
  refine F.F.ok sc_law (fun vs H Q E h => ?_) (fun cdv A outer s H vs Q E hr h => ?_)
  · obtain ⟨a, ns, rfl, _⟩ := h; rfl
  · obtain ⟨sc, ns, rfl, hS, k⟩ := h
    have hr1 : Room 1 _ := hr.mono (by decide)
    have hr2 : Room 2 _ := hr.mono (by decide)
    have hr3 : Room 3 _ := hr.mono (by decide)
    have hr7 : Room 7 _ := hr.mono (by decide)
    refine ⟨_, (pss_cons (ps_set (i := 1) sc_law.nd rfl (Or.inl rfl) (pe_call GC hr1 rfl FC.m FC.F.kp FC.b .nil pass0 (pa_cons (pv 0) (pa_cons pe_int pa_nil))))
      (pss_cons (ps_set (i := 2) sc_law.nd rfl (Or.inl rfl) (pe_call GS hr3 rfl FS.m FS.F.kp FS.b .nil pass0 (pa_cons (pv 0) (pa_cons pe_int (pa_cons (pe_op op_add pe_int (pe_op op_mod (pe_op op_fdiv (pv 1) pe_int) pe_int)) pa_nil)))))
      (pss_cons (ps_if (pt_cmpR op_eq (pe_op op_mod (pv 1) pe_int) pe_int (nomark _)) (pss_one (ps_set (i := 2) sc_law.nd rfl (Or.inl rfl) (pe_call GE hr3 rfl FE_.m FE_.F.kp FE_.b .nil pass0 (pa_cons (pv 0) (pa_cons (pe_op op_add pe_int (pe_op op_mod (pe_op op_fdiv (pv 1) pe_int) pe_int)) (pa_cons (pe_op op_add pe_int (pe_op op_mod (pe_op op_fdiv (pv 1) pe_int) pe_int)) pa_nil)))))) pss_nil)
      (pss_cons (ps_set (i := 3) sc_law.nd rfl (Or.inl rfl) (pe_call GX hr2 rfl FX.m FX.F.kp FX.b .nil pass0 (pa_cons (pv 2) pa_nil)))
      (pss_cons (ps_for PassesOwn.never rfl (pi_range1 rfl T.range (pa_cons pe_int pa_nil)) (pg_name (i := 4) sc_law.nd rfl (Or.inl rfl)) (pss_cons (ps_set (i := 5) sc_law.nd rfl (Or.inl rfl) (pe_call GW hr3 rfl FW.m FW.F.kp FW.b .nil pass0 (pa_cons (pv 2) pa_nil)))
      (pss_cons (ps_if (PW.pt (pw_or (pt_not (pt_val (pe_callB call_isinst rfl T.isin boot_isin (pa_cons (pv 5) (pa_cons (pe_bltn (v := .ty "list") rfl T.list boot_list rfl) pa_nil))))) (pw_or (pt_not (pt_val (pe_callB (call_all_bools rfl) rfl T.all boot_all (pa_cons (pe_comp (N := n_law) (names := (defScope sLaw).names) (N' := ["_law_text"]) (k := 1) (pull := []) (te := teI9 K) rfl ⟨by rfl, by decide +kernel, by decide +kernel, by rfl, by decide +kernel, by decide +kernel⟩ rfl rfl (pi_list (pv 5)) (fun _ _ _ _ _ _ => pg_name (i := 0) nd_law rfl (Or.inl rfl)) (fun _ _ _ _ _ _ => pe_callB call_isinst rfl T.isin boot_isin (pa_cons (pv 0) (pa_cons (pe_bltn (v := .ty "str") rfl T_str boot_str9 rfl) pa_nil)))) pa_nil)))) (pw_or1 (pt_cmpR op_neD (pv 5) (pv 3) (nomark _)))))) (pss_one (ps_ret pe_bl)) pss_nil)
      (pss_cons (ps_set (i := 6) sc_law.nd rfl (Or.inl rfl) (pe_call GN hr7 rfl FN.m FN.F.kp FN.b .nil pass0 (pa_cons (pv 5) pa_nil)))
      (pss_cons (ps_if (PW.pt (pw_or (pt_cmpR op_neD (pv 5) (pv 3) (nomark _)) (pw_or (pt_not (pt_val (pe_call GI hr2 rfl FI.m FI.F.kp FI.b .nil pass0 (pa_cons (pv 6) (pa_cons (pe_callB call_len_seq rfl T.len PySem.boot_len (pa_cons (pe_ix ix_tup (pv 2) pe_int (fun _ _ => rfl)) pa_nil)) pa_nil))))) (pw_or1 (pt_cmpR op_neD (pv 6) (pv 2) (nomark _)))))) (pss_one (ps_ret pe_bl)) pss_nil)
      (pss_one (ps_expr (pe_bm PySem.F.plainAttrs_list PySem.F.slot_list_append PySem.F.type_list_append mt_append (pv 5) (pa_cons pe_str pa_nil)))))))))
      (pss_one (ps_ret pe_bl))))))), ?_⟩
    refine ⟨_, rfl, sc, ns, 0, rfl, hS, by decide, ?_⟩
    generalize ns.getD (0 : Int).toNat 0 = z0
    obtain ⟨n0, hn0⟩ : ∃ n : Nat, 1 + z0 / 2 % 36 = (n : Int) := ⟨(1 + z0 / 2 % 36).toNat, by omega⟩
    obtain ⟨w0, hw0⟩ : ∃ n : Nat, 1 + z0 / 2 % 6 = (n : Int) := ⟨(1 + z0 / 2 % 6).toNat, by omega⟩
    obtain ⟨h0, hh0⟩ : ∃ n : Nat, 1 + z0 / 12 % 6 = (n : Int) := ⟨(1 + z0 / 12 % 6).toNat, by omega⟩
    refine ⟨_, rfl, _, rfl, _, _, rfl, rfl, ⟨by decide, by decide⟩, _, _, rfl, rfl, (by show (0 : Int) < 36; decide), _, _, rfl, rfl, sc, ns, 1, n0, by rw [← hn0]; rfl, hS, by decide, by omega, by omega, fun H1 b nb rb ub s1 hb hSb hnb => ?_⟩
    try dsimp only
    refine ⟨_, rfl, _, _, rfl, rfl, (by show (0 : Int) < 2; decide), rfl, _, rfl, ?_⟩
    refine ite_rest' (fun σ H5 => ∃ (a : Addr) (n : Nat) (r u : List Nat), σ = [some (.ref sc), some (.int z0), some (.ref a), none, none, none, none] ∧ Same H H5 ∧ ShAt H5 a r u ∧ Sheet n r u) (fun _ => ⟨b, nb, rb, ub, rfl, s1, hb, hSb⟩) ?_ ?_
    rotate_left 1
    · intro rest _
      refine ⟨_, rfl, _, rfl, _, _, rfl, rfl, ⟨by decide, by decide⟩, _, _, rfl, rfl, (by show (0 : Int) < 6; decide), _, _, rfl, rfl, _, rfl, _, _, rfl, rfl, ⟨by decide, by decide⟩, _, _, rfl, rfl, (by show (0 : Int) < 6; decide), _, _, rfl, rfl, sc, ns, w0, h0, by rw [← hw0, ← hh0]; rfl, s1.seq hS, by omega, by omega, by omega, by omega, fun H2 b2 m r u s2 hb2 hSh => ?_⟩
      exact rest _ _ ⟨b2, m, r, u, rfl, s1.trans s2, hb2, hSh⟩
    rintro σ H2 ⟨a, n, r, u, rfl, s2, hsh, hSh⟩
    have rr := hSh.row
    have ru := hSh.col
    have hn := hSh.most
    refine ⟨_, rfl, a, n, r, u, rfl, hsh, rr, ru, hn, fun H3 ld s3 hld => ?_⟩
    have hsh3 := hsh.same s3
    have small : ∀ M ∈ rounds n r, ∀ x ∈ M, x < 36 ∧ nx u x < 36 := fun M hM x hx => by
      have := (rounds_of rr hM).2.2.1 x hx
      exact ⟨by omega, Nat.lt_of_lt_of_le (ru.nlt this) hn⟩
    have zl : (drM u (rounds n r)).length ≤ 72 := by
      rw [drM_len]
      unfold rounds
      rw [List.length_map]
      have := List.length_filter_le (lead n r) (List.range n)
      rw [List.length_range] at this; omega
    have lay := tvs_lay (zs := drM u (rounds n r)) fun z hz => drM_ok small hz
    try dsimp only
    refine ⟨2, rfl, by decide, by decide, ?_⟩
    refine for_range (n := 2) (fun i σ H9 => ∃ o4 o5 o6, σ = [some (.ref sc), some (.int z0), some (.ref a), some (.ref ld), o4, o5, o6] ∧ Same H3 H9) ⟨_, _, _, rfl, Same.refl _⟩ ?_ ?_
    · rintro i σ H4 hi ⟨o4, o5, o6, rfl, s4⟩
      have hsh4 := hsh3.same s4
      have hld4 := s4 _ _ hld
      refine ⟨_, rfl, a, n, r, u, rfl, hsh4, rr, ru, hn, fun H5 lt s5 hlt0 hlt => ?_⟩
      try dsimp only
      refine ⟨_, rfl, _, _, _, _, rfl, .lst hlt, kit_list_list K, _, rfl, ?_⟩
      refine iteF ?_
      dsimp only [tOr, tNot, tB, tCB, tCons, tNil]
      refine compStr9 (K := K) (zs := drM u (rounds n r)) rfl hlt (by omega) fun H6 d6 s6 hd6 => ?_
      refine ⟨d6, _, rfl, SqL.of hd6, ?_⟩
      rw [show (((drM u (rounds n r)).map fun _ => true).all id) = true by simp]
      refine ⟨_, rfl, ?_⟩
      refine iteF ?_
      have s56 := s5.trans s6
      have eqD : ∀ {H' : Hp}, Same H6 H' → Dt K H' (.ref lt) (.list ((drM u (rounds n r)).map fun z => .str (txt z))) ∧ Dt K H' (.ref ld) (.list ((drM u (rounds n r)).map fun z => .str (txt z))) := fun {H'} s' => ⟨.lst (SqL.of (s' _ _ (s6 _ _ hlt))) (tvs_dt _), .lst (SqL.of (s' _ _ (s56 _ _ hld4))) (tvs_dt _)⟩
      obtain ⟨d1, d2⟩ := eqD (Same.refl H6)
      refine ⟨_, rfl, _, rfl, _, _, d1, d2, lay, lay, unitsD hr (tvs_dep _), _, rfl, ?_⟩
      show if (!PyData.eqv _ _) = true then _ else _
      rw [tvs_eqv]
      refine iteF ?_
      refine ⟨_, rfl, lt, n, r, u, rfl, s6 _ _ hlt, hSh, fun H7 f s7 hf => ?_⟩
      try dsimp only
      obtain ⟨d3, d4⟩ := eqD s7
      refine ⟨_, rfl, _, rfl, _, _, d3, d4, lay, lay, unitsD hr (tvs_dep _), _, rfl, ?_⟩
      show if (!PyData.eqv _ _) = true then _ else _
      rw [tvs_eqv]
      refine iteF ?_
      have hsh7 := hsh4.same (s56.trans s7)
      obtain ⟨p, q, h1, h2, h3⟩ := id hsh7
      refine ⟨_, rfl, _, rfl, a, _, 0, _, rfl, rfl, SqT.of h1, atI_nat (j := 0) rfl, p, _, rfl, .inr (SqT.of h2), f, n, r, u, by rw [nv_len, rr.len]; rfl, hf, hSh, fun H8 s8 => ?_⟩
      refine ⟨_, rfl, ?_⟩
      refine iteF ?_
      refine ⟨_, rfl, _, rfl, _, _, (hf.same s8).dt, (hsh7.same s8).dt, sd_lay _ _, sd_lay _ _, unitsD hr (sd_depth _ _), _, rfl, ?_⟩
      show if (!PyData.eqv (sd r u) (sd r u)) = true then _ else _
      rw [sd_eqv, decide_eq_true rfl, decide_eq_true rfl]
      refine iteF ?_
      have s48 := s56.trans (s7.trans s8)
      refine ⟨_, rfl, .inl ⟨rfl, _, SqL.of (s8 _ _ (s7 _ _ (s6 _ _ hlt)))⟩, lt, _, _, rfl, rfl, s8 _ _ (s7 _ _ (s6 _ _ hlt)), by show (tvs _).length < _; rw [show (tvs (drM u (rounds n r))).length = (drM u (rounds n r)).length by simp [tvs]]; exact small1000 (by omega), ?_⟩
      exact ⟨_, _, _, rfl, s4.trans (same_upd s48 hlt0)⟩
    · rintro σ H4 ⟨o4, o5, o6, rfl, _⟩
      exact k _
end
end K1
namespace K1
open PySem L2 Sq
/-- a def as the top has left it -/
def Raw (K : PySem.W.Frag) (x : Str) (st : Stmt) : Prop := ∃ f fd, Fun K x x st f fd ∧ PySem.W.nsIn K mainGlobals x = some (some (.ref f)) ∧ ∃ kV doc pm an cdv ct, fd = PySem.W.fnOf x x (defArgs st) (defBody st) (defScope st) .none kV doc pm an cdv ct
theorem raw_mk {K : PySem.W.Frag} {x : Str} {st : Stmt} {f : Addr} {oc : Value} {od an : Option Addr} {osl : Array (Option Value)} {kV doc pm cdv ct : Value} (a : PySem.W.nsIn K mainGlobals x = some (some (.ref f)))
    (l : K.lookup f = some ⟨oc, od, .func (PySem.W.fnOf x x (defArgs st) (defBody st) (defScope st) .none kV doc pm an cdv ct), osl⟩) (c : PySem.W.codeIn K cdv x = true) (k : PySem.W.keepIn K (.ref f) = true) : Raw K x st :=
  ⟨f, _, fun_mk l c k, a, kV, doc, pm, an, cdv, ct, rfl⟩
theorem Raw.fn {K : PySem.W.Frag} {h : Heap} {mg : Str → Option Value} {x : Str} {st : Stmt} {ps : List Str} (X : K.In h) (G : h.Ns mainGlobals mg) (R : Raw K x st)
    (b : ∀ (kV doc pm : Value) (an : Option Addr) (cdv ct : Value) (us : List Value), us.length = ps.length → bindArgs (PySem.W.fnOf x x (defArgs st) (defBody st) (defScope st) .none kV doc pm an cdv ct) ⟨us, []⟩ = pure (ps.zip us)) : ∃ f fd, Fn K mg x st ps f fd := by
  obtain ⟨f, fd, F, a, _⟩ := R
  exact ⟨f, fd, F, F.binds b, PySem.W.mg_of X G a⟩
set_option maxHeartbeats 0 in
theorem all_mk {l : PySem.W.OpenLaw} {w : World} {K : PySem.W.Frag} {h : Heap} {mg : Str → Option Value} {fa : Addr} {t_MOST_SQUARES : Tok} {t_SIGNS : Tok} (X : K.In h) (G : h.Ns mainGlobals mg) (hfa : mg "law" = some (.ref fa))
    (R_sheet_of : Raw K "sheet_of" sSheetOf)
    (R_size : Raw K "size" sSize)
    (R_back_row : Raw K "back_row" sBackRow)
    (R_checked_rows : Raw K "checked_rows" sChecked)
    (R_has_each_once : Raw K "has_each_once" sEach)
    (R_is_whole : Raw K "is_whole" sIsWhole)
    (R_is_square : Raw K "is_square" sIsSq)
    (R_groups_of : Raw K "groups_of" sGroups)
    (R_step_rows : Raw K "step_rows" sSteps)
    (R_paths_from : Raw K "paths_from" sPaths)
    (R_cycle_from : Raw K "cycle_from" sCycleFrom)
    (R_cycles : Raw K "cycles" sCycles)
    (R_drawn : Raw K "drawn" sDrawn)
    (R_seen : Raw K "seen" sSeen)
    (R_between : Raw K "between" sBetween)
    (R_squares_in : Raw K "squares_in" sSquaresIn)
    (R_sheet_told : Raw K "sheet_told" sSheetTold)
    (R_in_order : Raw K "in_order" sInOrder)
    (R__law_cell : Raw K "_law_cell" sCell)
    (R__law_whole : Raw K "_law_whole" sWhole)
    (R__law_lines : Raw K "_law_lines" sLines)
    (R__law_met : Raw K "_law_met" sMet)
    (R__law_among : Raw K "_law_among" sAmong)
    (R__law_sheet : Raw K "_law_sheet" sSheet)
    (R__law_picked : Raw K "_law_picked" sPicked)
    (R__law_is_sheet : Raw K "_law_is_sheet" sIsSheet)
    (R__law_signs : Raw K "_law_signs" sLSigns)
    (R__law_drawn : Raw K "_law_drawn" sLDrawn)
    (R__law_even_rows : Raw K "_law_even_rows" sLEvenRows)
    (R_law : Raw K "law" sLaw)
    (c_MOST_SQUARES : PySem.W.nsIn K mainGlobals "MOST_SQUARES" = some (some (.int 36 t_MOST_SQUARES)))
    (c_SIGNS : PySem.W.nsIn K mainGlobals "SIGNS" = some (some (.str (Str.ofString "0123456789abcdefghijklmnopqrstuvwxyz") t_SIGNS)))
    (z_len : PySem.W.nsIn K mainGlobals "len" = some none)
    (z_range : PySem.W.nsIn K mainGlobals "range" = some none)
    (z_list : PySem.W.nsIn K mainGlobals "list" = some none)
    (z_tuple : PySem.W.nsIn K mainGlobals "tuple" = some none)
    (z_isinstance : PySem.W.nsIn K mainGlobals "isinstance" = some none)
    (z_int : PySem.W.nsIn K mainGlobals "int" = some none)
    (z_bool : PySem.W.nsIn K mainGlobals "bool" = some none)
    (z_all : PySem.W.nsIn K mainGlobals "all" = some none)
    (z_set : PySem.W.nsIn K mainGlobals "set" = some none)
    (z_sorted : PySem.W.nsIn K mainGlobals "sorted" = some none)
    (z_enumerate : PySem.W.nsIn K mainGlobals "enumerate" = some none)
    (z_min : PySem.W.nsIn K mainGlobals "min" = some none)
    (z_zip : PySem.W.nsIn K mainGlobals "zip" = some none)
    (z_str : PySem.W.nsIn K mainGlobals "str" = some none)
    : ∃ fd : FuncData, (∀ (s : Shared) (v : Value), BindsTo s fd ⟨[v], []⟩ [("_law_script", v)]) ∧ ∀ base : Heap, K.In base → base.Ns mainGlobals mg → FnOk l.prog w K mg base CX0 8 fa fd ["_law_script"] (spLaw K) := by
  have T : Bi mg := ⟨PySem.W.mg_none_of X G z_len, PySem.W.mg_none_of X G z_range, PySem.W.mg_none_of X G z_list, PySem.W.mg_none_of X G z_tuple, PySem.W.mg_none_of X G z_isinstance, PySem.W.mg_none_of X G z_int, PySem.W.mg_none_of X G z_bool, PySem.W.mg_none_of X G z_all, PySem.W.mg_none_of X G z_set, PySem.W.mg_none_of X G z_sorted, PySem.W.mg_none_of X G z_enumerate⟩
  have T_min : mg "min" = none := PySem.W.mg_none_of X G z_min
  have T_zip : mg "zip" = none := PySem.W.mg_none_of X G z_zip
  have T_str : mg "str" = none := PySem.W.mg_none_of X G z_str
  have C_MOST_SQUARES := PySem.W.mg_of X G c_MOST_SQUARES
  have C_SIGNS := PySem.W.mg_of X G c_SIGNS
  obtain ⟨f_sheet_of, d_sheet_of, F_sheet_of⟩ := R_sheet_of.fn (ps := ["right", "up"]) X G fun _ _ _ _ _ _ us hl => match us, hl with | [_, _], _ => rfl
  obtain ⟨f_size, d_size, F_size⟩ := R_size.fn (ps := ["sheet"]) X G fun _ _ _ _ _ _ us hl => match us, hl with | [_], _ => rfl
  obtain ⟨f_back_row, d_back_row, F_back_row⟩ := R_back_row.fn (ps := ["row"]) X G fun _ _ _ _ _ _ us hl => match us, hl with | [_], _ => rfl
  obtain ⟨f_checked_rows, d_checked_rows, F_checked_rows⟩ := R_checked_rows.fn (ps := ["right", "up"]) X G fun _ _ _ _ _ _ us hl => match us, hl with | [_, _], _ => rfl
  obtain ⟨f_has_each_once, d_has_each_once, F_has_each_once⟩ := R_has_each_once.fn (ps := ["row"]) X G fun _ _ _ _ _ _ us hl => match us, hl with | [_], _ => rfl
  obtain ⟨f_is_whole, d_is_whole, F_is_whole⟩ := R_is_whole.fn (ps := ["thing"]) X G fun _ _ _ _ _ _ us hl => match us, hl with | [_], _ => rfl
  obtain ⟨f_is_square, d_is_square, F_is_square⟩ := R_is_square.fn (ps := ["thing", "squares"]) X G fun _ _ _ _ _ _ us hl => match us, hl with | [_, _], _ => rfl
  obtain ⟨f_groups_of, d_groups_of, F_groups_of⟩ := R_groups_of.fn (ps := ["rows"]) X G fun _ _ _ _ _ _ us hl => match us, hl with | [_], _ => rfl
  obtain ⟨f_step_rows, d_step_rows, F_step_rows⟩ := R_step_rows.fn (ps := ["rows"]) X G fun _ _ _ _ _ _ us hl => match us, hl with | [_], _ => rfl
  obtain ⟨f_paths_from, d_paths_from, F_paths_from⟩ := R_paths_from.fn (ps := ["rows", "first"]) X G fun _ _ _ _ _ _ us hl => match us, hl with | [_, _], _ => rfl
  obtain ⟨f_cycle_from, d_cycle_from, F_cycle_from⟩ := R_cycle_from.fn (ps := ["row", "first"]) X G fun _ _ _ _ _ _ us hl => match us, hl with | [_, _], _ => rfl
  obtain ⟨f_cycles, d_cycles, F_cycles⟩ := R_cycles.fn (ps := ["row"]) X G fun _ _ _ _ _ _ us hl => match us, hl with | [_], _ => rfl
  obtain ⟨f_drawn, d_drawn, F_drawn⟩ := R_drawn.fn (ps := ["sheet"]) X G fun _ _ _ _ _ _ us hl => match us, hl with | [_], _ => rfl
  obtain ⟨f_seen, d_seen, F_seen⟩ := R_seen.fn (ps := ["rows"]) X G fun _ _ _ _ _ _ us hl => match us, hl with | [_], _ => rfl
  obtain ⟨f_between, d_between, F_between⟩ := R_between.fn (ps := ["border", "squares"]) X G fun _ _ _ _ _ _ us hl => match us, hl with | [_, _], _ => rfl
  obtain ⟨f_squares_in, d_squares_in, F_squares_in⟩ := R_squares_in.fn (ps := ["text"]) X G fun _ _ _ _ _ _ us hl => match us, hl with | [_], _ => rfl
  obtain ⟨f_sheet_told, d_sheet_told, F_sheet_told⟩ := R_sheet_told.fn (ps := ["pairs"]) X G fun _ _ _ _ _ _ us hl => match us, hl with | [_], _ => rfl
  obtain ⟨f_in_order, d_in_order, F_in_order⟩ := R_in_order.fn (ps := ["told"]) X G fun _ _ _ _ _ _ us hl => match us, hl with | [_], _ => rfl
  obtain ⟨f__law_cell, d__law_cell, F__law_cell⟩ := R__law_cell.fn (ps := ["_law_script", "_law_k"]) X G fun _ _ _ _ _ _ us hl => match us, hl with | [_, _], _ => rfl
  obtain ⟨f__law_whole, d__law_whole, F__law_whole⟩ := R__law_whole.fn (ps := ["_law_found"]) X G fun _ _ _ _ _ _ us hl => match us, hl with | [_], _ => rfl
  obtain ⟨f__law_lines, d__law_lines, F__law_lines⟩ := R__law_lines.fn (ps := ["_law_script", "_law_at", "_law_many"]) X G fun _ _ _ _ _ _ us hl => match us, hl with | [_, _, _], _ => rfl
  obtain ⟨f__law_met, d__law_met, F__law_met⟩ := R__law_met.fn (ps := ["_law_right", "_law_up", "_law_first"]) X G fun _ _ _ _ _ _ us hl => match us, hl with | [_, _, _], _ => rfl
  obtain ⟨f__law_among, d__law_among, F__law_among⟩ := R__law_among.fn (ps := ["_law_right", "_law_up", "_law_met_here"]) X G fun _ _ _ _ _ _ us hl => match us, hl with | [_, _, _], _ => rfl
  obtain ⟨f__law_sheet, d__law_sheet, F__law_sheet⟩ := R__law_sheet.fn (ps := ["_law_script", "_law_at", "_law_many"]) X G fun _ _ _ _ _ _ us hl => match us, hl with | [_, _, _], _ => rfl
  obtain ⟨f__law_picked, d__law_picked, F__law_picked⟩ := R__law_picked.fn (ps := ["_law_things", "_law_number"]) X G fun _ _ _ _ _ _ us hl => match us, hl with | [_, _], _ => rfl
  obtain ⟨f__law_is_sheet, d__law_is_sheet, F__law_is_sheet⟩ := R__law_is_sheet.fn (ps := ["_law_found", "_law_many"]) X G fun _ _ _ _ _ _ us hl => match us, hl with | [_, _], _ => rfl
  obtain ⟨f__law_signs, d__law_signs, F__law_signs⟩ := R__law_signs.fn (ps := []) X G fun _ _ _ _ _ _ us hl => match us, hl with | [], _ => rfl
  obtain ⟨f__law_drawn, d__law_drawn, F__law_drawn⟩ := R__law_drawn.fn (ps := ["_law_sheet_here"]) X G fun _ _ _ _ _ _ us hl => match us, hl with | [_], _ => rfl
  obtain ⟨f__law_even_rows, d__law_even_rows, F__law_even_rows⟩ := R__law_even_rows.fn (ps := ["_law_script", "_law_wide", "_law_high"]) X G fun _ _ _ _ _ _ us hl => match us, hl with | [_, _, _], _ => rfl
  obtain ⟨fL, dL, FL, aL, kV, doc, pm, an, cdv, ct, eL⟩ := R_law
  have bL := FL.binds (ps := ["_law_script"]) fun _ _ _ _ _ _ us hl => match us, hl with | [_], _ => rfl
  have e := hfa.symm.trans (PySem.W.mg_of X G aL)
  cases e
  refine ⟨dL, fun s v => ?_, fun base _ _ => ?_⟩
  · subst eL; exact .of_eq rfl
  · have F_law : Fn K mg "law" sLaw ["_law_script"] fa dL := ⟨FL, bL, PySem.W.mg_of X G aL⟩
    have G_cell := ok_cell (P := l.prog) (w := w) (base := base) T F__law_cell
    have G_whole := ok_whole (P := l.prog) (w := w) (base := base) T F__law_whole
    have G_size := ok_size (P := l.prog) (w := w) (base := base) T F_size
    have G_isSq := ok_isSq (P := l.prog) (w := w) (base := base) T F_is_square F_is_whole
    have G_lines := ok_lines (P := l.prog) (w := w) (base := base) T F__law_lines F__law_cell
    have G_met := ok_met (P := l.prog) (w := w) (base := base) T F__law_met
    have G_among := ok_among (P := l.prog) (w := w) (base := base) T F__law_among
    have G_sheet := ok_sheet2 T F__law_sheet F__law_lines G_lines F__law_met G_met F__law_among G_among
    have G_isSheet := ok_isSheet T F__law_is_sheet F__law_whole G_whole F__law_met G_met
    have G_pick := ok_picked (P := l.prog) (w := w) (base := base) T F__law_picked
    have G_backRow := ok_backRow (P := l.prog) (w := w) (base := base) T F_back_row
    have G_each := ok_each T F_has_each_once F_is_square G_isSq
    have G_checked := ok_checked T C_MOST_SQUARES F_checked_rows F_has_each_once G_each
    have G_steps := ok_steps F_step_rows F_back_row G_backRow
    have G_paths := ok_paths T F_paths_from F_step_rows G_steps
    have G_groups := ok_groups T F_groups_of F_size G_size F_paths_from G_paths
    have G_sheetOf := ok_sheetOf T F_sheet_of F_checked_rows G_checked F_groups_of G_groups
    have G_cyc := ok_cycF (P := l.prog) (w := w) (base := base) F_cycle_from
    have G_cycles := ok_cycles T T_min F_cycles F_cycle_from G_cyc
    have G_bt := ok_bt (P := l.prog) (w := w) (base := base) C_SIGNS F_between
    have G_si := ok_si (P := l.prog) (w := w) (base := base) C_SIGNS F_squares_in
    have G_io := ok_io (P := l.prog) (w := w) (base := base) T F_in_order
    have G_drw := ok_drw F_drawn F_cycles G_cycles F_between G_bt
    have G_to := ok_to9 T T_zip F_sheet_of G_sheetOf F_in_order G_io F_sheet_told
    have G_se := ok_se T F_seen F_squares_in G_si F_sheet_told G_to F_drawn G_drw
    have G_lsigns := ok_lsigns (P := l.prog) (w := w) (base := base) F__law_signs
    have G_ld := ok_ld9 T F__law_signs G_lsigns F__law_drawn
    have G_er := ok_er9 T F__law_even_rows F__law_cell G_cell F__law_met G_met F__law_picked G_pick F__law_among G_among
    exact ok_law T T_str F_law F__law_cell G_cell F__law_sheet G_sheet F__law_even_rows G_er F__law_drawn G_ld F_drawn G_drw F_seen G_se F__law_is_sheet G_isSheet
theorem walk {l : PySem.W.OpenLaw} {q : Program} {loose : List Str} {XP : (Str → Option Value) → Heap → Prop} {YP : World → Heap → Prop} {d : DefRec} {K : Params → PySem.W.Frag} (hn : l.most = some 63) (hdf : d.params.defaults = [])
    (hY : ∀ (w : World) (h : Heap), YP w h → (K w.params).In h)
    (F : ∀ (w : World) (mg : Str → Option Value) (fa : Addr) (h : Heap), (K w.params).In h → h.Ns mainGlobals mg → mg d.name = some (.ref fa) →
      ∃ fd : FuncData, (∀ (s : Shared) (u : Value), BindsTo s fd ⟨[u], []⟩ [("_law_script", u)]) ∧ ∀ base : Heap, (K w.params).In base → base.Ns mainGlobals mg → FnOk l.prog w (K w.params) mg base CX0 8 fa fd ["_law_script"] (spLaw (K w.params))) :
    PySem.W.WalkO q loose XP YP l.row.toRowW d [] (fun f vs => PySem.call f vs) :=
  L2.walk_of (n := 63) (k := 8) (x := "_law_script") (CX := fun _ => CX0) (sp := fun w => spLaw (K w.params)) hn (by decide) hdf ⟨rfl, by decide, by decide⟩ hY F (fun _ _ a ns hl _ hS => ⟨a, ns, rfl, hS, fun _ => rfl⟩) fun _ _ _ _ _ z => z
end K1
open PySem PySem.W PyProof.Rows
set_option maxRecDepth 100000 in
set_option maxHeartbeats 0 in
theorem PySem.Challenge.cw_squaresheet_k91_drawn_and_seen_holds : PySem.Challenge.rw_squaresheet_k91_drawn_and_seen.Holds := by
  w_on; o_law; k_head; (case hw => w_witness2)
  k_fill
  refine K1.walk (l := PySem.Challenge.rw_squaresheet_k91_drawn_and_seen) rfl rfl (fun w h Y => PySem.W.kIn_of Y) ?F
  case F =>
    intro w mg fa h KX G hmg
    have R_sheet_of : K1.Raw (L2.KOf KX) "sheet_of" K1.sSheetOf := by
      dsimp only [L2.KOf]
      refine' K1.raw_mk ?a ?l ?c ?k
      (case a => k_is); (case l => k_is); (case c => k_is); (case k => k_is)
    have R_size : K1.Raw (L2.KOf KX) "size" K1.sSize := by
      dsimp only [L2.KOf]
      refine' K1.raw_mk ?a ?l ?c ?k
      (case a => k_is); (case l => k_is); (case c => k_is); (case k => k_is)
    have R_back_row : K1.Raw (L2.KOf KX) "back_row" K1.sBackRow := by
      dsimp only [L2.KOf]
      refine' K1.raw_mk ?a ?l ?c ?k
      (case a => k_is); (case l => k_is); (case c => k_is); (case k => k_is)
    have R_checked_rows : K1.Raw (L2.KOf KX) "checked_rows" K1.sChecked := by
      dsimp only [L2.KOf]
      refine' K1.raw_mk ?a ?l ?c ?k
      (case a => k_is); (case l => k_is); (case c => k_is); (case k => k_is)
    have R_has_each_once : K1.Raw (L2.KOf KX) "has_each_once" K1.sEach := by
      dsimp only [L2.KOf]
      refine' K1.raw_mk ?a ?l ?c ?k
      (case a => k_is); (case l => k_is); (case c => k_is); (case k => k_is)
    have R_is_whole : K1.Raw (L2.KOf KX) "is_whole" K1.sIsWhole := by
      dsimp only [L2.KOf]
      refine' K1.raw_mk ?a ?l ?c ?k
      (case a => k_is); (case l => k_is); (case c => k_is); (case k => k_is)
    have R_is_square : K1.Raw (L2.KOf KX) "is_square" K1.sIsSq := by
      dsimp only [L2.KOf]
      refine' K1.raw_mk ?a ?l ?c ?k
      (case a => k_is); (case l => k_is); (case c => k_is); (case k => k_is)
    have R_groups_of : K1.Raw (L2.KOf KX) "groups_of" K1.sGroups := by
      dsimp only [L2.KOf]
      refine' K1.raw_mk ?a ?l ?c ?k
      (case a => k_is); (case l => k_is); (case c => k_is); (case k => k_is)
    have R_step_rows : K1.Raw (L2.KOf KX) "step_rows" K1.sSteps := by
      dsimp only [L2.KOf]
      refine' K1.raw_mk ?a ?l ?c ?k
      (case a => k_is); (case l => k_is); (case c => k_is); (case k => k_is)
    have R_paths_from : K1.Raw (L2.KOf KX) "paths_from" K1.sPaths := by
      dsimp only [L2.KOf]
      refine' K1.raw_mk ?a ?l ?c ?k
      (case a => k_is); (case l => k_is); (case c => k_is); (case k => k_is)
    have R_cycle_from : K1.Raw (L2.KOf KX) "cycle_from" K1.sCycleFrom := by
      dsimp only [L2.KOf]
      refine' K1.raw_mk ?a ?l ?c ?k
      (case a => k_is); (case l => k_is); (case c => k_is); (case k => k_is)
    have R_cycles : K1.Raw (L2.KOf KX) "cycles" K1.sCycles := by
      dsimp only [L2.KOf]
      refine' K1.raw_mk ?a ?l ?c ?k
      (case a => k_is); (case l => k_is); (case c => k_is); (case k => k_is)
    have R_drawn : K1.Raw (L2.KOf KX) "drawn" K1.sDrawn := by
      dsimp only [L2.KOf]
      refine' K1.raw_mk ?a ?l ?c ?k
      (case a => k_is); (case l => k_is); (case c => k_is); (case k => k_is)
    have R_seen : K1.Raw (L2.KOf KX) "seen" K1.sSeen := by
      dsimp only [L2.KOf]
      refine' K1.raw_mk ?a ?l ?c ?k
      (case a => k_is); (case l => k_is); (case c => k_is); (case k => k_is)
    have R_between : K1.Raw (L2.KOf KX) "between" K1.sBetween := by
      dsimp only [L2.KOf]
      refine' K1.raw_mk ?a ?l ?c ?k
      (case a => k_is); (case l => k_is); (case c => k_is); (case k => k_is)
    have R_squares_in : K1.Raw (L2.KOf KX) "squares_in" K1.sSquaresIn := by
      dsimp only [L2.KOf]
      refine' K1.raw_mk ?a ?l ?c ?k
      (case a => k_is); (case l => k_is); (case c => k_is); (case k => k_is)
    have R_sheet_told : K1.Raw (L2.KOf KX) "sheet_told" K1.sSheetTold := by
      dsimp only [L2.KOf]
      refine' K1.raw_mk ?a ?l ?c ?k
      (case a => k_is); (case l => k_is); (case c => k_is); (case k => k_is)
    have R_in_order : K1.Raw (L2.KOf KX) "in_order" K1.sInOrder := by
      dsimp only [L2.KOf]
      refine' K1.raw_mk ?a ?l ?c ?k
      (case a => k_is); (case l => k_is); (case c => k_is); (case k => k_is)
    have R__law_cell : K1.Raw (L2.KOf KX) "_law_cell" K1.sCell := by
      dsimp only [L2.KOf]
      refine' K1.raw_mk ?a ?l ?c ?k
      (case a => k_is); (case l => k_is); (case c => k_is); (case k => k_is)
    have R__law_whole : K1.Raw (L2.KOf KX) "_law_whole" K1.sWhole := by
      dsimp only [L2.KOf]
      refine' K1.raw_mk ?a ?l ?c ?k
      (case a => k_is); (case l => k_is); (case c => k_is); (case k => k_is)
    have R__law_lines : K1.Raw (L2.KOf KX) "_law_lines" K1.sLines := by
      dsimp only [L2.KOf]
      refine' K1.raw_mk ?a ?l ?c ?k
      (case a => k_is); (case l => k_is); (case c => k_is); (case k => k_is)
    have R__law_met : K1.Raw (L2.KOf KX) "_law_met" K1.sMet := by
      dsimp only [L2.KOf]
      refine' K1.raw_mk ?a ?l ?c ?k
      (case a => k_is); (case l => k_is); (case c => k_is); (case k => k_is)
    have R__law_among : K1.Raw (L2.KOf KX) "_law_among" K1.sAmong := by
      dsimp only [L2.KOf]
      refine' K1.raw_mk ?a ?l ?c ?k
      (case a => k_is); (case l => k_is); (case c => k_is); (case k => k_is)
    have R__law_sheet : K1.Raw (L2.KOf KX) "_law_sheet" K1.sSheet := by
      dsimp only [L2.KOf]
      refine' K1.raw_mk ?a ?l ?c ?k
      (case a => k_is); (case l => k_is); (case c => k_is); (case k => k_is)
    have R__law_picked : K1.Raw (L2.KOf KX) "_law_picked" K1.sPicked := by
      dsimp only [L2.KOf]
      refine' K1.raw_mk ?a ?l ?c ?k
      (case a => k_is); (case l => k_is); (case c => k_is); (case k => k_is)
    have R__law_is_sheet : K1.Raw (L2.KOf KX) "_law_is_sheet" K1.sIsSheet := by
      dsimp only [L2.KOf]
      refine' K1.raw_mk ?a ?l ?c ?k
      (case a => k_is); (case l => k_is); (case c => k_is); (case k => k_is)
    have R__law_signs : K1.Raw (L2.KOf KX) "_law_signs" K1.sLSigns := by
      dsimp only [L2.KOf]
      refine' K1.raw_mk ?a ?l ?c ?k
      (case a => k_is); (case l => k_is); (case c => k_is); (case k => k_is)
    have R__law_drawn : K1.Raw (L2.KOf KX) "_law_drawn" K1.sLDrawn := by
      dsimp only [L2.KOf]
      refine' K1.raw_mk ?a ?l ?c ?k
      (case a => k_is); (case l => k_is); (case c => k_is); (case k => k_is)
    have R__law_even_rows : K1.Raw (L2.KOf KX) "_law_even_rows" K1.sLEvenRows := by
      dsimp only [L2.KOf]
      refine' K1.raw_mk ?a ?l ?c ?k
      (case a => k_is); (case l => k_is); (case c => k_is); (case k => k_is)
    have R_law : K1.Raw (L2.KOf KX) "law" K1.sLaw := by
      dsimp only [L2.KOf]
      refine' K1.raw_mk ?a ?l ?c ?k
      (case a => k_is); (case l => k_is); (case c => k_is); (case k => k_is)
    refine' K1.all_mk KX G hmg R_sheet_of R_size R_back_row R_checked_rows R_has_each_once R_is_whole R_is_square R_groups_of R_step_rows R_paths_from R_cycle_from R_cycles R_drawn R_seen R_between R_squares_in R_sheet_told R_in_order R__law_cell R__law_whole R__law_lines R__law_met R__law_among R__law_sheet R__law_picked R__law_is_sheet R__law_signs R__law_drawn R__law_even_rows R_law ?c_MOST_SQUARES ?c_SIGNS ?z_len ?z_range ?z_list ?z_tuple ?z_isinstance ?z_int ?z_bool ?z_all ?z_set ?z_sorted ?z_enumerate ?z_min ?z_zip ?z_str
    (case c_MOST_SQUARES => k_is); (case c_SIGNS => k_is); (case z_len => k_is); (case z_range => k_is); (case z_list => k_is); (case z_tuple => k_is); (case z_isinstance => k_is); (case z_int => k_is); (case z_bool => k_is); (case z_all => k_is); (case z_set => k_is); (case z_sorted => k_is); (case z_enumerate => k_is); (case z_min => k_is); (case z_zip => k_is); (case z_str => k_is)
#print axioms PySem.Challenge.cw_squaresheet_k91_drawn_and_seen_holds
