import PyProof.Rows.All
import Wide.All
import OpenK.AllK
import Wide.FinOn
import Lean
import PyProof.EqAt
import PyProof.EqKinds
import PyProof.TupleCall
import PyProof.Draws
import PyProof.EnumMake
import PyProof.WalksEnum
import PyProof.TupleIter
import PyProof.NeData
import PyProof.WalksMore
import PyProof.Rows.StrJoin2
import PyProof.StrWalks
import PyProof.StrBlockH
import PyProof.StrLawsTight
import PyProof.Rows.StrItems
import OpenK.KOwn
import PyProof.NsDelKeeps
import PyProof.RulesAs
import PyProof.ExcAttrAll.ValueError
import PyProof.FitsBits
import PyProof.ZipIter
import PyProof.SumWalkG
import PyProof.CompUse
import PyProof.StrLawsChain
import PyProof.MinMaxWalk
import PyProof.WalkInts
import KE.KSortAsk
import KE.KSortTup
import PyProof.Rows.Range3
import KE.KRevIter
import PyProof.SliceStr2
import PyProof.StrLawsIdx
import PyProof.StrOps2
import PyProof.EnumStmt
import PySem.Challenge.RW_squaresheet_k64_whole_bands_moved
set_option Elab.async false
set_option linter.all false
set_option maxRecDepth 100000
namespace L2
open PySem PySem.Spec PyProof.Rows

/-- a key: an int or a str -/
abbrev Key := Sum Int Str
def keyIs : Key → Value → Bool
  | .inl k, v => Value.isInt k v
  | .inr x, v => Value.isStrOf x v
def keyH (w : World) : Key → Int
  | .inl k => hashInt k
  | .inr x => hashStr w x
theorem keyIs_shape : ∀ {k : Key} {v : Value}, keyIs k v = true → (∃ i t, k = Sum.inl i ∧ v = Value.int i t) ∨ (∃ x t, k = Sum.inr x ∧ v = Value.str x t)
  | .inl i, v, h => by
    obtain ⟨t, e⟩ := Value.isInt_shape (k := i) (v := v) h
    exact .inl ⟨i, t, rfl, e⟩
  | .inr x, v, h => by
    obtain ⟨t, e⟩ := Value.isStrOf_shape (x := x) (v := v) h
    exact .inr ⟨x, t, rfl, e⟩
theorem keyIs_int (i : Int) (t : Tok) : keyIs (.inl i) (.int i t) = true := by simp [keyIs, Value.isInt]
theorem keyIs_str (x : Str) (t : Tok) : keyIs (.inr x) (.str x t) = true := by simp [keyIs, Value.isStrOf]
theorem key_ll (a b : Int) : decide ((Sum.inl a : Key) = Sum.inl b) = (a == b) := by
  by_cases e : a = b
  · subst e; simp
  · have h : ¬ (Sum.inl a : Key) = Sum.inl b := fun q => e (Sum.inl.inj q)
    rw [decide_eq_false h]
    exact (beq_eq_false_iff_ne.mpr e).symm
theorem key_rr (a b : Str) : decide ((Sum.inr a : Key) = Sum.inr b) = decide (a = b) := by
  by_cases e : a = b
  · subst e; simp
  · have h : ¬ (Sum.inr a : Key) = Sum.inr b := fun q => e (Sum.inr.inj q)
    rw [decide_eq_false h, decide_eq_false e]
theorem key_lr (a : Int) (b : Str) : decide ((Sum.inl a : Key) = Sum.inr b) = false := decide_eq_false (fun q => nomatch q)
theorem key_rl (a : Str) (b : Int) : decide ((Sum.inr a : Key) = Sum.inl b) = false := decide_eq_false (fun q => nomatch q)

def mixKind (prog : Program) (w : World) : PySem.KeyKind prog w Key where
  is := keyIs
  hash := keyH w
  inj := fun v a b ha hb => by
    rcases keyIs_shape ha with ⟨i, t, rfl, rfl⟩ | ⟨x, t, rfl, rfl⟩
    · rcases keyIs_shape hb with ⟨j, u, rfl, e⟩ | ⟨y, u, rfl, e⟩
      · injection e with e1 _; rw [e1]
      · exact nomatch e
    · rcases keyIs_shape hb with ⟨j, u, rfl, e⟩ | ⟨y, u, rfl, e⟩
      · exact nomatch e
      · injection e with e1 _; rw [e1]
  byValue := fun k v h => by
    rcases keyIs_shape h with ⟨i, t, rfl, rfl⟩ | ⟨x, t, rfl, rfl⟩ <;> rfl
  pyHash := fun hv h => by
    rcases keyIs_shape hv with ⟨i, t, rfl, rfl⟩ | ⟨x, t, rfl, rfl⟩
    · exact wpAny_pyHash_int h
    · exact wpAny_pyHash_str h
  eqBool := fun hu hv h => by
    rcases keyIs_shape hu with ⟨i, t, rfl, rfl⟩ | ⟨x, t, rfl, rfl⟩
    · rcases keyIs_shape hv with ⟨j, u, rfl, rfl⟩ | ⟨y, u, rfl, rfl⟩
      · rw [key_ll] at h; exact wpAny_eqBool_int h
      · rw [key_lr] at h; exact SeqAt.EqAt.int_str i t y u _ _ _ _ h
    · rcases keyIs_shape hv with ⟨j, u, rfl, rfl⟩ | ⟨y, u, rfl, rfl⟩
      · rw [key_rl] at h; exact SeqAt.EqAt.str_int x t j u _ _ _ _ h
      · rw [key_rr] at h; exact wpAny_eqBool_str h
  «strs» := fun k x t v h => by
    rcases keyIs_shape h with ⟨i, u, rfl, e⟩ | ⟨y, u, rfl, e⟩
    · exact nomatch e
    · injection e with e1 _
      subst e1
      cases v <;> rfl

theorem mixKind_int (prog : Program) (w : World) (i : Int) (t : Tok) : (mixKind prog w).is (.inl i) (.int i t) = true := keyIs_int i t
theorem mixKind_str (prog : Program) (w : World) (x : Str) (t : Tok) : (mixKind prog w).is (.inr x) (.str x t) = true := keyIs_str x t
end L2

namespace L2
open PySem PySem.Spec PyProof.Rows

/-- a value, without the heap -/
inductive V where
  | non | bl (b : Bool) | int (i : Int) | str (x : Str) | byt (b : Array UInt8) | flt (b : UInt64) | ref (a : Addr) | ty (n : String)
  deriving DecidableEq

def RelV : V → Value → Prop
  | .non, u => u = Value.none
  | .bl b, u => u = Value.bool b
  | .int i, u => ∃ t, u = Value.int i t
  | .str x, u => ∃ t, u = Value.str x t
  | .byt b, u => ∃ t, u = Value.bytes b t
  | .flt b, u => ∃ t, u = Value.float b t
  | .ref a, u => u = Value.ref a
  | .ty n, u => u = Value.type n

abbrev Vals : List V → List Value → Prop := Paired RelV
theorem Vals.length {xs : List V} {us : List Value} (r : Vals xs us) : xs.length = us.length := Paired.length r
theorem Vals.get : ∀ {xs : List V} {us : List Value} {i : Nat} {x : V}, Vals xs us → xs[i]? = some x → ∃ u, us[i]? = some u ∧ RelV x u
  | _, _, _, _, .nil, e => by simp at e
  | _, _, 0, _, .cons r _, e => by simp at e; subst e; exact ⟨_, rfl, r⟩
  | _, _, i + 1, x, .cons _ t, e => by
    obtain ⟨u, h1, h2⟩ := Vals.get (i := i) (x := x) t (by simpa using e)
    exact ⟨u, by simpa using h1, h2⟩
theorem Vals.set {x : V} {u : Value} (r : RelV x u) : ∀ {xs : List V} {us : List Value} (i : Nat), Vals xs us → Vals (xs.set i x) (us.set i u)
  | _, _, _, .nil => .nil
  | _, _, 0, .cons _ t => .cons r t
  | _, _, i + 1, .cons q t => .cons q (Vals.set r i t)
theorem Vals.append : ∀ {xs ys : List V} {us ws : List Value}, Vals xs us → Vals ys ws → Vals (xs ++ ys) (us ++ ws)
  | _, _, _, _, .nil, s => s
  | _, _, _, _, .cons r t, s => .cons r (Vals.append t s)
theorem Vals.take : ∀ {xs : List V} {us : List Value} (n : Nat), Vals xs us → Vals (xs.take n) (us.take n)
  | _, _, 0, _ => .nil
  | _, _, _ + 1, .nil => .nil
  | _, _, n + 1, .cons r t => .cons r (Vals.take n t)
theorem Vals.drop : ∀ {xs : List V} {us : List Value} (n : Nat), Vals xs us → Vals (xs.drop n) (us.drop n)
  | _, _, 0, r => r
  | _, _, _ + 1, .nil => .nil
  | _, _, n + 1, .cons _ t => Vals.drop n t
def RelO : Option V → Option Value → Prop
  | some v, some u => RelV v u
  | none, none => True
  | _, _ => False
def KV {κ : Type} : List (κ × V) → List (κ × Value) → Prop := Paired fun (p : κ × V) (q : κ × Value) => p.1 = q.1 ∧ RelV p.2 q.2

/-- a key of a dict (00_mix): an int or a text -/
def kV : Key → V
  | .inl i => .int i
  | .inr x => .str x

/-- what stands at a tracked address -/
inductive HO where
  /-- a list -/
  | lst (xs : List V)
  /-- a tuple (never changes) -/
  | tup (xs : List V)
  /-- a dict whose keys are ints and texts; one whose keys are tuples of ints and texts (the empty one is both) -/
  | dK (kvs : List (Key × V)) | dT (kvs : List (List Key × V))
  /-- a set of ints: its members, its size -/
  | set (S : Int → Bool) (n : Nat)
  /-- an instance of the class at C, its dict at dx, its attributes -/
  | ins (C dx : Addr) (fs : List (Str × V))
  /-- the dict of the instance at x -/
  | own (x : Addr)
  /-- the dict of an exception -/
  | xd (fs : List (Str × V))
  /-- a bound method, f of x -/
  | met (f x : Addr)
  /-- a range object lo, lo + 1, .. below hi -/
  | rng (lo hi : Int)
  /-- a thing that is known to the object (the script; a dict while a loop walks it): read, never written while it is so -/
  | frz (o : Obj) (u : HO)
  /-- a code object's table -/
  | tbl (ps : Array Value)
  /-- any other thing, by what is true of its one object (a def of one's own: SetO a S n := HO.ext fun h => ..) -/
  | ext (φ : Heap → Prop)

abbrev Hp := Addr → Option HO
def upd (H : Hp) (a : Addr) (o : HO) : Hp := fun b => if b = a then some o else H b
theorem upd_same {H : Hp} {a : Addr} {o : HO} : upd H a o a = some o := by unfold upd; rw [if_pos rfl]
theorem upd_ne {H : Hp} {a b : Addr} {o : HO} (h : b ≠ a) : upd H a o b = H b := by unfold upd; rw [if_neg h]
/-- two objects of different content stand apart -/
theorem ne_of {H : Hp} {a b : Addr} {o u : HO} (h : H a = some o) (h' : H b = some u) (d : o ≠ u) : a ≠ b := by
  intro e; subst e; rw [h] at h'; exact d (Option.some.inj h')
theorem ne_of_none {H : Hp} {a b : Addr} {o : HO} (h : H a = some o) (h' : H b = none) : a ≠ b := by
  intro e; subst e; rw [h] at h'; cases h'

section
variable (P : Program) (w : World)
/-- the object has no dict -/
def NoD (h : Heap) (a : Addr) : Prop := ∃ o, h.get? a = some o ∧ o.dict = none
def ObjOk (H : Hp) (h : Heap) (a : Addr) : HO → Prop
  | .lst xs => xs.length ≤ sizeLine ∧ ∃ (its : List Value) (n : Nat), Vals xs its ∧ h.get? a = some { cls := .type "list", data := .seq its.toArray n }
  | .tup xs => (xs.length ≤ sizeLine ∧ NoD h a) ∧ ∃ its : List Value, Vals xs its ∧ IsTup h a its.toArray
  | .dK kvs => kvs.length ≤ sizeLine ∧ (a == sysModules) = false ∧ ∃ vs, KV kvs vs ∧ h.DictOf (mixKind P w) a vs
  | .dT kvs => kvs.length ≤ sizeLine ∧ (a == sysModules) = false ∧ ∃ xs : List (List Key × Addr × Value),
      Paired (fun (p : List Key × V) (q : List Key × Addr × Value) => p.1 = q.1 ∧ H q.2.1 = some (.tup (p.1.map kV)) ∧ RelV p.2 q.2.2) kvs xs ∧
      ∃ o es ep, h.get? a = some o ∧ o.ExactDict ∧ o.data = .dict es ep ∧ es.toList = xs.map (entryOfKey (tupleKind (mixKind P w))) ∧ (xs.map (·.1)).Nodup
  | .set S n => h.SetOf (intKind P w) a S n
  | .ins C dx fs => H dx = some (.own a) ∧ fs.length ≤ 1000 ∧ dx ≠ a ∧ h.get? a = some (PySem.W.instObj C dx) ∧
      ∃ mA, h.Ns1 dx mA ∧ (∀ f, RelO (fs.lookup f) (mA f)) ∧ PySem.Within mA (fs.map (·.1))
  | .own _ => ∃ o, h.get? a = some o
  | .xd fs => ∃ mA, h.Ns1 a mA ∧ ∀ f, RelO (fs.lookup f) (mA f)
  | .rng lo hi => ∃ t u v, h.get? a = some { cls := .type "range", data := .fields #[.int lo t, .int hi u, .int 1 v] }
  | .frz o u => h.get? a = some o ∧ ObjOk H h a u
  | .tbl ps => h.get? a = some { cls := .none, data := .fields ps }
  | .met f x => h.get? a = some (PySem.W.methodObj (.ref f) (.ref x))
  | .ext φ => φ h ∧ (∃ o, h.get? a = some o) ∧ ∀ h1 h2 : Heap, φ h1 → (∀ o, h1.get? a = some o → h2.get? a = some o) → φ h2
/-- the abstract heap is held -/
def HOk (H : Hp) (h : Heap) : Prop := ∀ a o, H a = some o → ObjOk P w H h a o
end

section
variable {P : Program} {w : World} {H H' : Hp} {h h' : Heap} {a : Addr} {o : HO}
theorem ObjOk.lt (x : ObjOk P w H h a o) : a < h.objs.size := by
  cases o with
  | lst xs => obtain ⟨_, _, _, _, e⟩ := x; exact Heap.lt_size e
  | tup xs => obtain ⟨_, _, _, p⟩ := x; exact p.lt
  | dK kvs => obtain ⟨_, _, _, _, o, _, _, e, _⟩ := x; exact Heap.lt_size e
  | dT kvs => obtain ⟨_, _, _, _, o, _, _, e, _⟩ := x; exact Heap.lt_size e
  | set S n => obtain ⟨o, _, _, _, e, _⟩ := x; exact Heap.lt_size e
  | ins C dx fs => obtain ⟨_, _, _, e, _⟩ := x; exact Heap.lt_size e
  | own y => obtain ⟨_, e⟩ := x; exact Heap.lt_size e
  | xd fs => obtain ⟨_, ⟨_, _, _, e, _⟩, _⟩ := x; exact Heap.lt_size e
  | rng lo hi => obtain ⟨_, _, _, e⟩ := x; exact Heap.lt_size e
  | frz ob u => obtain ⟨e, _⟩ := x; exact Heap.lt_size e
  | tbl ps => exact Heap.lt_size (show h.get? a = some _ from x)
  | met f y => exact Heap.lt_size (show h.get? a = some _ from x)
  | ext φ => obtain ⟨_, ⟨_, e⟩, _⟩ := x; exact Heap.lt_size e
theorem Paired.mapP {α β : Type} {F G : α → β → Prop} : ∀ {l₁ : List α} {l₂ : List β}, Paired F l₁ l₂ → (∀ a b, F a b → G a b) → Paired G l₁ l₂
  | _, _, .nil, _ => .nil
  | _, _, .cons r t, f => .cons (f _ _ r) (Paired.mapP t f)
/-- what an object's description leans on: its own object, its own dict, the tuples -/
theorem ObjOk.stay (x : ObjOk P w H h a o) (k : ∀ b u, (b = a ∨ H b = some (.own a)) → h.get? b = some u → h'.get? b = some u)
    (ho : ∀ b, H b = some (.own a) → H' b = some (.own a)) (ht : ∀ b xs, H b = some (.tup xs) → H' b = some (.tup xs)) : ObjOk P w H' h' a o := by
  induction o with
  | lst xs => obtain ⟨z, its, n, r, e⟩ := x; exact ⟨z, its, n, r, k _ _ (.inl rfl) e⟩
  | tup xs => obtain ⟨z, its, r, ob, e, c⟩ := x; exact ⟨⟨z.1, z.2.imp fun _ q => ⟨k _ _ (.inl rfl) q.1, q.2⟩⟩, its, r, ob, k _ _ (.inl rfl) e, c⟩
  | dK kvs => obtain ⟨z, y, vs, r, ob, es, ep, e, c⟩ := x; exact ⟨z, y, vs, r, ob, es, ep, k _ _ (.inl rfl) e, c⟩
  | dT kvs =>
    obtain ⟨z, y, xs, r, ob, es, ep, e, c⟩ := x
    exact ⟨z, y, xs, Paired.mapP r fun p q z => ⟨z.1, ht _ _ z.2.1, z.2.2⟩, ob, es, ep, k _ _ (.inl rfl) e, c⟩
  | set S n => obtain ⟨ob, es, ep, t, e, c⟩ := x; exact ⟨ob, es, ep, t, k _ _ (.inl rfl) e, c⟩
  | ins C dx fs =>
    obtain ⟨d, z, ne, e, mA, ⟨od, es, ep, e2, c⟩, r⟩ := x
    exact ⟨ho _ d, z, ne, k _ _ (.inl rfl) e, mA, ⟨od, es, ep, k _ _ (.inr d) e2, c⟩, r⟩
  | own y => obtain ⟨ob, e⟩ := x; exact ⟨ob, k _ _ (.inl rfl) e⟩
  | xd fs => obtain ⟨mA, ⟨od, es, ep, e, c⟩, r⟩ := x; exact ⟨mA, ⟨od, es, ep, k _ _ (.inl rfl) e, c⟩, r⟩
  | rng lo hi => obtain ⟨t, u, v, e⟩ := x; exact ⟨t, u, v, k _ _ (.inl rfl) e⟩
  | frz ob u ih => obtain ⟨e, q⟩ := x; exact ⟨k _ _ (.inl rfl) e, ih q⟩
  | tbl ps =>
    have e : h.get? a = some { cls := .none, data := .fields ps } := x
    show h'.get? a = some { cls := .none, data := .fields ps }
    exact k a _ (.inl rfl) e
  | met f y =>
    have e : h.get? a = some (PySem.W.methodObj (.ref f) (.ref y)) := x
    show h'.get? a = some (PySem.W.methodObj (.ref f) (.ref y))
    exact k a _ (.inl rfl) e
  | ext φ => obtain ⟨p, ⟨o, e⟩, st⟩ := x; exact ⟨st _ _ p fun o q => k _ _ (.inl rfl) q, ⟨o, k _ _ (.inl rfl) e⟩, st⟩
theorem HOk.lt (x : HOk P w H h) (e : H a = some o) : a < h.objs.size := (x a o e).lt
theorem HOk.fresh (x : HOk P w H h) (e : h.objs.size ≤ a) : H a = none := by
  cases q : H a with
  | none => rfl
  | some u => exact absurd (Nat.lt_of_lt_of_le (x.lt q) e) (Nat.lt_irrefl _)
/-- every object of the heap is kept -/
theorem HOk.kept (x : HOk P w H h) (k : ∀ b u, h.get? b = some u → h'.get? b = some u) : HOk P w H h' := fun a o e =>
  (x a o e).stay (fun b u _ q => k b u q) (fun _ q => q) fun _ _ q => q
/-- a new object is laid and tracked -/
theorem HOk.laid (x : HOk P w H h) (k : ∀ b u, h.get? b = some u → h'.get? b = some u) (hp : h.objs.size ≤ a) (new : ObjOk P w (upd H a o) h' a o) : HOk P w (upd H a o) h' := fun b u e => by
  have hn := x.fresh hp
  by_cases hb : b = a
  · subst hb; rw [upd_same] at e; cases e; exact new
  · rw [upd_ne hb] at e
    exact (x b u e).stay (fun c v _ q => k c v q) (fun c q => by rw [upd_ne (ne_of_none q hn)]; exact q) fun c xs q => by rw [upd_ne (ne_of_none q hn)]; exact q
end

/-- what may be read as u: it is u, or a known u -/
def Rd (H : Hp) (a : Addr) (u : HO) : Prop := H a = some u ∨ ∃ o, H a = some (.frz o u)
theorem Rd.ok {P : Program} {w : World} {H : Hp} {h : Heap} {a : Addr} {u : HO} (r : Rd H a u) (x : HOk P w H h) : ObjOk P w H h a u := by
  rcases r with r | ⟨o, r⟩
  · exact x a u r
  · obtain ⟨_, q⟩ := x a _ r
    exact q
/-- what may be written -/
def Mut : Option HO → Prop
  | some (.lst _) => True
  | some (.dK _) => True
  | some (.dT _) => True
  | some (.set _ _) => True
  | some (.ins _ _ _) => True
  | some (.ext _) => True
  | _ => False
section
variable {P : Program} {w : World} {H : Hp} {h h' : Heap} {x e : Addr} {o' : HO}
/-- the object at e is changed: x itself, or the dict of the instance x -/
theorem HOk.write (ok : HOk P w H h) (mu : Mut (H x)) (he : e = x ∨ H e = some (.own x)) (k : ∀ b u, b ≠ e → h.get? b = some u → h'.get? b = some u) (heo : ∃ u, h'.get? e = some u)
    (new : ObjOk P w (upd H x o') h' x o') : HOk P w (upd H x o') h' := fun b u q => by
  have nown : ∀ c y, H c = some (.own y) → c ≠ x := fun c y r z => by subst z; rw [r] at mu; exact mu
  have ntup : ∀ c xs, H c = some (.tup xs) → c ≠ x := fun c xs r z => by subst z; rw [r] at mu; exact mu
  by_cases hb : b = x
  · subst hb; rw [upd_same] at q; cases q; exact new
  · rw [upd_ne hb] at q
    by_cases hbe : b = e
    · have q' : H b = some (.own x) := by
        rcases he with z | z
        · exact absurd (hbe.trans z) hb
        · rw [hbe]; exact z
      rw [q] at q'; cases q'
      obtain ⟨v, hv⟩ := heo
      exact ⟨v, by rw [hbe]; exact hv⟩
    · refine (ok b u q).stay (fun c v hc r => k c v ?_ r) (fun c r => by rw [upd_ne (nown c b r)]; exact r) fun c xs r => by rw [upd_ne (ntup c xs r)]; exact r
      rcases hc with rfl | hc
      · exact hbe
      · rintro rfl
        rcases he with z | z
        · exact nown c b hc z
        · rw [hc] at z; cases z; exact hb rfl
end

structure Un (fs ex : List Addr) (H H' : Hp) (h h' : Heap) : Prop where
  keep : ∀ b o, h.get? b = some o → H b = none → b ∉ fs → b ∉ ex → h'.get? b = some o
  slot : ∀ b o, h.get? b = some o → H b = none → b ∈ fs → b ∉ ex → ∃ sl, h'.get? b = some { o with slots := sl }
  free : ∀ b o, h.get? b = some o → H b = none → b ∉ ex → H' b = none
  there : ∀ b o, h.get? b = some o → b ∉ ex → ∃ o', h'.get? b = some o'
  tups : ∀ b xs, H b = some (.tup xs) → H' b = some (.tup xs)
  frzs : ∀ b o u, H b = some (.frz o u) → H' b = some (.frz o u)
  tbls : ∀ b ps, H b = some (.tbl ps) → ∃ more, H' b = some (.tbl (ps ++ more))
section
variable {fs fs' ex ex' : List Addr} {H H1 H2 : Hp} {h h1 h2 h' : Heap} {a x e : Addr} {o : HO}
theorem Un.any (u : Un fs ex H H1 h h1) {b : Addr} {ob : Obj} (q : h.get? b = some ob) (n : H b = none) (hx : b ∉ ex) : ∃ sl, h1.get? b = some { ob with slots := sl } := by
  by_cases hb : b ∈ fs
  · exact u.slot b ob q n hb hx
  · exact ⟨ob.slots, u.keep b ob q n hb hx⟩
theorem Un.kept (k : ∀ b u, h.get? b = some u → h'.get? b = some u) : Un fs ex H H h h' :=
  ⟨fun b ob q _ _ _ => k b ob q, fun b ob q _ _ _ => ⟨ob.slots, k b ob q⟩, fun _ _ _ n _ => n, fun b ob q _ => ⟨ob, k b ob q⟩, fun _ _ q => q, fun _ _ _ q => q, fun _ ps q => ⟨#[], by rw [q]; simp⟩⟩
theorem Un.refl : Un fs ex H H h h := Un.kept fun _ _ q => q
theorem Un.laid (k : ∀ b u, h.get? b = some u → h'.get? b = some u) (hp : h.objs.size ≤ a) (hn : H a = none) : Un fs ex H (upd H a o) h h' where
  keep := fun b u q _ _ _ => k b u q
  slot := fun b u q _ _ _ => ⟨u.slots, k b u q⟩
  free := fun b u q n _ => by rw [upd_ne (Nat.ne_of_lt (Nat.lt_of_lt_of_le (Heap.lt_size q) hp))]; exact n
  there := fun b u q _ => ⟨u, k b u q⟩
  tups := fun b xs q => by rw [upd_ne (ne_of_none q hn)]; exact q
  frzs := fun b u xs q => by rw [upd_ne (ne_of_none q hn)]; exact q
  tbls := fun b ps q => ⟨#[], by rw [upd_ne (ne_of_none q hn), q]; simp⟩
theorem Un.write (mu : Mut (H x)) (he : e = x ∨ H e = some (.own x)) (k : ∀ b u, b ≠ e → h.get? b = some u → h'.get? b = some u) (heo : ∃ u, h'.get? e = some u) : Un fs ex H (upd H x o) h h' := by
  have hx : ∀ b, H b = none → b ≠ x := fun b n z => by subst z; rw [n] at mu; exact mu
  have hb : ∀ b, H b = none → b ≠ e := fun b n z => by
    subst z
    rcases he with r | r
    · exact hx b n r
    · rw [n] at r; cases r
  have hm : ∀ b u, H b = some u → ¬ Mut (some u) → b ≠ x := fun b u q nm z => by subst z; rw [q] at mu; exact nm mu
  refine ⟨fun b u q n _ _ => k b u (hb b n) q, fun b u q n _ _ => ⟨u.slots, k b u (hb b n) q⟩, fun b u q n _ => by rw [upd_ne (hx b n)]; exact n, fun b u q _ => ?_,
    fun b xs q => by rw [upd_ne (hm b _ q fun z => z)]; exact q, fun b u xs q => by rw [upd_ne (hm b _ q fun z => z)]; exact q, fun b ps q => ⟨#[], by rw [upd_ne (hm b _ q fun z => z), q]; simp⟩⟩
  by_cases hbe : b = e
  · subst hbe; exact heo
  · exact ⟨u, k b u hbe q⟩
end

def trk (h : Heap) (H : Hp) : List Addr := (List.range h.objs.size).filter fun a => (H a).isSome
def hidT (h : Heap) (H : Hp) : Heap := PySem.W.hideAll h (trk h H)
theorem hidT_size (h : Heap) (H : Hp) : (hidT h H).objs.size = h.objs.size := PySem.W.hideAll_size _ _
theorem hidT_get {h : Heap} {H : Hp} {b : Addr} {o : Obj} (e : h.get? b = some o) (n : H b = none) : (hidT h H).get? b = some o :=
  PySem.W.hideAll_get _ e fun hm => by
    have q : (H b).isSome = true := (List.mem_filter.mp hm).2
    rw [n] at q; simp at q
theorem of_hidT {h : Heap} {H : Hp} {b : Addr} {o : Obj} (e : (hidT h H).get? b = some o) : h.get? b = some o ∧ H b = none := by
  have e' : h.get? b = some o := PySem.W.of_hideAll (trk h H) e
  refine ⟨e', ?_⟩
  cases q : H b with
  | none => rfl
  | some x =>
    have hm : b ∈ trk h H := List.mem_filter.mpr ⟨List.mem_range.mpr (Heap.lt_size e'), by simp [q]⟩
    have z : (hidT h H).get? b = none := PySem.W.hideAll_none (trk h H) hm
    rw [z] at e; cases e

end L2

namespace L2
open PySem PySem.Spec PyProof.Rows

/-- the module's facts, over the base: the heap at the law's entry without what is tracked there -/
structure Mod (K : PySem.W.Frag) (mg : Str → Option Value) (base : Heap) : Prop where
  kin : K.In base
  glob : base.Ns mainGlobals mg
  blt : ∃ mb, base.Ns builtinsNs mb ∧ ∀ x : Str, x ≠ "__name__" → mb x = bootBuiltins x
  nolimit : base.NoLimit

/-- the context: a def's body (or a comprehension's block) running. base: fixed through the whole law; s₀, H₀: the entry; outer: the frames whose slots others may change (a def's callers); stack: all frames that run;
   ex: iterators that were made ahead of the entry and are walked here (a comprehension's); fn: the names whose cells were made at the entry (a def: all; a comprehension's block: its own); calm: not within an except suite; pn: pins that every state bears; xe: what is wanted of an exception that leaves the code -/
structure Cx where
  prog : Program
  w : World
  K : PySem.W.Frag
  mg : Str → Option Value
  base : Heap
  A : Around
  N : List Str
  s₀ : Shared
  H₀ : Hp
  env : Env
  outer : List Env
  stack : List Env
  ex : List Addr
  fn : Str → Bool
  calm : Bool
  pn : List (Addr × Obj)
  xe : Value → Shared → Prop
/-- the callers' frames -/
def frs (l : List Env) : List Addr := l.filterMap (·.frame)
abbrev Cx.fs (X : Cx) : List Addr := frs X.outer

def Vis (sc : Scope) (x : Str) : Prop := sc.names.lookup x = some .local ∨ sc.names.lookup x = some .cell ∨ sc.names.lookup x = some .free
def Loc (sc : Scope) (x : Str) : Prop := sc.names.lookup x = some .local ∨ sc.names.lookup x = some .cell
def Look (env : Env) (h : Heap) (m : Str → Option Value) (x : Str) (u : Value) : Prop :=
  (env.kindOf x = some .local ∧ m x = some u) ∨ ((env.kindOf x = some .cell ∨ env.kindOf x = some .free) ∧ ∃ c, env.cells.lookup x = some c ∧ h.IsCell c (some u))

structure Cx.Ok (X : Cx) : Prop where
  mod : Mod X.K X.mg X.base
  kind : X.env.scope.kind = .function
  glob : X.env.globals = mainGlobals
  blt : X.env.builtins = builtinsNs
  above : X.s₀.heap.objs.size ≤ X.env.locals
  inj : ∀ x y c, X.env.cells.lookup x = some c → X.env.cells.lookup y = some c → x = y
  has : ∀ x, (X.env.kindOf x = some .cell ∨ X.env.kindOf x = some .free) → ∃ c, X.env.cells.lookup x = some c
  cab : ∀ x c, X.fn x = true → X.env.cells.lookup x = some c → X.s₀.heap.objs.size ≤ c
  hd : X.calm = true → X.A.handled = none
  frames : X.A.frames = some X.stack
  stk : X.stack = X.outer ∨ (X.stack = X.env :: X.outer ∧ X.env.frame = some X.env.locals)
  exf : ∀ b ∈ X.ex, b ≠ X.env.locals ∧ ∀ x c, X.env.cells.lookup x = some c → c ≠ b
  bs : ∀ b o, X.base.get? b = some o → X.s₀.heap.get? b = some o ∧ X.H₀ b = none
  bsz : X.base.objs.size ≤ X.s₀.heap.objs.size
  noex : ∀ b o, X.base.get? b = some o → b ∉ X.ex
  exfs : ∀ b ∈ X.ex, b ∉ X.fs
  funs : X.s₀.heap.FunFrames X.base X.outer
  frf : ∀ b ∈ X.fs, X.H₀ b = none

structure Inv (X : Cx) (pins : List (Addr × Obj)) (σ : List (Option V)) (H : Hp) (s : Shared) : Prop where
  ok : X.Ok
  os : s.os = X.s₀.os
  bare : AllBare s.gens
  base : Un X.fs X.ex X.H₀ H X.s₀.heap s.heap
  loc : ∃ m, s.heap.Ns X.env.locals m ∧ ∀ (i : Nat) (x : Str) (v : V), X.N[i]? = some x → σ[i]? = some (some v) → Vis X.env.scope x → ∃ u, RelV v u ∧ Look X.env s.heap m x u
  cell : ∀ x c, X.env.cells.lookup x = some c → ∃ v, s.heap.IsCell c v
  free : H X.env.locals = none
  freeC : ∀ x c, X.env.cells.lookup x = some c → H c = none
  pin : ∀ p ∈ X.pn ++ pins, s.heap.get? p.1 = some p.2 ∧ H p.1 = none ∧ p.1 ≠ X.env.locals ∧ p.1 ∉ X.fs ∧ ∀ v, p.2.data ≠ .cell v
  hok : HOk X.prog X.w H s.heap
  len : σ.length = X.N.length

section
variable {X : Cx} {pins : List (Addr × Obj)} {σ : List (Option V)} {H H' : Hp} {s : Shared} {h' : Heap}

theorem Cx.Ok.nofr (ok : X.Ok) {b : Addr} {o : Obj} (e : X.base.get? b = some o) : b ∉ X.fs := fun hb => by
  have := (ok.funs.mem hb).1
  rw [e] at this; cases this
theorem Inv.bs (I : Inv X pins σ H s) : ∀ b o, X.base.get? b = some o → s.heap.get? b = some o ∧ H b = none := fun b o e =>
  ⟨I.base.keep b o (I.ok.bs b o e).1 (I.ok.bs b o e).2 (I.ok.nofr e) (I.ok.noex b o e), I.base.free b o (I.ok.bs b o e).1 (I.ok.bs b o e).2 (I.ok.noex b o e)⟩
theorem Inv.bk (I : Inv X pins σ H s) : ∀ b o, X.base.get? b = some o → s.heap.get? b = some o := fun b o e => (I.bs b o e).1
theorem Inv.mod (I : Inv X pins σ H s) : Mod X.K X.mg X.base := I.ok.mod
theorem Inv.kIn (I : Inv X pins σ H s) : X.K.In s.heap := I.ok.mod.kin.keeps I.bk
theorem Inv.lt (I : Inv X pins σ H s) : X.env.locals < s.heap.objs.size := let ⟨_, hn, _⟩ := I.loc; hn.lt
theorem Inv.sz (I : Inv X pins σ H s) : X.s₀.heap.objs.size ≤ s.heap.objs.size := Nat.le_trans I.ok.above (Nat.le_of_lt I.lt)
theorem Inv.nofs (I : Inv X pins σ H s) {a : Addr} (h : s.heap.objs.size ≤ a) : a ∉ X.fs := fun hb => by
  obtain ⟨_, o, ho, _⟩ := I.ok.funs.mem hb
  exact absurd (Nat.lt_of_lt_of_le (Heap.lt_size ho) (Nat.le_trans I.sz h)) (Nat.lt_irrefl _)
theorem Inv.cne (I : Inv X pins σ H s) : ∀ x c, X.env.cells.lookup x = some c → c ≠ X.env.locals := fun x c e z => by
  obtain ⟨v, o, ho, hd⟩ := I.cell x c e
  obtain ⟨m, ⟨o', es, ep, ho', hd', _⟩, _⟩ := I.loc
  rw [z, ho'] at ho; cases ho; rw [hd'] at hd; cases hd
theorem Inv.funs (I : Inv X pins σ H s) : s.heap.FunFrames X.base X.outer := by
  have all : ∀ (l : List Env), (∀ b ∈ frs l, b ∈ X.fs) → X.s₀.heap.FunFrames X.base l → s.heap.FunFrames X.base l := by
    intro l
    induction l with
    | nil => intro _ _; trivial
    | cons env r ih =>
      intro hs hl
      obtain ⟨hk, ⟨L, o, hf, hn, ho, hd⟩, hr⟩ := hl
      have hL : L ∈ X.fs := hs L (by unfold frs; rw [List.filterMap_cons, hf]; exact List.mem_cons_self)
      obtain ⟨sl, e⟩ := I.base.slot L o ho (I.ok.frf L hL) hL fun z => I.ok.exfs L z hL
      exact ⟨hk, ⟨L, _, hf, hn, e, hd⟩, ih (fun b hb => hs b (by unfold frs; rw [List.filterMap_cons, hf]; exact List.mem_cons_of_mem _ hb)) hr⟩
  exact all X.outer (fun _ hb => hb) I.ok.funs

/-- the frames that run, for a call -/
theorem Inv.stack (I : Inv X pins σ H s) : s.heap.FunFrames X.base X.stack := by
  rcases I.ok.stk with e | ⟨e, hf⟩
  · rw [e]; exact I.funs
  · rw [e]
    obtain ⟨m, hn, _⟩ := I.loc
    refine .cons (by rw [I.ok.kind]; decide) hf hn ?_ I.funs
    exact Heap.get?_none_of_le (Nat.le_trans I.ok.bsz I.ok.above)
theorem Inv.stkSub (I : Inv X pins σ H s) : ∀ b ∈ frs X.stack, b ∈ X.env.locals :: X.fs := fun b hb => by
  rcases I.ok.stk with e | ⟨e, hf⟩
  · rw [e] at hb; exact List.mem_cons_of_mem _ hb
  · rw [e] at hb
    unfold frs at hb
    rw [List.filterMap_cons, hf] at hb
    exact hb
theorem Inv.stkFree (I : Inv X pins σ H s) : ∀ b ∈ frs X.stack, H b = none := fun b hb => by
  rcases List.mem_cons.mp (I.stkSub b hb) with e | hb
  · rw [e]; exact I.free
  · obtain ⟨_, o, ho, _⟩ := I.ok.funs.mem hb
    exact I.base.free b o ho (I.ok.frf b hb) fun z => I.ok.exfs b z hb

/-- THE STEP: the untracked objects but the frame and the records at ch are kept (the callers' frames up to slots), the frame's map is kept, the new abstract heap is held -/
theorem Inv.step {g' : Array GenState} {t' : Nat} {d' : Drawn} {ch : List Addr} (I : Inv X pins σ H s)
    (hch : ∀ b ∈ ch, (b ∈ X.ex ∨ X.s₀.heap.objs.size ≤ b) ∧ b ≠ X.env.locals ∧ (∀ x c, X.env.cells.lookup x = some c → c ≠ b) ∧ ∀ p ∈ X.pn ++ pins, p.1 ≠ b)
    (keep : ∀ b o, b ≠ X.env.locals → b ∉ X.fs → b ∉ ch → s.heap.get? b = some o → H b = none → h'.get? b = some o)
    (slot : ∀ b o, b ≠ X.env.locals → b ∈ X.fs → b ∉ ch → s.heap.get? b = some o → H b = none → ∃ sl, h'.get? b = some { o with slots := sl }) (free : ∀ b o, b ∉ ch → s.heap.get? b = some o → H b = none → H' b = none)
    (there : ∀ b o, b ∉ ch → s.heap.get? b = some o → ∃ o', h'.get? b = some o')
    (tups : ∀ b xs, H b = some (.tup xs) → H' b = some (.tup xs)) (frzs : ∀ b o u, H b = some (.frz o u) → H' b = some (.frz o u)) (tbls : ∀ b ps, H b = some (.tbl ps) → ∃ more, H' b = some (.tbl (ps ++ more)))
    (ns : ∀ m, s.heap.Ns X.env.locals m → h'.Ns X.env.locals m) (hok : HOk X.prog X.w H' h') (hg : AllBare g') :
    Inv X pins σ H' { s with heap := h', gens := g', drawn := d', toks := t' } := by
  have neL : ∀ b o, X.s₀.heap.get? b = some o → b ≠ X.env.locals := fun b o e => Nat.ne_of_lt (Nat.lt_of_lt_of_le (Heap.lt_size e) I.ok.above)
  have neC : ∀ b o, X.s₀.heap.get? b = some o → b ∉ X.ex → b ∉ ch := fun b o e hx hb => by
    rcases (hch b hb).1 with z | z
    · exact hx z
    · exact absurd (Nat.lt_of_lt_of_le (Heap.lt_size e) z) (Nat.lt_irrefl _)
  have cellK : ∀ x c, X.env.cells.lookup x = some c → ∀ v, s.heap.IsCell c v → h'.IsCell c v := fun x c e v ⟨o, ho, hd⟩ => by
    have nch : c ∉ ch := fun z => (hch c z).2.2.1 x c e rfl
    by_cases hc : c ∈ X.fs
    · obtain ⟨sl, q⟩ := slot c o (I.cne x c e) hc nch ho (I.freeC x c e)
      exact ⟨_, q, hd⟩
    · exact ⟨o, keep c o (I.cne x c e) hc nch ho (I.freeC x c e), hd⟩
  refine ⟨I.ok, I.os, hg, ⟨fun b o e n hb hx => ?_, fun b o e n hb hx => ?_, fun b o e n hx => ?_, fun b o e hx => ?_, fun b xs e => tups b xs (I.base.tups b xs e), fun b o xs e => frzs b o xs (I.base.frzs b o xs e), fun b ps e => ?_⟩, ?_, fun x c e => ?_, ?_, fun x c e => ?_, fun p hp => ?_, hok, I.len⟩
  · exact keep b o (neL b o e) hb (neC b o e hx) (I.base.keep b o e n hb hx) (I.base.free b o e n hx)
  · obtain ⟨sl, e1⟩ := I.base.slot b o e n hb hx
    obtain ⟨sl', e2⟩ := slot b _ (neL b o e) hb (neC b o e hx) e1 (I.base.free b o e n hx)
    exact ⟨sl', e2⟩
  · obtain ⟨o', e1⟩ := I.base.there b o e hx
    exact free b o' (neC b o e hx) e1 (I.base.free b o e n hx)
  · obtain ⟨o', e1⟩ := I.base.there b o e hx
    exact there b o' (neC b o e hx) e1
  · obtain ⟨m1, e1⟩ := I.base.tbls b ps e
    obtain ⟨m2, e2⟩ := tbls b _ e1
    exact ⟨m1 ++ m2, by rw [e2, Array.append_assoc]⟩
  · obtain ⟨m, hn, hl⟩ := I.loc
    refine ⟨m, ns m hn, fun i x v e1 e2 e3 => ?_⟩
    obtain ⟨u, r, l⟩ := hl i x v e1 e2 e3
    refine ⟨u, r, ?_⟩
    rcases l with l | ⟨k, c, e, z⟩
    · exact .inl l
    · exact .inr ⟨k, c, e, cellK x c e _ z⟩
  · obtain ⟨v, z⟩ := I.cell x c e
    exact ⟨v, cellK x c e v z⟩
  · obtain ⟨m, ⟨o, _, _, ho, _⟩, _⟩ := I.loc
    exact free _ o (fun z => (hch _ z).2.1 rfl) ho I.free
  · obtain ⟨v, o, ho, hd⟩ := I.cell x c e
    exact free c o (fun z => (hch c z).2.2.1 x c e rfl) ho (I.freeC x c e)
  · obtain ⟨e, n, ne, nf, d⟩ := I.pin p hp
    have nch : p.1 ∉ ch := fun z => (hch p.1 z).2.2.2 p hp rfl
    exact ⟨keep p.1 p.2 ne nf nch e n, free p.1 p.2 nch e n, ne, nf, d⟩
/-- .. where the frame's own object is kept too -/
theorem Inv.un {t' : Nat} (I : Inv X pins σ H s) (u : Un X.fs [] H H' s.heap h') (hok : HOk X.prog X.w H' h') : Inv X pins σ H' { s with heap := h', toks := t' } := by
  obtain ⟨m, ⟨o, es, ep, ho, r⟩, _⟩ := id I.loc
  obtain ⟨sl, hL⟩ := u.any ho I.free (by simp)
  exact I.step (g' := s.gens) (d' := s.drawn) (ch := []) (fun _ z => nomatch z) (fun b o _ hb _ e n => u.keep b o e n hb (by simp)) (fun b o _ hb _ e n => u.slot b o e n hb (by simp)) (fun b o _ e n => u.free b o e n (by simp)) (fun b o _ e => u.there b o e (by simp)) u.tups u.frzs u.tbls (fun m' hm => by
    obtain ⟨o', es', ep', ho', r'⟩ := hm
    rw [ho] at ho'; cases ho'
    exact ⟨_, es', ep', hL, r'⟩) hok I.bare
/-- behind a call (or a comprehension's block): the slots of this frame may have changed too, the records at ch may have turned -/
theorem Inv.call {g' : Array GenState} {t' : Nat} {d' : Drawn} {ch : List Addr} (I : Inv X pins σ H s) (u : Un (frs X.stack) ch H H' s.heap h') (hok : HOk X.prog X.w H' h') (hg : AllBare g')
    (hch : ∀ b ∈ ch, (b ∈ X.ex ∨ X.s₀.heap.objs.size ≤ b) ∧ b ≠ X.env.locals ∧ (∀ x c, X.env.cells.lookup x = some c → c ≠ b) ∧ ∀ p ∈ X.pn ++ pins, p.1 ≠ b) :
    Inv X pins σ H' { s with heap := h', gens := g', drawn := d', toks := t' } := by
  obtain ⟨m, ⟨o, es, ep, ho, r⟩, _⟩ := id I.loc
  obtain ⟨sl, hL⟩ := u.any ho I.free fun z => (hch _ z).2.1 rfl
  exact I.step (ch := ch) hch (fun b o hL hb hc e n => u.keep b o e n (fun z => (List.mem_cons.mp (I.stkSub b z)).elim hL hb) hc) (fun b o _ _ hc e n => u.any e n hc) (fun b o hc e n => u.free b o e n hc) (fun b o hc e => u.there b o e hc) u.tups u.frzs u.tbls (fun m' hm => by
    obtain ⟨o', es', ep', ho', r'⟩ := hm
    rw [ho] at ho'; cases ho'
    exact ⟨_, es', ep', hL, r'⟩) hok hg
/-- an untracked record of ours (an iterator) has turned -/
theorem Inv.turned {t' : Nat} {it : Addr} (I : Inv X pins σ H s) (k : ∀ b o, b ≠ it → s.heap.get? b = some o → h'.get? b = some o) (hn : H it = none) (hL : it ≠ X.env.locals)
    (h1 : it ∈ X.ex ∨ X.s₀.heap.objs.size ≤ it) (h2 : ∀ x c, X.env.cells.lookup x = some c → c ≠ it) (h3 : ∀ p ∈ X.pn ++ pins, p.1 ≠ it) : Inv X pins σ H { s with heap := h', toks := t' } := by
  have nit : ∀ b u, H b = some u → b ≠ it := fun b u e z => by rw [z, hn] at e; cases e
  refine I.step (g' := s.gens) (d' := s.drawn) (ch := [it]) (fun b hb => ?_) (fun b o _ _ hc e _ => k b o (fun z => hc (by simp [z])) e) (fun b o _ _ hc e _ => ⟨o.slots, k b o (fun z => hc (by simp [z])) e⟩) (fun _ _ _ _ n => n)
    (fun b o hc e => ⟨o, k b o (fun z => hc (by simp [z])) e⟩) (fun _ _ e => e) (fun _ _ _ e => e) (fun b ps e => ⟨#[], by rw [e]; simp⟩) (fun m hm => ?_) (fun b u e => ?_) I.bare
  · have e : b = it := by simpa using hb
    subst e
    exact ⟨h1, hL, h2, h3⟩
  · obtain ⟨o, es, ep, ho, r⟩ := hm
    exact ⟨o, es, ep, k _ o (Ne.symm hL) ho, r⟩
  · refine (I.hok b u e).stay (fun c v hc q => k c v ?_ q) (fun _ q => q) fun _ _ q => q
    rcases hc with z | z
    · rw [z]; exact nit b u e
    · exact nit c _ z
theorem Inv.tok (I : Inv X pins σ H s) (t : Nat) : Inv X pins σ H { s with toks := t } := I.un (h' := s.heap) (t' := t) Un.refl I.hok
/-- all objects kept -/
theorem Inv.kept {t' : Nat} (I : Inv X pins σ H s) (k : ∀ b u, s.heap.get? b = some u → h'.get? b = some u) : Inv X pins σ H { s with heap := h', toks := t' } := I.un (Un.kept k) (I.hok.kept k)
/-- a new object laid and tracked -/
theorem Inv.laid {a : Addr} {o : HO} {t' : Nat} (I : Inv X pins σ H s) (k : ∀ b u, s.heap.get? b = some u → h'.get? b = some u) (hp : s.heap.objs.size ≤ a) (new : ObjOk X.prog X.w (upd H a o) h' a o) :
    Inv X pins σ (upd H a o) { s with heap := h', toks := t' } := I.un (Un.laid k hp (I.hok.fresh hp)) (I.hok.laid k hp new)
/-- an object written -/
theorem Inv.write {x e : Addr} {o : HO} {t' : Nat} (I : Inv X pins σ H s) (mu : Mut (H x)) (he : e = x ∨ H e = some (.own x)) (k : ∀ b u, b ≠ e → s.heap.get? b = some u → h'.get? b = some u) (heo : ∃ u, h'.get? e = some u)
    (new : ObjOk X.prog X.w (upd H x o) h' x o) : Inv X pins σ (upd H x o) { s with heap := h', toks := t' } := I.un (Un.write mu he k heo) (I.hok.write mu he k heo new)
theorem Inv.pins_of {pins' : List (Addr × Obj)} (I : Inv X pins σ H s) (h : ∀ p ∈ pins', s.heap.get? p.1 = some p.2 ∧ H p.1 = none ∧ p.1 ≠ X.env.locals ∧ p.1 ∉ X.fs ∧ ∀ v, p.2.data ≠ .cell v) : Inv X pins' σ H s :=
  ⟨I.ok, I.os, I.bare, I.base, I.loc, I.cell, I.free, I.freeC, fun p hp => (List.mem_append.mp hp).elim (fun z => I.pin p (List.mem_append_left _ z)) (h p), I.hok, I.len⟩

theorem nodup_ix {N : List Str} (hN : N.Nodup) {i j : Nat} {x : Str} (a : N[i]? = some x) (b : N[j]? = some x) : i = j := by
  obtain ⟨h1, e1⟩ := List.getElem?_eq_some_iff.mp a
  obtain ⟨h2, e2⟩ := List.getElem?_eq_some_iff.mp b
  exact (List.getElem_inj hN).mp (e1.trans e2.symm)

/-- a name is stored; what changed -/
theorem store_ok2 {M : Model} {A : Around} {E : Value → Shared → Prop} {i : Nat} {x : Str} {v : V} {u : Value} {Q : Unit → Shared → Prop} (I : Inv X pins σ H s) (hN : X.N.Nodup) (hi : X.N[i]? = some x) (hx : Loc X.env.scope x) (r : RelV v u)
    (h : ∀ s', Inv X pins (σ.set i (some v)) H s' → (∃ a, Heap.SameBut a s.heap s'.heap ∧ (a = X.env.locals ∨ X.env.cells.lookup x = some a)) → Q () s') (hf : X.fn x = true ∨ X.env.scope.names.lookup x = some .local := by first | exact .inl rfl | exact .inr rfl | assumption) : wpAny M A (storeName X.env x u) Q E s := by
  obtain ⟨m, hn, hl⟩ := id I.loc
  have hcls : (X.env.scope.kind == .class || (X.env.scope.kind == .module && X.env.locals != X.env.globals)) = false := by rw [I.ok.kind]; rfl
  have hiσ : i < σ.length := by rw [I.len]; exact (List.getElem?_eq_some_iff.mp hi).1
  have cne := I.cne
  have tracked : ∀ {a : Addr} {h' : Heap}, (∃ o, s.heap.get? a = some o ∧ H a = none) → Heap.SameBut a s.heap h' → HOk X.prog X.w H h' := fun {a h'} ha hs b ob e => by
    obtain ⟨_, _, hfree⟩ := ha
    refine (I.hok b ob e).stay (fun c w' hc q => (hs.2 c ?_).trans q) (fun _ q => q) fun _ _ q => q
    rintro rfl
    rcases hc with rfl | hc
    · rw [hfree] at e; cases e
    · rw [hfree] at hc; cases hc
  rcases hx with hk | hk
  · refine wpAny_storeName_local hk hn (fun h' hn' hs => ?_) hcls
    obtain ⟨oL, _, _, hoL, _⟩ := id hn
    refine h _ ⟨I.ok, I.os, I.bare, ⟨fun b o e n hb hx => ?_, fun b o e n hb hx => ?_, I.base.free, fun b o e hx => ?_, I.base.tups, I.base.frzs, I.base.tbls⟩, ⟨_, hn', fun j y v' e1 e2 e3 => ?_⟩, fun y c e => ?_, I.free, I.freeC, fun p hp => ?_, tracked ⟨oL, hoL, I.free⟩ hs, by simpa using I.len⟩ ⟨_, hs, .inl rfl⟩
    · exact (hs.2 b (Nat.ne_of_lt (Nat.lt_of_lt_of_le (Heap.lt_size e) I.ok.above))).trans (I.base.keep b o e n hb hx)
    · obtain ⟨sl, e1⟩ := I.base.slot b o e n hb hx
      exact ⟨sl, (hs.2 b (Nat.ne_of_lt (Nat.lt_of_lt_of_le (Heap.lt_size e) I.ok.above))).trans e1⟩
    · obtain ⟨o', e1⟩ := I.base.there b o e hx
      exact ⟨o', (hs.2 b (Nat.ne_of_lt (Nat.lt_of_lt_of_le (Heap.lt_size e) I.ok.above))).trans e1⟩
    · by_cases hj : j = i
      · subst hj
        rw [hi] at e1; cases e1
        rw [List.getElem?_set_self hiσ] at e2
        cases e2
        exact ⟨u, r, .inl ⟨hk, by simp⟩⟩
      · rw [List.getElem?_set_ne (Ne.symm hj)] at e2
        obtain ⟨u', r', q⟩ := hl j y v' e1 e2 e3
        refine ⟨u', r', ?_⟩
        rcases q with ⟨k, e⟩ | ⟨k, c, e, z⟩
        · refine .inl ⟨k, ?_⟩
          have : y ≠ x := fun e => hj (nodup_ix hN e1 (e ▸ hi))
          simp [this, e]
        · exact .inr ⟨k, c, e, z.sameBut hs (cne y c e)⟩
    · obtain ⟨w', z⟩ := I.cell y c e
      exact ⟨w', z.sameBut hs (cne y c e)⟩
    · obtain ⟨e, n, ne, nf, d⟩ := I.pin p hp
      exact ⟨(hs.2 p.1 ne).trans e, n, ne, nf, d⟩
  · have hfn : X.fn x = true := by
      rcases hf with z | z
      · exact z
      · rw [z] at hk; cases hk
    obtain ⟨c, hc⟩ := I.ok.has x (.inl hk)
    obtain ⟨w', z⟩ := I.cell x c hc
    refine wpAny_storeName_cell I.ok.kind hk hc z (fun h' hc' hs => ?_)
    obtain ⟨oc, hoc, hocd⟩ := id z
    refine h { s with heap := h' } ⟨I.ok, I.os, I.bare, ⟨fun b o e n hb hx => ?_, fun b o e n hb hx => ?_, I.base.free, fun b o e hx => ?_, I.base.tups, I.base.frzs, I.base.tbls⟩, ⟨m, hn.sameBut hs (Ne.symm (cne x c hc)), fun j y v' e1 e2 e3 => ?_⟩, fun y c' e => ?_, I.free, I.freeC, fun p hp => ?_, tracked ⟨oc, hoc, I.freeC x c hc⟩ hs, by simpa using I.len⟩ ⟨c, hs, .inr hc⟩
    · exact (hs.2 b (Nat.ne_of_lt (Nat.lt_of_lt_of_le (Heap.lt_size e) (I.ok.cab x c hfn hc)))).trans (I.base.keep b o e n hb hx)
    · obtain ⟨sl, e1⟩ := I.base.slot b o e n hb hx
      exact ⟨sl, (hs.2 b (Nat.ne_of_lt (Nat.lt_of_lt_of_le (Heap.lt_size e) (I.ok.cab x c hfn hc)))).trans e1⟩
    · obtain ⟨o', e1⟩ := I.base.there b o e hx
      exact ⟨o', (hs.2 b (Nat.ne_of_lt (Nat.lt_of_lt_of_le (Heap.lt_size e) (I.ok.cab x c hfn hc)))).trans e1⟩
    · by_cases hj : j = i
      · subst hj
        rw [hi] at e1; cases e1
        rw [List.getElem?_set_self hiσ] at e2
        cases e2
        exact ⟨u, r, .inr ⟨.inl hk, c, hc, hc'⟩⟩
      · rw [List.getElem?_set_ne (Ne.symm hj)] at e2
        obtain ⟨u', r', q⟩ := hl j y v' e1 e2 e3
        refine ⟨u', r', ?_⟩
        rcases q with q | ⟨k, c', e, z'⟩
        · exact .inl q
        · refine .inr ⟨k, c', e, z'.sameBut hs ?_⟩
          rintro rfl
          exact hj (nodup_ix hN e1 (I.ok.inj _ _ _ e hc ▸ hi))
    · by_cases hcc : c' = c
      · subst hcc; exact ⟨_, hc'⟩
      · obtain ⟨w2, z2⟩ := I.cell y c' e
        exact ⟨w2, z2.sameBut hs hcc⟩
    · obtain ⟨e, n, ne, nf, d⟩ := I.pin p hp
      refine ⟨(hs.2 p.1 ?_).trans e, n, ne, nf, d⟩
      intro q
      rw [q, hoc] at e
      have q' : oc = p.2 := Option.some.inj e
      exact d w' (by rw [← q']; exact hocd)
theorem store_ok {M : Model} {A : Around} {E : Value → Shared → Prop} {i : Nat} {x : Str} {v : V} {u : Value} {Q : Unit → Shared → Prop} (I : Inv X pins σ H s) (hN : X.N.Nodup) (hi : X.N[i]? = some x) (hx : Loc X.env.scope x) (r : RelV v u)
    (h : ∀ s', Inv X pins (σ.set i (some v)) H s' → Q () s') (hf : X.fn x = true ∨ X.env.scope.names.lookup x = some .local := by first | exact .inl rfl | exact .inr rfl | assumption) : wpAny M A (storeName X.env x u) Q E s :=
  store_ok2 I hN hi hx r (fun s' I' _ => h s' I') hf
/-- behind a call or a block, the state as it is -/
theorem Inv.call' {s' : Shared} {ch : List Addr} (I : Inv X pins σ H s) (ho : s'.os = s.os) (u : Un (frs X.stack) ch H H' s.heap s'.heap) (hok : HOk X.prog X.w H' s'.heap) (hg : AllBare s'.gens)
    (hch : ∀ b ∈ ch, (b ∈ X.ex ∨ X.s₀.heap.objs.size ≤ b) ∧ b ≠ X.env.locals ∧ (∀ x c, X.env.cells.lookup x = some c → c ≠ b) ∧ ∀ p ∈ X.pn ++ pins, p.1 ≠ b) : Inv X pins σ H' s' := by
  obtain ⟨h', g', d', t', o'⟩ := s'
  have e : o' = s.os := ho
  subst e
  exact I.call (g' := g') (t' := t') (d' := d') u hok hg hch
end

/-- an exception: its class, its own dict's address (where it has one), the abstract heap behind it -/
abbrev XK := Value → Option Addr → Hp → Prop
abbrev St := List (Option V)
abbrev VK := V → Hp → Prop
/-- an expression's reading; a test's; an argument list's -/
abbrev TE := St → Hp → VK → Prop
abbrev TT := St → Hp → (Bool → Hp → Prop) → Prop
abbrev TA := St → Hp → (List V → Hp → Prop) → Prop
/-- what is wanted behind a statement -/
structure Ends where
  nx : St → Hp → Prop
  rt : VK
  bk : St → Hp → Prop := fun _ _ => False
  ct : St → Hp → Prop := fun _ _ => False
abbrev TS := Ends → St → Hp → Prop

def EP (X : Cx) (pins : List (Addr × Obj)) (σ : St) (Q : VK) (u : Value) (s' : Shared) : Prop := ∃ v H', Inv X pins σ H' s' ∧ RelV v u ∧ Q v H'
def TP (X : Cx) (pins : List (Addr × Obj)) (σ : St) (Q : Bool → Hp → Prop) (b : Bool) (s' : Shared) : Prop := ∃ H', Inv X pins σ H' s' ∧ Q b H'
def AP (X : Cx) (pins : List (Addr × Obj)) (σ : St) (Q : List V → Hp → Prop) (us : List Value) (s' : Shared) : Prop := ∃ vs H', Inv X pins σ H' s' ∧ Vals vs us ∧ Q vs H'
def SP (X : Cx) (pins : List (Addr × Obj)) (D : Ends) (f : Flow) (s' : Shared) : Prop :=
  match f with
  | .next => ∃ σ' H', Inv X pins σ' H' s' ∧ D.nx σ' H'
  | .brk => ∃ σ' H', Inv X pins σ' H' s' ∧ D.bk σ' H'
  | .cont => ∃ σ' H', Inv X pins σ' H' s' ∧ D.ct σ' H'
  | .ret u => ∃ v σ' H', Inv X pins σ' H' s' ∧ RelV v u ∧ D.rt v H'

def PE (X : Cx) (e : Expr) (t : TE) : Prop :=
  ∀ (pins : List (Addr × Obj)) (s : Shared) (σ : St) (H : Hp) (Q : VK), Inv X pins σ H s → t σ H Q → wpAny (model X.prog X.w) X.A (eval e X.env) (EP X pins σ Q) X.xe s
def PT (X : Cx) (e : Expr) (t : TT) : Prop :=
  ∀ (pins : List (Addr × Obj)) (s : Shared) (σ : St) (H : Hp) (Q : Bool → Hp → Prop), Inv X pins σ H s → t σ H Q → wpAny (model X.prog X.w) X.A (isTrue e X.env (eval e X.env)) (TP X pins σ Q) X.xe s
/-- a test whatever its 'whole' is (and, or) -/
def PW (X : Cx) (e : Expr) (t : TT) : Prop :=
  ∀ (whole : Sem Value) (pins : List (Addr × Obj)) (s : Shared) (σ : St) (H : Hp) (Q : Bool → Hp → Prop), Inv X pins σ H s → t σ H Q → wpAny (model X.prog X.w) X.A (isTrue e X.env whole) (TP X pins σ Q) X.xe s
theorem PW.pt {X : Cx} {e : Expr} {t : TT} (h : PW X e t) : PT X e t := h _
/-- an argument list (no star), from the left -/
def PA (X : Cx) (es : List Expr) (t : TA) : Prop :=
  ∀ (pos : Pos) (pins : List (Addr × Obj)) (s : Shared) (σ : St) (H : Hp) (Q : List V → Hp → Prop), Inv X pins σ H s → t σ H Q → wpAny (model X.prog X.w) X.A (spliced (backTo pos (starEach es X.env))) (AP X pins σ Q) X.xe s
def PS (X : Cx) (st : Stmt) (t : TS) : Prop :=
  ∀ (pins : List (Addr × Obj)) (s : Shared) (σ : St) (H : Hp) (D : Ends), Inv X pins σ H s → t D σ H → wpAny (model X.prog X.w) X.A (exec st X.env) (SP X pins D) X.xe s
def PSs (X : Cx) (st : List Stmt) (t : TS) : Prop :=
  ∀ (pins : List (Addr × Obj)) (s : Shared) (σ : St) (H : Hp) (D : Ends), Inv X pins σ H s → t D σ H → wpAny (model X.prog X.w) X.A (execs st X.env) (SP X pins D) X.xe s
/-- weaken the end -/
theorem thn {α : Type} {t : Sem α} {Q Q' : α → Shared → Prop} {M : Model} {A : Around} {E : Value → Shared → Prop} {s : Shared} (h : wpAny M A t Q E s) (hQ : ∀ a s, Q a s → Q' a s) : wpAny M A t Q' E s := wpAny_mono h hQ fun _ _ x => x
end L2

namespace L2
open PySem PySem.Spec PyProof.Rows
section
variable {X : Cx}

def tVar (i : Nat) : TE := fun σ H Q => ∃ v, σ[i]? = some (some v) ∧ Q v H
def tC (v : V) : TE := fun _ H Q => Q v H
theorem pe_var {i : Nat} {x : Str} {pos : Pos} (hN : X.N[i]? = some x) (hv : Vis X.env.scope x) (hd : (x == ("__debug__" : Str)) = false := by decide) (hcd : (x == ("__classdict__" : Str)) = false := by decide) : PE X (.Name x pos) (tVar i) := by
  intro pins s σ H Q I h
  obtain ⟨v, e, h⟩ := h
  obtain ⟨m, hn, hl⟩ := I.loc
  obtain ⟨u, r, l⟩ := hl i x v hN e hv
  have fin : EP X pins σ Q u s := ⟨v, H, I, r, h⟩
  rcases l with ⟨hk, hm⟩ | ⟨hk, c, hc, hcell⟩
  · exact wpAny_Name (wpAny_loadName_local I.ok.kind hk hn hm fin) hd
  · rcases hk with hk | hk
    · exact wpAny_Name (wpAny_loadName_cell I.ok.kind hk hc hcell fin) hd
    · exact wpAny_Name (wpAny_loadName_free I.ok.kind hk hc hcell fin hcd) hd
theorem pe_int {i j pos} : PE X (.Constant (.int i) j pos) (tC (.int i)) := fun _ _ _ H _ I h => wpAny_Constant_int ⟨.int i, H, I.tok _, ⟨_, rfl⟩, h⟩
theorem pe_bl {b j pos} : PE X (.Constant (.bool b) j pos) (tC (.bl b)) := fun _ _ _ H _ I h => Constant_bool ⟨.bl b, H, I, rfl, h⟩
theorem pe_str {x j pos} : PE X (.Constant (.str x) j pos) (tC (.str x)) := fun _ _ _ H _ I h => Calls.Constant_str ⟨.str x, H, I.tok _, ⟨_, rfl⟩, h⟩

/-- a global name of the def -/
def Gl (X : Cx) (x : Str) : Prop := X.env.kindOf x = some .globalImplicit
theorem ld_glob {E : Value → Shared → Prop} {pins : List (Addr × Obj)} {s : Shared} {σ : St} {H : Hp} {x : Str} {u : Value} {pos : Pos} {Q : Value → Shared → Prop} (I : Inv X pins σ H s) (hg : Gl X x) (hm : X.mg x = some u) (h : Q u s)
    (hd : (x == ("__debug__" : Str)) = false := by decide) : wpAny (model X.prog X.w) X.A (eval (.Name x pos) X.env) Q E s :=
  Calls.Name_function_global I.ok.kind hg (Calls.loadGlobal_global (by rw [I.ok.glob]; exact I.mod.glob.keeps I.bk) hm h) hd
theorem ld_blt {E : Value → Shared → Prop} {pins : List (Addr × Obj)} {s : Shared} {σ : St} {H : Hp} {x : Str} {u : Value} {pos : Pos} {Q : Value → Shared → Prop} (I : Inv X pins σ H s) (hg : Gl X x) (hm : X.mg x = none) (hv : bootBuiltins x = some u) (h : Q u s)
    (hn : x ≠ "__name__" := by decide) (hd : (x == ("__debug__" : Str)) = false := by decide) : wpAny (model X.prog X.w) X.A (eval (.Name x pos) X.env) Q E s := by
  obtain ⟨mb, h1, h2⟩ := I.mod.blt
  exact Calls.Name_function_global I.ok.kind hg (Calls.loadGlobal_builtin (by rw [I.ok.glob]; exact I.mod.glob.keeps I.bk) hm (by rw [I.ok.blt]; exact h1.keeps I.bk) ((h2 x hn).trans hv) h) hd
/-- a module's constant, a class, a function, as a value -/
theorem pe_glob {x : Str} {v : V} {u : Value} {pos : Pos} (hg : Gl X x) (hm : X.mg x = some u) (r : RelV v u) (hd : (x == ("__debug__" : Str)) = false := by decide) : PE X (.Name x pos) (tC v) :=
  fun _ _ _ H _ I h => ld_glob I hg hm ⟨v, H, I, r, h⟩ hd
theorem pe_bltn {x : Str} {v : V} {u : Value} {pos : Pos} (hg : Gl X x) (hm : X.mg x = none) (hv : bootBuiltins x = some u) (r : RelV v u) (hn : x ≠ "__name__" := by decide) (hd : (x == ("__debug__" : Str)) = false := by decide) : PE X (.Name x pos) (tC v) :=
  fun _ _ _ H _ I h => ld_blt I hg hm hv ⟨v, H, I, r, h⟩ hn hd

variable {a b : Expr} {ta tb : TE} {pos : Pos}
/-- a comparison as a value, as a test -/
def tB (t : TE) : TT := fun σ H Q => t σ H fun x H1 => ∃ c, x = .bl c ∧ Q c H1
/-- an expression whose value is a bool, as a test -/
theorem pt_val {e : Expr} {t : TE} (h : PE X e t) (he : ∀ whole, isTrue e X.env whole = (do let v ← whole; standAt e.pos; holding [v] (truthy v)) := by intro _; rfl) : PT X e (tB t) := by
  intro pins s σ H Q I hw
  refine isTrue_plain (thn (h pins s σ H _ I hw) fun v s1 ⟨x, H1, I1, r1, q1⟩ => ?_) (he _)
  obtain ⟨d, rfl, q⟩ := q1
  cases r1
  exact wpAny_truthy_bool ⟨H1, I1, q⟩

variable {tA tB' : TT} {rest : List Expr}
def tAnd (t u : TT) : TT := fun σ H Q => t σ H fun c H1 => if c = true then u σ H1 Q else Q false H1
def tOr (t u : TT) : TT := fun σ H Q => t σ H fun c H1 => if c = true then Q true H1 else u σ H1 Q
def tNot (t : TT) : TT := fun σ H Q => t σ H fun c H1 => Q (!c) H1
theorem pw_and1 (ha : PT X a tA) : PW X (.BoolOp .And [a] pos) tA := by
  intro wh pins s σ H Q I h
  refine isTrue_and (thn (ha pins s σ H Q I h) fun c s1 e => ?_)
  cases c with
  | true => exact isTrue_and_nil e
  | false => exact e
theorem pw_or1 (ha : PT X a tA) : PW X (.BoolOp .Or [a] pos) tA := by
  intro wh pins s σ H Q I h
  refine isTrue_or (thn (ha pins s σ H Q I h) fun c s1 e => ?_)
  cases c with
  | false => exact isTrue_or_nil e
  | true => exact e
theorem pw_and (ha : PT X a tA) (hb : PW X (.BoolOp .And (b :: rest) pos) tB') : PW X (.BoolOp .And (a :: b :: rest) pos) (tAnd tA tB') := by
  intro wh pins s σ H Q I h
  refine isTrue_and (thn (ha pins s σ H _ I h) fun c s1 ⟨H1, I1, q1⟩ => ?_)
  cases c with
  | true => exact hb wh pins s1 σ H1 Q I1 q1
  | false => exact ⟨H1, I1, q1⟩
theorem pw_or (ha : PT X a tA) (hb : PW X (.BoolOp .Or (b :: rest) pos) tB') : PW X (.BoolOp .Or (a :: b :: rest) pos) (tOr tA tB') := by
  intro wh pins s σ H Q I h
  refine isTrue_or (thn (ha pins s σ H _ I h) fun c s1 ⟨H1, I1, q1⟩ => ?_)
  cases c with
  | true => exact ⟨H1, I1, q1⟩
  | false => exact hb wh pins s1 σ H1 Q I1 q1
theorem pt_not (ha : PT X a tA) : PT X (.UnaryOp .Not a pos) (tNot tA) := by
  intro pins s σ H Q I h
  exact isTrue_not (ha pins s σ H (fun c H1 => Q (!c) H1) I h)
/-- .. as values (bools) -/
def tAndV (ta tb : TE) : TE := fun σ H Q => ta σ H fun x H1 => ∃ c, x = .bl c ∧ if c = true then tb σ H1 Q else Q (.bl false) H1
def tNotV (ta : TE) : TE := fun σ H Q => ta σ H fun x H1 => ∃ c, x = .bl c ∧ Q (.bl (!c)) H1
theorem pe_one {op} {t : TE} (h : PE X a t) : PE X (.BoolOp op [a] pos) t := fun pins s σ H Q I hw => BoolOp_one (h pins s σ H Q I hw)
theorem pe_and (ha : PE X a ta) (hb : PE X (.BoolOp .And (b :: rest) pos) tb) : PE X (.BoolOp .And (a :: b :: rest) pos) (tAndV ta tb) := by
  intro pins s σ H Q I h
  refine BoolOp_and (thn (ha pins s σ H _ I h) fun v s1 ⟨x, H1, I1, r1, q1⟩ => ?_)
  obtain ⟨c, rfl, q1⟩ := q1
  cases r1
  refine wpAny_truthy_bool ?_
  cases c with
  | true => exact hb pins s1 σ H1 Q I1 q1
  | false => exact ⟨.bl false, H1, I1, rfl, q1⟩
theorem pe_not (ha : PE X a ta) : PE X (.UnaryOp .Not a pos) (tNotV ta) := by
  intro pins s σ H Q I h
  refine UnaryOp_ (thn (ha pins s σ H _ I h) fun v s1 ⟨x, H1, I1, r1, q1⟩ => ?_)
  obtain ⟨c, rfl, q1⟩ := q1
  cases r1
  exact not_of (wpAny_truthy_bool ⟨.bl (!c), H1, I1, rfl, q1⟩)
/-- a if t else b -/
def tIf (t : TT) (ta tb : TE) : TE := fun σ H Q => t σ H fun c H1 => if c = true then ta σ H1 Q else tb σ H1 Q
theorem pe_ifExp {c : Expr} (hc : PT X c tA) (ha : PE X a ta) (hb : PE X b tb) : PE X (.IfExp c a b pos) (tIf tA ta tb) := by
  intro pins s σ H Q I h
  refine wpAny_IfExp (thn (hc pins s σ H _ I h) fun d s1 ⟨H1, I1, q1⟩ => ?_)
  cases d with
  | true => exact ha pins s1 σ H1 Q I1 q1
  | false => exact hb pins s1 σ H1 Q I1 q1
end
end L2

namespace L2
open PySem PySem.Spec PyProof.Rows

def SqL (K : PySem.W.Frag) (H : Hp) (a : Addr) (xs : List V) : Prop :=
  Rd H a (.lst xs) ∨
    ∃ (o : Obj) (its : Array Value) (n : Nat), K.lookup a = some o ∧ o.cls = .type "list" ∧ o.dict = none ∧ o.data = .seq its n ∧ its.size ≤ sizeLine ∧ Vals xs its.toList
def SqT (K : PySem.W.Frag) (H : Hp) (a : Addr) (xs : List V) : Prop :=
  Rd H a (.tup xs) ∨
    ∃ (o : Obj) (its : Array Value) (n : Nat), K.lookup a = some o ∧ o.cls = .type "tuple" ∧ o.data = .seq its n ∧ its.size ≤ sizeLine ∧ Vals xs its.toList
def absV : Value → Option V
  | .none => some .non
  | .bool b => some (.bl b)
  | .int i _ => some (.int i)
  | .str x _ => some (.str x)
  | .bytes b _ => some (.byt b)
  | .float b _ => some (.flt b)
  | .ref a => some (.ref a)
  | .type n => some (.ty n)
  | _ => none
theorem RelV.abs {x : V} {u : Value} (r : RelV x u) : absV u = some x := by
  cases x with
  | non => cases r; rfl
  | bl _ => cases r; rfl
  | int _ => obtain ⟨t, rfl⟩ := r; rfl
  | str _ => obtain ⟨t, rfl⟩ := r; rfl
  | byt _ => obtain ⟨t, rfl⟩ := r; rfl
  | flt _ => obtain ⟨t, rfl⟩ := r; rfl
  | ref _ => cases r; rfl
  | ty _ => cases r; rfl
theorem RelV.inj {x y : V} {u : Value} (r : RelV x u) (q : RelV y u) : x = y := Option.some.inj (r.abs.symm.trans q.abs)
theorem Vals.inj : ∀ {xs ys : List V} {us : List Value}, Vals xs us → Vals ys us → xs = ys
  | _, _, _, .nil, .nil => rfl
  | _, _, _, .cons r t, .cons r' t' => by rw [r.inj r', Vals.inj t t']
section
variable {X : Cx} {pins : List (Addr × Obj)} {σ : St} {H : Hp} {s : Shared} {a : Addr} {xs ys : List V}
theorem SqL.of {K : PySem.W.Frag} (h : H a = some (.lst xs)) : SqL K H a xs := .inl (.inl h)
theorem SqT.of {K : PySem.W.Frag} (h : H a = some (.tup xs)) : SqT K H a xs := .inl (.inl h)
theorem Inv.list (I : Inv X pins σ H s) (h : SqL X.K H a xs) : ∃ its : List Value, Vals xs its ∧ PlainL s.heap a its.toArray ∧ xs.length ≤ sizeLine := by
  rcases h with h | ⟨o, its, n, hk, hc, hd, hs, hz, r⟩
  · obtain ⟨z, its, n, r, e⟩ := h.ok I.hok
    exact ⟨its, r, ⟨_, n, e, rfl, rfl, rfl⟩, z⟩
  · refine ⟨its.toList, r, ⟨o, n, I.kIn a o hk, hc, hd, by simpa using hs⟩, ?_⟩
    have e := r.length
    simp only [Array.length_toList] at e
    omega
theorem Inv.tuple (I : Inv X pins σ H s) (h : SqT X.K H a xs) : ∃ its : List Value, Vals xs its ∧ IsTup s.heap a its.toArray ∧ xs.length ≤ sizeLine := by
  rcases h with h | ⟨o, its, n, hk, hc, hs, hz, r⟩
  · obtain ⟨z, its, r, p⟩ := h.ok I.hok
    exact ⟨its, r, p, z.1⟩
  · refine ⟨its.toList, r, ⟨o, I.kIn a o hk, hc, n, by simpa using hs⟩, ?_⟩
    have e := r.length
    simp only [Array.length_toList] at e
    omega
theorem Inv.list_inj (I : Inv X pins σ H s) (h : SqL X.K H a xs) (h' : SqL X.K H a ys) : xs = ys := by
  obtain ⟨its, r, ⟨o, n, e, _, _, d⟩, _⟩ := I.list h
  obtain ⟨its', r', ⟨o', n', e', _, _, d'⟩, _⟩ := I.list h'
  rw [e] at e'; cases e'
  rw [d] at d'
  injection d' with d1 _
  have : its = its' := by simpa using congrArg Array.toList d1
  subst this
  exact r.inj r'
theorem Inv.tuple_inj (I : Inv X pins σ H s) (h : SqT X.K H a xs) (h' : SqT X.K H a ys) : xs = ys := by
  obtain ⟨its, r, ⟨o, e, _, n, d⟩, _⟩ := I.tuple h
  obtain ⟨its', r', ⟨o', e', _, n', d'⟩, _⟩ := I.tuple h'
  rw [e] at e'; cases e'
  rw [d] at d'
  injection d' with d1 _
  have : its = its' := by simpa using congrArg Array.toList d1
  subst this
  exact r.inj r'
end

abbrev Cx.wish (X : Cx) (E : Value → Shared → Prop) : Cx := { X with xe := E }
/-- no exception leaves -/
abbrev Cx.nox (X : Cx) : Cx := X.wish fun _ _ => False
theorem Cx.Ok.wish {X : Cx} (ok : X.Ok) (E : Value → Shared → Prop) : (X.wish E).Ok :=
  ⟨ok.mod, ok.kind, ok.glob, ok.blt, ok.above, ok.inj, ok.has, ok.cab, ok.hd, ok.frames, ok.stk, ok.exf, ok.bs, ok.bsz, ok.noex, ok.exfs, ok.funs, ok.frf⟩
theorem Cx.Ok.unwish {X : Cx} {E : Value → Shared → Prop} (ok : (X.wish E).Ok) : X.Ok :=
  ⟨ok.mod, ok.kind, ok.glob, ok.blt, ok.above, ok.inj, ok.has, ok.cab, ok.hd, ok.frames, ok.stk, ok.exf, ok.bs, ok.bsz, ok.noex, ok.exfs, ok.funs, ok.frf⟩
section
variable {X : Cx} {pins : List (Addr × Obj)} {σ : St} {H : Hp} {s : Shared} {E : Value → Shared → Prop}
theorem Inv.wish (I : Inv X pins σ H s) (E : Value → Shared → Prop) : Inv (X.wish E) pins σ H s := ⟨I.ok.wish E, I.os, I.bare, I.base, I.loc, I.cell, I.free, I.freeC, I.pin, I.hok, I.len⟩
theorem Inv.unwish (I : Inv (X.wish E) pins σ H s) : Inv X pins σ H s := ⟨I.ok.unwish, I.os, I.bare, I.base, I.loc, I.cell, I.free, I.freeC, I.pin, I.hok, I.len⟩
theorem SP.unwish {D : Ends} {f : Flow} {s' : Shared} (h : SP (X.wish E) pins D f s') : SP X pins D f s' := by
  cases f with
  | next => obtain ⟨σ', H', I, q⟩ := h; exact ⟨σ', H', I.unwish, q⟩
  | brk => obtain ⟨σ', H', I, q⟩ := h; exact ⟨σ', H', I.unwish, q⟩
  | cont => obtain ⟨σ', H', I, q⟩ := h; exact ⟨σ', H', I.unwish, q⟩
  | ret u => obtain ⟨v, σ', H', I, r, q⟩ := h; exact ⟨v, σ', H', I.unwish, r, q⟩
theorem PSs.nox {st : List Stmt} {t : TS} (h : PSs X.nox st t) : PSs X st t := fun pins s σ H D I hw =>
  wpAny_mono (h pins s σ H D (I.wish _) hw) (fun _ _ q => q.unwish) fun _ _ z => False.elim z
end

section
variable {X : Cx} {st : Stmt} {rest : List Stmt} {t u : TS} {e : Expr} {te : TE} {pos : Pos}
def tNext : TS := fun D σ H => D.nx σ H
def tSeq (t u : TS) : TS := fun D σ H => t { D with nx := u D } σ H
theorem pss_nil : PSs X [] tNext := fun _ _ σ H _ I h => wpAny_execs_nil ⟨σ, H, I, h⟩
theorem pss_cons (h1 : PS X st t) (h2 : PSs X rest u) : PSs X (st :: rest) (tSeq t u) := by
  intro pins s σ H D I h
  refine wpAny_execs_cons (thn (h1 pins s σ H { D with nx := u D } I h) fun f s1 q => ?_)
  cases f with
  | next =>
    obtain ⟨σ', H', I', q⟩ := q
    exact h2 pins s1 σ' H' D I' q
  | ret v => exact q
  | brk => exact q
  | cont => exact q
theorem pss_one (h1 : PS X st t) : PSs X [st] t := by
  intro pins s σ H D I h
  refine wpAny_execs_cons (thn (h1 pins s σ H D I h) fun f s1 q => ?_)
  cases f with
  | next => exact wpAny_execs_nil q
  | ret v => exact q
  | brk => exact q
  | cont => exact q
/-- in a def's body nothing is shown -/
theorem Inv.quiet {pins : List (Addr × Obj)} {σ : St} {H : Hp} {s : Shared} (I : Inv X pins σ H s) : interactive X.env = false := by simp [interactive, I.ok.kind]
/-- an expression whose value is dropped -/
def tDrop (te : TE) : TS := fun D σ H => te σ H fun _ H1 => D.nx σ H1
theorem ps_expr (he : PE X e te) (hs : swapsWith e none pos.line X.env = pure false := by rfl) : PS X (.Expr e pos) (tDrop te) := by
  intro pins s σ H D I h
  exact wpAny_Expr_any (thn (he pins s σ H _ I h) fun v s1 ⟨x, H1, I1, r1, q1⟩ => ⟨σ, H1, I1, q1⟩) I.quiet hs
def tRet (te : TE) : TS := fun D σ H => te σ H D.rt
theorem ps_ret (he : PE X e te) : PS X (.Return (some e) pos) (tRet te) := by
  intro pins s σ H D I h
  exact wpAny_Return_some (thn (he pins s σ H _ I h) fun v s1 ⟨x, H1, I1, r1, q1⟩ => ⟨x, σ, H1, I1, r1, q1⟩)
def tIfS (c : TT) (t u : TS) : TS := fun D σ H => c σ H fun b H1 => if b = true then t D σ H1 else u D σ H1
theorem ps_if {c : Expr} {a b : List Stmt} {tc : TT} (hc : PT X c tc) (ha : PSs X a t) (hb : PSs X b u) : PS X (.If c a b pos) (tIfS tc t u) := by
  intro pins s σ H D I h
  refine wpAny_If (thn (hc pins s σ H _ I h) fun d s1 ⟨H1, I1, q1⟩ => ?_)
  cases d with
  | true => exact ha pins s1 σ H1 D I1 q1
  | false => exact hb pins s1 σ H1 D I1 q1
/-- code that the proof never comes to -/
def tNever : TS := fun _ _ _ => False
theorem pss_never {sts : List Stmt} : PSs X sts tNever := fun _ _ _ _ _ _ h => h.elim
end

abbrev TG := V → St → Hp → (St → Hp → Prop) → Prop
abbrev TGs := List V → St → Hp → (St → Hp → Prop) → Prop
def PG (X : Cx) (target : Expr) (t : TG) : Prop :=
  ∀ (pins : List (Addr × Obj)) (s : Shared) (σ : St) (H : Hp) (v : V) (u : Value) (Q : St → Hp → Prop), Inv X pins σ H s → RelV v u → t v σ H Q →
    wpAny (model X.prog X.w) X.A (assign target X.env u) (fun _ s' => ∃ σ' H', Inv X pins σ' H' s' ∧ Q σ' H') X.xe s
/-- several targets, one after another -/
def PGs (X : Cx) (ts : List Expr) (t : TGs) : Prop :=
  ∀ (pins : List (Addr × Obj)) (s : Shared) (σ : St) (H : Hp) (vs : List V) (us : List Value) (Q : St → Hp → Prop), Inv X pins σ H s → Vals vs us → t vs σ H Q →
    wpAny (model X.prog X.w) X.A (assignInOrder ((assignEach ts X.env).map (·.2)) us) (fun _ s' => ∃ σ' H', Inv X pins σ' H' s' ∧ Q σ' H') X.xe s
/-- o[i] = v, by values -/
abbrev TSet := V → V → V → Hp → (Hp → Prop) → Prop
def PSet (X : Cx) (t : TSet) : Prop :=
  ∀ (pins : List (Addr × Obj)) (s : Shared) (σ : St) (H : Hp) (o i v : V) (ov iv u : Value) (Q : Hp → Prop), Inv X pins σ H s → RelV o ov → RelV i iv → RelV v u → t o i v H Q →
    wpAny (model X.prog X.w) X.A (setItem ov iv u) (fun _ s' => ∃ H', Inv X pins σ H' s' ∧ Q H') X.xe s
/-- a op= b, by values -/
abbrev TIp := V → V → Hp → VK → Prop
def PIp (X : Cx) (op : Operator) (t : TIp) : Prop :=
  ∀ (pins : List (Addr × Obj)) (s : Shared) (σ : St) (H : Hp) (x y : V) (v u : Value) (Q : VK), Inv X pins σ H s → RelV x v → RelV y u → t x y H Q →
    wpAny (model X.prog X.w) X.A (inplaceOp op v u) (EP X pins σ Q) X.xe s
section
variable {X : Cx} {pos : Pos}
def gName (i : Nat) : TG := fun v σ H Q => Q (σ.set i (some v)) H
theorem pg_name {i : Nat} {x : Str} (hN : X.N.Nodup) (hi : X.N[i]? = some x) (hx : Loc X.env.scope x) (hf : X.fn x = true ∨ X.env.scope.names.lookup x = some .local := by first | exact .inl rfl | exact .inr rfl | assumption) : PG X (.Name x pos) (gName i) := by
  intro pins s σ H v u Q I r h
  exact wpAny_assign_Name (store_ok I hN hi hx r (fun s' I' => ⟨_, H, I', h⟩) hf)
def gNil : TGs := fun vs σ H Q => vs = [] ∧ Q σ H
def gCons (t : TG) (u : TGs) : TGs := fun vs σ H Q => ∃ v r, vs = v :: r ∧ t v σ H fun σ' H' => u r σ' H' Q
theorem pgs_nil : PGs X [] gNil := by
  intro pins s σ H vs us Q I r h
  obtain ⟨e, h⟩ := h
  subst e
  cases r
  exact assignInOrder_nil ⟨σ, H, I, h⟩
theorem pgs_cons {e : Expr} {es : List Expr} {t : TG} {u : TGs} (h1 : PG X e t) (h2 : PGs X es u)
    (hs : (assignEach (e :: es) X.env).map (·.2) = assign e X.env :: (assignEach es X.env).map (·.2) := by rfl) : PGs X (e :: es) (gCons t u) := by
  intro pins s σ H vs us Q I r h
  obtain ⟨v, vr, e1, h⟩ := h
  subst e1
  cases r with
  | cons r rr =>
    rw [hs]
    refine assignInOrder_cons (thn (h1 pins s σ H _ _ _ I r h) fun _ s1 ⟨σ1, H1, I1, q1⟩ => ?_)
    exact h2 pins s1 σ1 H1 _ _ Q I1 rr q1
/-- (a, b, ..) = a tuple of that length -/
def gTup (K : PySem.W.Frag) (n : Nat) (t : TGs) : TG := fun v σ H Q => ∃ a xs, v = .ref a ∧ SqT K H a xs ∧ xs.length = n ∧ t xs σ H Q
theorem pg_tup {es : List Expr} {k : Nat} {t : TGs} {n : Nat} (hc : X.calm = true) (h : PGs X es t)
    (hn : (assignEach es X.env).length = n := by rfl) (hst : (assignEach es X.env).findIdx? (·.1) = none := by rfl) : PG X (.Tuple es k pos) (gTup X.K n t) := by
  intro pins s σ H v u Q I r hw
  obtain ⟨a, xs, e1, hq, hl, hw⟩ := hw
  subst e1
  cases r
  obtain ⟨its, rv, ht, hz⟩ := I.tuple hq
  refine assign_Tuple_tuple (I.ok.hd hc) ht (by simp [hn, ← hl, rv.length]) hst fun h' hx => ?_
  have I1 : Inv X pins σ H { s with heap := h' } := I.kept (t' := s.toks) fun b o e => hx b o (Nat.ne_of_lt (Heap.lt_size e)) e
  exact h pins _ σ H xs _ Q I1 (by simpa using rv) hw
/-- target = value -/
def tAsg (te : TE) (g : TG) : TS := fun D σ H => te σ H fun x H1 => g x σ H1 D.nx
theorem ps_asg {tg e : Expr} {te : TE} {g : TG} (he : PE X e te) (hg : PG X tg g) (hs : swapsWithSole [tg] e pos.line X.env = pure false := by rfl) (hw : swappedStores [tg] e X.env = pure none := by rfl)
    (h1 : (assignEach [tg] X.env).map (·.2) = [assign tg X.env] := by rfl) : PS X (.Assign [tg] e pos) (tAsg te g) := by
  intro pins s σ H D I h
  refine wpAny_Assign_stores (thn (he pins s σ H _ I h) fun v s1 ⟨x, H1, I1, r1, q1⟩ => ?_) hs hw
  rw [h1]
  exact thn (hg pins s1 σ H1 x v _ I1 r1 q1) fun _ s2 q => q
/-- name = value -/
theorem ps_set {i : Nat} {x : Str} {e : Expr} {te : TE} {pos' : Pos} (hN : X.N.Nodup) (hi : X.N[i]? = some x) (hx : Loc X.env.scope x) (he : PE X e te) (hs : swapsWith e (some (.Name x pos')) pos.line X.env = pure false := by rfl) (hf : X.fn x = true ∨ X.env.scope.names.lookup x = some .local := by first | exact .inl rfl | exact .inr rfl | assumption) :
    PS X (.Assign [.Name x pos'] e pos) (tAsg te (gName i)) := by
  intro pins s σ H D I h
  refine wpAny_Assign_Name (thn (he pins s σ H _ I h) fun v s1 ⟨y, H1, I1, r1, q1⟩ => ?_) hs
  exact store_ok I1 hN hi hx r1 (fun s2 I2 => ⟨_, H1, I2, q1⟩) hf
/-- a, b = x, y with plain local names: stored from the right; the pair itself is not tracked (the opening rows as in PyProof/Rows/TupAssign.lean:23) -/
def tPar (i j : Nat) (ta : TA) : TS := fun D σ H => ta σ H fun vs H1 => ∃ v w, vs = [v, w] ∧ D.nx ((σ.set i (some v)).set j (some w)) H1
theorem ps_par {i j : Nat} {x y : Str} {a b : Expr} {ta : TA} {px py pt : Pos} {kt k2 pt2} (hc : X.calm = true) (hN : X.N.Nodup) (hi : X.N[i]? = some x) (hj : X.N[j]? = some y) (hij : i ≠ j)
    (hx : X.env.scope.names.lookup x = some .local) (hy : X.env.scope.names.lookup y = some .local) (ha : PA X [a, b] ta)
    (hw : swappedStores [.Tuple [.Name x px, .Name y py] kt pt] (.Tuple [a, b] k2 pt2) X.env = pure (some [x, y]))
    (hs : swapsWithSole [.Tuple [.Name x px, .Name y py] kt pt] (.Tuple [a, b] k2 pt2) pos.line X.env = pure false := by rfl) :
    PS X (.Assign [.Tuple [.Name x px, .Name y py] kt pt] (.Tuple [a, b] k2 pt2) pos) (tPar i j ta) := by
  intro pins s σ H D I h
  rw [exec_Assign_arm]
  refine wpAny_bind (wpAny_standAt ?_)
  rw [hs]
  refine wpAny_bind (wpAny_pure ?_)
  rw [if_neg (by decide)]
  refine wpAny_bind (Tuple_ (thn (ha _ pins s σ H _ I h) fun us s1 ⟨vs, H1, I1, r1, q1⟩ => ?_))
  obtain ⟨v, w, e1, q1⟩ := q1
  subst e1
  obtain ⟨u1, u2, rfl, rv, rw'⟩ : ∃ u1 u2, us = [u1, u2] ∧ RelV v u1 ∧ RelV w u2 := by
    cases r1 with
    | cons p q =>
      cases q with
      | cons p' q' =>
        cases q'
        exact ⟨_, _, rfl, p, p'⟩
  refine wpAny_newObj_type ?_ (by show 2 ≤ sizeLine; decide)
  have I2 : Inv X pins σ H1 { s1 with heap := s1.heap.push { cls := .type "tuple", data := .seq [u1, u2].toArray } } := I1.kept (t' := s1.toks) fun b o e => Heap.get?_push_of_some _ e
  rw [hw]
  refine wpAny_bind (wpAny_pure ?_)
  show wpAny (model X.prog X.w) X.A (do rule "assign.swapped-stores"; let items ← unpackItems (.ref s1.heap.objs.size) 2 none; assignInOrder [fun v => bindName X.env y v, fun v => bindName X.env x v] items.reverse; pure Flow.next) _ _ _
  refine wpAny_bind (wpAny_rule (wpAny_bind (unpackItems_tuple (items := #[u1, u2]) (I.ok.hd hc) (IsTup.new s1.heap _) fun h' hx' => ?_)))
  have I3 := I2.kept (h' := h') (t' := s1.toks) fun b o e => hx' b o (Nat.ne_of_lt (Heap.lt_size e)) e
  show wpAny _ _ (assignInOrder [fun v => bindName X.env y v, fun v => bindName X.env x v] [u2, u1] >>= fun _ => pure Flow.next) _ _ _
  refine wpAny_bind (assignInOrder_cons (wpAny_bindName (store_ok I3 hN hj (.inl hy) rw' (fun s2 I4 => ?_) (.inr hy))))
  refine assignInOrder_cons (wpAny_bindName (store_ok I4 hN hi (.inl hx) rv (fun s3 I5 => assignInOrder_nil (wpAny_pure ?_)) (.inr hx)))
  rw [List.set_comm _ _ (Ne.symm hij)] at I5
  exact ⟨_, H1, I5, q1⟩
/-- name op= e -/
def tAug (i : Nat) (te : TE) (ti : TIp) : TS := fun D σ H => ∃ x, σ[i]? = some (some x) ∧ te σ H fun y H1 => ti x y H1 fun z H2 => D.nx (σ.set i (some z)) H2
theorem ps_aug {i : Nat} {x : Str} {e : Expr} {te : TE} {op : Operator} {ti : TIp} {pos' : Pos} (hN : X.N.Nodup) (hi : X.N[i]? = some x) (hx : Loc X.env.scope x) (he : PE X e te) (ho : PIp X op ti) (hf : X.fn x = true ∨ X.env.scope.names.lookup x = some .local := by first | exact .inl rfl | exact .inr rfl | assumption) :
    PS X (.AugAssign (.Name x pos') op e pos) (tAug i te ti) := by
  intro pins s σ H D I h
  obtain ⟨v, e1, h⟩ := h
  obtain ⟨m, hn, hl⟩ := I.loc
  have vis : Vis X.env.scope x := by rcases hx with k | k; exact .inl k; exact .inr (.inl k)
  obtain ⟨u, r, l⟩ := hl i x v hi e1 vis
  refine wpAny_AugAssign_Name ?_
  have go : wpAny (model X.prog X.w) X.A (eval e X.env) (fun w s₂ => wpAny (model X.prog X.w) X.A (inplaceOp op u w) (fun r s₃ => wpAny (model X.prog X.w) X.A (storeName X.env x r) (fun _ => SP X pins D .next) X.xe s₃) X.xe s₂) X.xe s := by
    refine thn (he pins s σ H _ I h) fun w s1 ⟨y, H1, I1, r1, q1⟩ => ?_
    refine thn (ho pins s1 σ H1 v y u w _ I1 r r1 q1) fun z s2 ⟨zv, H2, I2, r2, q2⟩ => ?_
    exact store_ok I2 hN hi hx r2 (fun s3 I3 => ⟨_, H2, I3, q2⟩) hf
  rcases l with ⟨hk, hm⟩ | ⟨hk, c, hc, hcell⟩
  · exact wpAny_loadName_local I.ok.kind hk hn hm go
  · rcases hk with hk | hk
    · exact wpAny_loadName_cell I.ok.kind hk hc hcell go
    · rcases hx with k | k
      · have : X.env.scope.names.lookup x = some .free := hk
        rw [k] at this; cases this
      · have : X.env.scope.names.lookup x = some .free := hk
        rw [k] at this; cases this
/-- ints -/
def ipI (f : Int → Int → Int) : TIp := fun x y H Q => ∃ i j, x = .int i ∧ y = .int j ∧ Q (.int (f i j)) H
theorem ip_add : PIp X .Add (ipI fun i j => i + j) := by
  intro pins s σ H x y v u Q I r1 r2 h
  obtain ⟨i, j, e1, e2, q⟩ := h
  subst e1; subst e2
  obtain ⟨t, rfl⟩ := r1
  obtain ⟨t', rfl⟩ := r2
  exact iadd_int ⟨.int _, H, I.tok _, ⟨_, rfl⟩, q⟩
end

section
variable {X : Cx} {pos : Pos}
/-- the invariant W with its measure -/
def tWhile (c : TT) (tb : TS) : TS := fun D σ H => ∃ W : Nat → St → Hp → Prop, (∃ m, W m σ H) ∧ ∀ m σ H, W m σ H →
  c σ H fun b H1 => if b = true then ∃ N : St → Hp → Prop, (∀ σ' H', N σ' H' → ∃ m', m' < m ∧ W m' σ' H') ∧ tb { D with nx := N, ct := N, bk := D.nx } σ H1 else D.nx σ H1
theorem ps_while {c : Expr} {body : List Stmt} {tc : TT} {tb : TS} (hp : PassesOwn (model X.prog X.w) X.A X.env X.xe) (hc : PT X c tc) (hb : PSs X body tb) : PS X (.While c body [] pos) (tWhile tc tb) := by
  intro pins s σ H D I h
  obtain ⟨W, ⟨m0, w0⟩, turn⟩ := h
  refine wpAny_While (codeAny_whileLoop (fun n s' => ∃ σ' H', Inv X pins σ' H' s' ∧ W n σ' H') ?_ m0 ⟨σ, H, I, w0⟩)
  rintro n s1 ⟨σ1, H1, I1, w1⟩
  refine wpAny_passesOwn hp (thn (hc pins s1 σ1 H1 _ I1 (turn n σ1 H1 w1)) fun b s2 ⟨H2, I2, q2⟩ => ?_)
  cases b with
  | true =>
    obtain ⟨N, hN, q2⟩ := q2
    rw [if_pos rfl]
    refine wpAny_passesOwn hp (thn (hb pins s2 σ1 H2 _ I2 q2) fun f s3 q3 => ?_)
    cases f with
    | next =>
      obtain ⟨σ3, H3, I3, n3⟩ := q3
      obtain ⟨m', hm, w3⟩ := hN σ3 H3 n3
      exact ⟨m', hm, σ3, H3, I3, w3⟩
    | cont =>
      obtain ⟨σ3, H3, I3, n3⟩ := q3
      obtain ⟨m', hm, w3⟩ := hN σ3 H3 n3
      exact ⟨m', hm, σ3, H3, I3, w3⟩
    | brk => exact q3
    | ret v => exact q3
  | false =>
    rw [if_neg Bool.false_ne_true]
    exact wpAny_execs_nil ⟨σ1, H2, I2, q2⟩
end

/-- at turn i: it yields x (the heap may grow), or it stops -/
structure It where
  go : Nat → Hp → Prop
  yld : Nat → Hp → V → Hp → Prop
  stop : Nat → Hp → Prop
/-- the iterator's own objects may turn: they are not the frame's, not pinned, younger than the entry (or a comprehension's own) -/
def FpOk (X : Cx) (pins : List (Addr × Obj)) (H : Hp) (b : Addr) : Prop :=
  H b = none ∧ b ≠ X.env.locals ∧ b ∉ X.fs ∧ (b ∈ X.ex ∨ X.s₀.heap.objs.size ≤ b) ∧ (∀ x c, X.env.cells.lookup x = some c → c ≠ b) ∧ ∀ p ∈ X.pn ++ pins, p.1 ≠ b
theorem Inv.fpOk {X : Cx} {pins : List (Addr × Obj)} {σ : St} {H H' : Hp} {s : Shared} {b : Addr} (I : Inv X pins σ H s) (hb : s.heap.objs.size ≤ b) (hn : H' b = none) : FpOk X pins H' b := by
  refine ⟨hn, Nat.ne_of_gt (Nat.lt_of_lt_of_le I.lt hb), I.nofs hb, .inr (Nat.le_trans I.sz hb), fun x c e z => ?_, fun p hp z => ?_⟩
  · obtain ⟨v, q⟩ := I.cell x c e
    exact absurd (Nat.lt_of_lt_of_le q.lt (by rw [z]; exact hb)) (Nat.lt_irrefl _)
  · exact absurd (Nat.lt_of_lt_of_le (Heap.lt_size (I.pin p hp).1) (by rw [z]; exact hb)) (Nat.lt_irrefl _)
structure Turn (P : Program) (w : World) (K : PySem.W.Frag) (tg : Expr) (J : It) (fp : List Addr) (it : Addr) (tn : Nat → Heap → Prop) : Prop where
  mem : it ∈ fp
  obj : ∀ i h, tn i h → ∀ b ∈ fp, ∃ o, h.get? b = some o ∧ ∀ v, o.data ≠ .cell v
  keep : ∀ i h h', tn i h → (∀ b ∈ fp, ∀ o, h.get? b = some o → h'.get? b = some o) → tn i h'
  item : ∀ (X : Cx), X.prog = P → X.w = w → X.K = K → X.calm = true → ∀ (i : Nat) (pins : List (Addr × Obj)) (s : Shared) (σ : St) (H : Hp) (E : Value → Shared → Prop), Inv X pins σ H s → (∀ b ∈ fp, FpOk X pins H b) → tn i s.heap → J.go i H →
    wpAny (model P w) X.A (pyNext (.ref it)) (fun r s1 => ∃ u, r = some u ∧
      wpAny (model P w) X.A (letOwnedTupleGo tg (.ref it) u) (fun _ s2 => ∃ x H', Inv X pins σ H' s2 ∧ RelV x u ∧ J.yld i H x H' ∧ tn (i + 1) s2.heap ∧ ∀ b ∈ fp, H' b = none) E s1) E s
  done : ∀ (X : Cx), X.prog = P → X.w = w → X.K = K → X.calm = true → ∀ (i : Nat) (pins : List (Addr × Obj)) (s : Shared) (σ : St) (H : Hp) (E : Value → Shared → Prop), Inv X pins σ H s → (∀ b ∈ fp, FpOk X pins H b) → tn i s.heap → J.stop i H →
    wpAny (model P w) X.A (pyNext (.ref it)) (fun r s1 => r = none ∧ Inv X pins σ H s1) E s
  self : ∀ (A : Around) (i : Nat) (s : Shared) (Q : Value → Shared → Prop) (E : Value → Shared → Prop), tn i s.heap → Q (.ref it) s → wpAny (model P w) A (pyIter (.ref it)) Q E s
abbrev TI := St → Hp → (It → Hp → Prop) → Prop
/-- an iterator has come -/
def PIE (X : Cx) (pins : List (Addr × Obj)) (σ : St) (tg : Expr) (R : It → Hp → Prop) (itv : Value) (s2 : Shared) : Prop :=
  ∃ (it : Addr) (fp : List Addr) (tn : Nat → Heap → Prop) (J : It) (H' : Hp), itv = .ref it ∧ Inv X pins σ H' s2 ∧ Turn X.prog X.w X.K tg J fp it tn ∧ tn 0 s2.heap ∧ (∀ b ∈ fp, FpOk X pins H' b) ∧ R J H'
def PI (X : Cx) (tg iter : Expr) (wi : TI) : Prop :=
  ∀ (pins : List (Addr × Obj)) (s : Shared) (σ : St) (H : Hp) (R : It → Hp → Prop), Inv X pins σ H s → wi σ H R →
    wpAny (model X.prog X.w) X.A (eval iter X.env) (fun v s1 => wpAny (model X.prog X.w) X.A (pyIter v) (PIE X pins σ tg R) X.xe s1) X.xe s

/-- the step ahead of the store is nothing for an iterator that keeps no tuple -/
theorem go_of {M : Model} {A : Around} {E : Value → Shared → Prop} {s : Shared} {tg : Expr} {it : Addr} {u : Value} {o : Obj} {n : String} {vs : Array Value} {Q : Unit → Shared → Prop} (ho : s.heap.get? it = some o) (hc : o.cls = .type n) (hd : o.data = .fields vs)
    (hn : ["enumerate", "zip", "dict_itemiterator", "dict_reverseitemiterator", "odict_iterator", "itertools.zip_longest", "itertools.pairwise"].contains n = false) (hQ : Q () s) : wpAny M A (letOwnedTupleGo tg (.ref it) u) Q E s := by
  unfold letOwnedTupleGo
  cases tg <;> first
    | exact wpAny_pure hQ
    | (cases u <;> first
        | exact wpAny_pure hQ
        | (refine wpAny_bind (wpAny_load ho ?_)
           rw [hc, hd]
           show wpAny M A (if (["enumerate", "zip", "dict_itemiterator", "dict_reverseitemiterator", "odict_iterator", "itertools.zip_longest", "itertools.pairwise"].contains n && vs[0]? == some (rawInt _)) = true then _ else _) Q E s
           rw [if_neg (by intro h; rw [hn, Bool.false_and] at h; cases h)]
           exact wpAny_pure hQ))

/-- the list at a, as it stands at each turn (a loop may append to it) -/
def Itl (K : PySem.W.Frag) (a : Addr) : It :=
  ⟨fun i H => ∃ xs x, SqL K H a xs ∧ xs[i]? = some x, fun i H x H' => H' = H ∧ ∀ xs, SqL K H a xs → xs[i]? = some x, fun i H => ∃ xs, SqL K H a xs ∧ xs.length ≤ i⟩
def Itt (K : PySem.W.Frag) (a : Addr) : It :=
  ⟨fun i H => ∃ xs x, SqT K H a xs ∧ xs[i]? = some x, fun i H x H' => H' = H ∧ ∀ xs, SqT K H a xs → xs[i]? = some x, fun i H => ∃ xs, SqT K H a xs ∧ xs.length ≤ i⟩
/-- lo, lo + 1, .. (n of them) -/
def Itr (lo : Int) (n : Nat) : It := ⟨fun i _ => i < n, fun i H x H' => H' = H ∧ x = .int (lo + i), fun i _ => n ≤ i⟩
theorem turn_list {P : Program} {w : World} {K : PySem.W.Frag} {tg : Expr} (a it : Addr) : Turn P w K tg (Itl K a) [it] it (fun i h => h.IsListIter it a i) where
  mem := by simp
  obj := fun i h st b hb => by
    have e : b = it := by simpa using hb
    subst e
    obtain ⟨o, e, c, d⟩ := st
    exact ⟨o, e, fun v z => by rw [d] at z; cases z⟩
  keep := fun i h h' st k => st.at fun o e => k it (by simp) o e
  item := by
    intro X hP hw hK hc i pins s σ H E I hf st hg
    subst hP hw hK
    obtain ⟨xs, x, hq, hx⟩ := hg
    obtain ⟨its, rv, p, hz⟩ := I.list hq
    obtain ⟨u, hu, ru⟩ := rv.get hx
    obtain ⟨f0, f1, f2, f3, f4, f5⟩ := hf it (by simp)
    refine wpAny_pyNext_list_item st p.isList (x := u) (by simpa using hu) fun h' st' sb => ?_
    have I1 : Inv X pins σ H { s with heap := h' } := I.turned (t' := s.toks) (fun b o hb e => (sb.2 b hb).trans e) f0 f1 f3 f4 f5
    obtain ⟨o, e, c, d⟩ := id st'
    exact ⟨u, rfl, go_of (s := { s with heap := h' }) e c d (by decide) ⟨x, H, I1, ru, ⟨rfl, fun ys hy => by rw [I.list_inj hy hq]; exact hx⟩, st', fun b hb => (hf b hb).1⟩⟩
  done := by
    intro X hP hw hK hc i pins s σ H E I hf st hg
    subst hP hw hK
    obtain ⟨xs, hq, hx⟩ := hg
    obtain ⟨its, rv, p, hz⟩ := I.list hq
    obtain ⟨f0, f1, f2, f3, f4, f5⟩ := hf it (by simp)
    have hl := rv.length
    exact wpAny_pyNext_list_end (I.ok.hd hc) st p.isList (by simp; omega) fun h' eb => ⟨rfl, I.turned (t' := s.toks) (fun b o hb e => eb b o hb e) f0 f1 f3 f4 f5⟩
  self := fun _ _ _ _ _ st h => wpAny_pyIter_listiter st h
theorem turn_tuple {P : Program} {w : World} {K : PySem.W.Frag} {tg : Expr} (a it : Addr) : Turn P w K tg (Itt K a) [it] it (fun i h => h.IsTupleIter it a i) where
  mem := by simp
  obj := fun i h st b hb => by
    have e : b = it := by simpa using hb
    subst e
    obtain ⟨o, e, c, d⟩ := st
    exact ⟨o, e, fun v z => by rw [d] at z; cases z⟩
  keep := fun i h h' st k => st.at fun o e => k it (by simp) o e
  item := by
    intro X hP hw hK hc i pins s σ H E I hf st hg
    subst hP hw hK
    obtain ⟨xs, x, hq, hx⟩ := hg
    obtain ⟨its, rv, p, hz⟩ := I.tuple hq
    obtain ⟨u, hu, ru⟩ := rv.get hx
    obtain ⟨f0, f1, f2, f3, f4, f5⟩ := hf it (by simp)
    refine wpAny_pyNext_tuple_item st (show s.heap.IsTuple a its.toArray from p) (x := u) (by simpa using hu) fun h' st' sb => ?_
    have I1 : Inv X pins σ H { s with heap := h' } := I.turned (t' := s.toks) (fun b o hb e => (sb.2 b hb).trans e) f0 f1 f3 f4 f5
    obtain ⟨o, e, c, d⟩ := id st'
    exact ⟨u, rfl, go_of (s := { s with heap := h' }) e c d (by decide) ⟨x, H, I1, ru, ⟨rfl, fun ys hy => by rw [I.tuple_inj hy hq]; exact hx⟩, st', fun b hb => (hf b hb).1⟩⟩
  done := by
    intro X hP hw hK hc i pins s σ H E I hf st hg
    subst hP hw hK
    obtain ⟨xs, hq, hx⟩ := hg
    obtain ⟨its, rv, p, hz⟩ := I.tuple hq
    obtain ⟨f0, f1, f2, f3, f4, f5⟩ := hf it (by simp)
    have hl := rv.length
    exact wpAny_pyNext_tuple_end (I.ok.hd hc) st (show s.heap.IsTuple a its.toArray from p) (by simp; omega) fun h' eb => ⟨rfl, I.turned (t' := s.toks) (fun b o hb e => eb b o hb e) f0 f1 f3 f4 f5⟩
  self := fun _ _ _ _ _ st h => wpAny_pyIter_tupleiter st h
theorem turn_range {P : Program} {w : World} {K : PySem.W.Frag} {tg : Expr} (it : Addr) (lo : Int) (n : Nat) : Turn P w K tg (Itr lo n) [it] it (fun i h => IsRangeIter h it (lo + (i : Nat) * 1) ((n : Int) - (i : Nat)) 1) where
  mem := by simp
  obj := fun i h st b hb => by
    have e : b = it := by simpa using hb
    subst e
    exact ⟨_, st, fun v z => by
      have z' : Data.fields _ = Data.cell v := z
      cases z'⟩
  keep := fun i h h' st k => k it (by simp) _ st
  item := by
    intro X hP hw hK hc i pins s σ H E I hf st hg
    subst hP hw hK
    obtain ⟨f0, f1, f2, f3, f4, f5⟩ := hf it (by simp)
    have W := Walks.range (prog := X.prog) (w := X.w) (I.ok.hd hc) it lo 1 n
    refine W.item i s _ _ hg st fun v h' tk hv st' kk => ?_
    obtain ⟨t, rfl⟩ := hv
    have I1 : Inv X pins σ H { s with heap := h', toks := tk } := I.turned (fun b o hb e => kk b o (by simpa using hb) e) f0 f1 f3 f4 f5
    refine ⟨_, rfl, go_of (s := { s with heap := h', toks := tk }) (n := "range_iterator") st' rfl rfl (by decide) ⟨.int (lo + i), H, I1, ⟨t, ?_⟩, ⟨rfl, rfl⟩, st', fun b hb => (hf b hb).1⟩⟩
    rw [Int.mul_one]
  done := by
    intro X hP hw hK hc i pins s σ H E I hf st hg
    subst hP hw hK
    obtain ⟨f0, f1, f2, f3, f4, f5⟩ := hf it (by simp)
    exact wpAny_pyNext_range_end (I.ok.hd hc) st (by have : n ≤ i := hg; omega) fun h' eb => ⟨rfl, I.turned (t' := s.toks) (fun b o hb e => eb b o hb e) f0 f1 f3 f4 f5⟩
  self := fun _ _ _ _ _ st h => wpAny_pyIter_rangeiter st h
end L2

namespace L2
open PySem PySem.Spec PyProof.Rows
section
variable {X : Cx} {tg : Expr}
def iList (K : PySem.W.Frag) (tl : TE) : TI := fun σ H R => tl σ H fun x H1 => ∃ a, x = .ref a ∧ (∃ xs, SqL K H1 a xs) ∧ R (Itl K a) H1
def iTup (K : PySem.W.Frag) (tl : TE) : TI := fun σ H R => tl σ H fun x H1 => ∃ a, x = .ref a ∧ (∃ xs, SqT K H1 a xs) ∧ R (Itt K a) H1
theorem pi_list {l : Expr} {tl : TE} (hl : PE X l tl) : PI X tg l (iList X.K tl) := by
  intro pins s σ H R I h
  refine thn (hl pins s σ H _ I h) fun v s1 ⟨x, H1, I1, r1, q1⟩ => ?_
  obtain ⟨a, e, ⟨xs, hq⟩, q⟩ := q1
  subst e
  cases r1
  obtain ⟨its, rv, p, hz⟩ := I1.list hq
  refine wpAny_pyIter_list p.isList ?_
  refine ⟨s1.heap.objs.size, [s1.heap.objs.size], _, _, H1, rfl, I1.kept (t' := s1.toks) fun b o e => Heap.get?_push_of_some _ e, turn_list a _, ⟨_, Heap.get?_push_size _ rfl, rfl, rfl⟩, fun b hb => ?_, q⟩
  have e : b = s1.heap.objs.size := by simpa using hb
  subst e
  exact I1.fpOk (Nat.le_refl _) (I1.hok.fresh (Nat.le_refl _))
theorem pi_tup {l : Expr} {tl : TE} (hl : PE X l tl) : PI X tg l (iTup X.K tl) := by
  intro pins s σ H R I h
  refine thn (hl pins s σ H _ I h) fun v s1 ⟨x, H1, I1, r1, q1⟩ => ?_
  obtain ⟨a, e, ⟨xs, hq⟩, q⟩ := q1
  subst e
  cases r1
  obtain ⟨its, rv, p, hz⟩ := I1.tuple hq
  refine wpAny_pyIter_tuple (show s1.heap.IsTuple a its.toArray from p) ?_
  refine ⟨s1.heap.objs.size, [s1.heap.objs.size], _, _, H1, rfl, I1.kept (t' := s1.toks) fun b o e => Heap.get?_push_of_some _ e, turn_tuple a _, ⟨_, Heap.get?_push_size _ rfl, rfl, rfl⟩, fun b hb => ?_, q⟩
  have e : b = s1.heap.objs.size := by simpa using hb
  subst e
  exact I1.fpOk (Nat.le_refl _) (I1.hok.fresh (Nat.le_refl _))
/-- a range object just made, walked -/
theorem range_it {pins : List (Addr × Obj)} {σ : St} {H : Hp} {s : Shared} {R : It → Hp → Prop} {E : Value → Shared → Prop} {lo hi : Int} {t u v : Tok} {tk : Nat} (I : Inv X pins σ H s) (h1 : -(2 ^ 62) ≤ lo) (h2 : lo < 2 ^ 62) (h3 : -(2 ^ 62) ≤ hi) (h4 : hi < 2 ^ 62)
    (q : R (Itr lo (hi - lo).toNat) H) : wpAny (model X.prog X.w) X.A (pyIter (.ref s.heap.objs.size)) (PIE X pins σ tg R) E { s with heap := s.heap.push { cls := .type "range", data := .fields #[.int lo t, .int hi u, .int 1 v] }, toks := tk } := by
  refine wpAny_pyIter_range (IsRange.new ..) (small_one h1 h2 h3 h4) ?_
  have I1 : Inv X pins σ H { s with heap := s.heap.push { cls := .type "range", data := .fields #[.int lo t, .int hi u, .int 1 v] }, toks := tk } := I.kept fun b o e => Heap.get?_push_of_some _ e
  refine ⟨(s.heap.push { cls := .type "range", data := .fields #[.int lo t, .int hi u, .int 1 v] }).objs.size, [(s.heap.push { cls := .type "range", data := .fields #[.int lo t, .int hi u, .int 1 v] }).objs.size], _, _, H, rfl,
    I1.kept (t' := tk) fun b o e => Heap.get?_push_of_some _ e, turn_range _ lo (hi - lo).toNat, ?_, fun b hb => ?_, q⟩
  · have e1 : lo + ((0 : Nat) : Int) * 1 = lo := by simp
    have e2 : (((hi - lo).toNat : Nat) : Int) - ((0 : Nat) : Int) = Builtin.Range.rangeSize lo hi 1 := by rw [rangeSize_one]; split <;> omega
    show IsRangeIter _ _ (lo + ((0 : Nat) : Int) * 1) ((((hi - lo).toNat : Nat) : Int) - ((0 : Nat) : Int)) 1
    rw [e1, e2]
    exact Heap.get?_push_size _ rfl
  · have e : b = (s.heap.push { cls := .type "range", data := .fields #[.int lo t, .int hi u, .int 1 v] }).objs.size := by simpa using hb
    subst e
    exact I1.fpOk (Nat.le_refl _) (I1.hok.fresh (Nat.le_refl _))
def iRng1 (ta : TA) : TI := fun σ H R => ta σ H fun vs H1 => ∃ j : Int, vs = [.int j] ∧ -(2 ^ 62) ≤ j ∧ j < 2 ^ 62 ∧ R (Itr 0 j.toNat) H1
theorem pi_range1 {a : Expr} {ta : TA} {p pos : Pos} (hg : Gl X "range") (hm : X.mg "range" = none) (ha : PA X [a] ta) (hs : starEach [a] X.env = [(false, eval a X.env)] := by rfl) : PI X tg (.Call (.Name "range" p) [a] [] pos) (iRng1 ta) := by
  intro pins s σ H R I h
  refine Call_ (ld_blt I hg hm boot_range (PyProof.Rows.callWith_type1 (thn (ha pos pins s σ H _ I h) fun us s1 ⟨vs, H1, I1, r1, q1⟩ => ?_) hs rfl))
  obtain ⟨j, e, q1, q2, q⟩ := q1
  subst e
  cases r1 with
  | cons r rr =>
    cases rr
    obtain ⟨t, rfl⟩ := r
    exact call_range_1 (range_it I1 (by omega) (by omega) q1 q2 (by simpa using q))
/-- W: the invariant by the turn and a measure; N: what the body is to reach -/
def tFor (wi : TI) (g : TG) (tb : TS) : TS := fun D σ H => wi σ H fun J H1 => ∃ W : Nat → Nat → St → Hp → Prop, (∃ m, W 0 m σ H1) ∧ ∀ i m σ H, W i m σ H →
  (J.stop i H ∧ D.nx σ H) ∨ (J.go i H ∧ ∃ N : St → Hp → Prop, (∀ σ' H', N σ' H' → ∃ m', m' < m ∧ W (i + 1) m' σ' H') ∧ ∀ x H', J.yld i H x H' → g x σ H' fun σ2 H2 => tb { D with nx := N, ct := N, bk := D.nx } σ2 H2)
/-- the records at fp as they stand -/
def pinsAt (fp : List Addr) (h : Heap) : List (Addr × Obj) := fp.filterMap fun b => (h.get? b).map fun o => (b, o)
theorem mem_pinsAt {fp : List Addr} {h : Heap} {b : Addr} {o : Obj} (hb : b ∈ fp) (e : h.get? b = some o) : (b, o) ∈ pinsAt fp h := List.mem_filterMap.mpr ⟨b, hb, by rw [e]; rfl⟩
theorem of_pinsAt {fp : List Addr} {h : Heap} {p : Addr × Obj} (hp : p ∈ pinsAt fp h) : p.1 ∈ fp ∧ h.get? p.1 = some p.2 := by
  obtain ⟨b, hb, e⟩ := List.mem_filterMap.mp hp
  cases q : h.get? b with
  | none => rw [q] at e; cases e
  | some o =>
    rw [q] at e
    have e' : (b, o) = p := Option.some.inj e
    subst e'
    exact ⟨hb, q⟩
theorem Inv.pinned {pins : List (Addr × Obj)} {σ : St} {H : Hp} {s : Shared} {fp : List Addr} (I : Inv X pins σ H s) (hf : ∀ b ∈ fp, FpOk X pins H b) (ho : ∀ b ∈ fp, ∃ o, s.heap.get? b = some o ∧ ∀ v, o.data ≠ .cell v) : Inv X (pins ++ pinsAt fp s.heap) σ H s :=
  I.pins_of fun p hp => (List.mem_append.mp hp).elim (fun z => I.pin p (List.mem_append_right _ z)) fun z => by
    obtain ⟨hb, e⟩ := of_pinsAt z
    obtain ⟨f0, f1, f2, _⟩ := hf p.1 hb
    obtain ⟨o, e', d⟩ := ho p.1 hb
    rw [e] at e'; cases e'
    exact ⟨e, f0, f1, f2, d⟩
theorem Inv.unpinned {pins pl : List (Addr × Obj)} {σ : St} {H : Hp} {s : Shared} (I : Inv X (pins ++ pl) σ H s) : Inv X pins σ H s := I.pins_of fun p hp => I.pin p (List.mem_append_right _ (List.mem_append_left _ hp))
theorem ps_for {iter : Expr} {body : List Stmt} {wi : TI} {g : TG} {tb : TS} {pos : Pos} (hp : PassesOwn (model X.prog X.w) X.A X.env X.xe) (hc : X.calm = true) (hi : PI X tg iter wi) (hg : PG X tg g) (hb : PSs X body tb)
    (hs : ∀ x, foldedSetIterable iter X.env x = pure x := by intro _; rfl) : PS X (.For tg iter body [] pos) (tFor wi g tb) := by
  intro pins s σ H D I h
  refine wpAny_For (thn (hi pins s σ H _ I h) fun v s1 h1 => thn h1 fun itv s2 h2 => ?_) hs
  obtain ⟨it, fp, tn, J, H2, e, I2, T, st2, f2, W, ⟨m0, w0⟩, turn⟩ := h2
  subst e
  -- what stays true of the iterator's objects through the loop
  have stat : ∀ {H' : Hp}, (∀ b ∈ fp, H' b = none) → ∀ b ∈ fp, FpOk X pins H' b := fun hn b hb => ⟨hn b hb, (f2 b hb).2⟩
  refine codeAny_forLoop_any (fun n s' => ∃ i σ' H', Inv X pins σ' H' s' ∧ tn i s'.heap ∧ (∀ b ∈ fp, H' b = none) ∧ W i n σ' H') ?_ m0 ⟨0, σ, H2, I2, st2, fun b hb => (f2 b hb).1, w0⟩
  rintro n s3 ⟨i, σ3, H3, I3, st3, fr3, w3⟩
  rcases turn i n σ3 H3 w3 with ⟨stop, qn⟩ | ⟨go, N, hN, step⟩
  · refine wpAny_passesOwn hp (thn (T.done X rfl rfl rfl hc i pins s3 σ3 H3 X.xe I3 (stat fr3) st3 stop) fun r s4 ⟨hr, I4⟩ => ?_)
    subst hr
    exact wpAny_execs_nil ⟨σ3, H3, I4, qn⟩
  · refine wpAny_passesOwn hp (thn (T.item X rfl rfl rfl hc i pins s3 σ3 H3 X.xe I3 (stat fr3) st3 go) fun r s4 ⟨u, hr, h4⟩ => ?_)
    subst hr
    refine wpAny_passesOwn hp (thn h4 fun _ s5 ⟨x, H5, I5, r5, y5, st5, fr5⟩ => ?_)
    have I5' := I5.pinned (stat fr5) (T.obj _ _ st5)
    refine wpAny_passesOwn hp (thn (hg _ s5 σ3 H5 x u _ I5' r5 (step x H5 y5)) fun _ s6 ⟨σ6, H6, I6, q6⟩ => ?_)
    refine wpAny_passesOwn hp (thn (hb _ s6 σ6 H6 _ I6 q6) fun f s7 q7 => ?_)
    have again : ∀ {σ7 : St} {H7 : Hp}, Inv X (pins ++ pinsAt fp s5.heap) σ7 H7 s7 → N σ7 H7 → ∃ m, m < n ∧ ∃ i σ' H', Inv X pins σ' H' s7 ∧ tn i s7.heap ∧ (∀ b ∈ fp, H' b = none) ∧ W i m σ' H' := fun {σ7 H7} I7 n7 => by
      obtain ⟨m', hm, w7⟩ := hN σ7 H7 n7
      refine ⟨m', hm, i + 1, σ7, H7, I7.unpinned, T.keep _ _ _ st5 fun b hb o e => (I7.pin (b, o) (List.mem_append_right _ (List.mem_append_right _ (mem_pinsAt hb e)))).1, fun b hb => ?_, w7⟩
      obtain ⟨o, e, d⟩ := T.obj _ _ st5 b hb
      exact (I7.pin (b, o) (List.mem_append_right _ (List.mem_append_right _ (mem_pinsAt hb e)))).2.1
    cases f with
    | next => obtain ⟨σ7, H7, I7, n7⟩ := q7; exact again I7 n7
    | cont => obtain ⟨σ7, H7, I7, n7⟩ := q7; exact again I7 n7
    | brk => obtain ⟨σ7, H7, I7, q7⟩ := q7; exact ⟨σ7, H7, I7.unpinned, q7⟩
    | ret v => obtain ⟨x7, σ7, H7, I7, r7, q7⟩ := q7; exact ⟨x7, σ7, H7, I7.unpinned, r7, q7⟩
end

/-- over a list that the body leaves as it is -/
theorem for_list {K : PySem.W.Frag} {a : Addr} {xs : List V} {g : TG} {tb : TS} {D : Ends} {σ : St} {H : Hp} (Pv : Nat → St → Hp → Prop) (h0 : Pv 0 σ H) (hl : ∀ i σ H, i ≤ xs.length → Pv i σ H → SqL K H a xs)
    (hs : ∀ i x σ H, xs[i]? = some x → Pv i σ H → g x σ H fun σ2 H2 => tb { D with nx := Pv (i + 1), ct := Pv (i + 1), bk := D.nx } σ2 H2) (hd : ∀ σ H, Pv xs.length σ H → D.nx σ H) :
    ∃ W : Nat → Nat → St → Hp → Prop, (∃ m, W 0 m σ H) ∧ ∀ i m σ H, W i m σ H →
      ((Itl K a).stop i H ∧ D.nx σ H) ∨ ((Itl K a).go i H ∧ ∃ N : St → Hp → Prop, (∀ σ' H', N σ' H' → ∃ m', m' < m ∧ W (i + 1) m' σ' H') ∧ ∀ x H', (Itl K a).yld i H x H' → g x σ H' fun σ2 H2 => tb { D with nx := N, ct := N, bk := D.nx } σ2 H2) := by
  refine ⟨fun i m σ H => m = xs.length - i ∧ i ≤ xs.length ∧ Pv i σ H, ⟨xs.length, by simp, Nat.zero_le _, h0⟩, ?_⟩
  rintro i m σ H ⟨rfl, hi, p⟩
  have q := hl i σ H hi p
  by_cases hlt : i < xs.length
  · refine .inr ⟨⟨xs, xs[i], q, by simp [hlt]⟩, Pv (i + 1), fun σ' H' p' => ⟨xs.length - (i + 1), by omega, rfl, hlt, p'⟩, fun x H' y => ?_⟩
    obtain ⟨e, y⟩ := y
    subst e
    exact hs i x σ _ (y xs q) p
  · have e : i = xs.length := by omega
    subst e
    exact .inl ⟨⟨xs, q, Nat.le_refl _⟩, hd σ H p⟩
theorem for_tup {K : PySem.W.Frag} {a : Addr} {xs : List V} {g : TG} {tb : TS} {D : Ends} {σ : St} {H : Hp} (Pv : Nat → St → Hp → Prop) (h0 : Pv 0 σ H) (hl : ∀ i σ H, i ≤ xs.length → Pv i σ H → SqT K H a xs)
    (hs : ∀ i x σ H, xs[i]? = some x → Pv i σ H → g x σ H fun σ2 H2 => tb { D with nx := Pv (i + 1), ct := Pv (i + 1), bk := D.nx } σ2 H2) (hd : ∀ σ H, Pv xs.length σ H → D.nx σ H) :
    ∃ W : Nat → Nat → St → Hp → Prop, (∃ m, W 0 m σ H) ∧ ∀ i m σ H, W i m σ H →
      ((Itt K a).stop i H ∧ D.nx σ H) ∨ ((Itt K a).go i H ∧ ∃ N : St → Hp → Prop, (∀ σ' H', N σ' H' → ∃ m', m' < m ∧ W (i + 1) m' σ' H') ∧ ∀ x H', (Itt K a).yld i H x H' → g x σ H' fun σ2 H2 => tb { D with nx := N, ct := N, bk := D.nx } σ2 H2) := by
  refine ⟨fun i m σ H => m = xs.length - i ∧ i ≤ xs.length ∧ Pv i σ H, ⟨xs.length, by simp, Nat.zero_le _, h0⟩, ?_⟩
  rintro i m σ H ⟨rfl, hi, p⟩
  have q := hl i σ H hi p
  by_cases hlt : i < xs.length
  · refine .inr ⟨⟨xs, xs[i], q, by simp [hlt]⟩, Pv (i + 1), fun σ' H' p' => ⟨xs.length - (i + 1), by omega, rfl, hlt, p'⟩, fun x H' y => ?_⟩
    obtain ⟨e, y⟩ := y
    subst e
    exact hs i x σ _ (y xs q) p
  · have e : i = xs.length := by omega
    subst e
    exact .inl ⟨⟨xs, q, Nat.le_refl _⟩, hd σ H p⟩
theorem for_range {lo : Int} {n : Nat} {g : TG} {tb : TS} {D : Ends} {σ : St} {H : Hp} (Pv : Nat → St → Hp → Prop) (h0 : Pv 0 σ H)
    (hs : ∀ i σ H, i < n → Pv i σ H → g (.int (lo + i)) σ H fun σ2 H2 => tb { D with nx := Pv (i + 1), ct := Pv (i + 1), bk := D.nx } σ2 H2) (hd : ∀ σ H, Pv n σ H → D.nx σ H) :
    ∃ W : Nat → Nat → St → Hp → Prop, (∃ m, W 0 m σ H) ∧ ∀ i m σ H, W i m σ H →
      ((Itr lo n).stop i H ∧ D.nx σ H) ∨ ((Itr lo n).go i H ∧ ∃ N : St → Hp → Prop, (∀ σ' H', N σ' H' → ∃ m', m' < m ∧ W (i + 1) m' σ' H') ∧ ∀ x H', (Itr lo n).yld i H x H' → g x σ H' fun σ2 H2 => tb { D with nx := N, ct := N, bk := D.nx } σ2 H2) := by
  refine ⟨fun i m σ H => m = n - i ∧ i ≤ n ∧ Pv i σ H, ⟨n, by simp, Nat.zero_le _, h0⟩, ?_⟩
  rintro i m σ H ⟨rfl, hi, p⟩
  by_cases hlt : i < n
  · refine .inr ⟨hlt, Pv (i + 1), fun σ' H' p' => ⟨n - (i + 1), by omega, rfl, hlt, p'⟩, fun x H' y => ?_⟩
    obtain ⟨e, y⟩ := y
    subst e y
    exact hs i σ _ hlt p
  · have e : i = n := by omega
    subst e
    exact .inl ⟨Nat.le_refl _, hd σ H p⟩
/-- while, by a word and a measure of the state -/
theorem while_by {c : TT} {tb : TS} {D : Ends} {σ : St} {H : Hp} (Pv : St → Hp → Prop) (μ : St → Hp → Nat) (h0 : Pv σ H)
    (hs : ∀ σ H, Pv σ H → c σ H fun b H1 => if b = true then tb { D with nx := fun σ' H' => Pv σ' H' ∧ μ σ' H' < μ σ H, ct := fun σ' H' => Pv σ' H' ∧ μ σ' H' < μ σ H, bk := D.nx } σ H1 else D.nx σ H1)
    (mono : ∀ σ H Q Q', (∀ b H1, Q b H1 → Q' b H1) → c σ H Q → c σ H Q') : tWhile c tb D σ H := by
  refine ⟨fun m σ H => m = μ σ H ∧ Pv σ H, ⟨_, rfl, h0⟩, ?_⟩
  rintro m σ H ⟨rfl, p⟩
  refine mono σ H _ _ (fun b H1 q => ?_) (hs σ H p)
  cases b with
  | true => exact ⟨_, fun σ' H' ⟨p', l⟩ => ⟨_, l, rfl, p'⟩, q⟩
  | false => exact q
end L2

namespace L2
open PySem PySem.Spec PyProof.Rows

abbrev R2 := V → V → Hp → VK → Prop
/-- a two-place operation on values: f is binaryOp op, inplaceOp op or compareOp op -/
def OpR (X : Cx) (f : Value → Value → Sem Value) (r : R2) : Prop :=
  ∀ (pins : List (Addr × Obj)) (s : Shared) (σ : St) (H : Hp) (x y : V) (v u : Value) (Q : VK), Inv X pins σ H s → RelV x v → RelV y u → r x y H Q →
    wpAny (model X.prog X.w) X.A (f v u) (EP X pins σ Q) X.xe s
/-- a one-place operation -/
def UnR (X : Cx) (f : Value → Sem Value) (r : V → Hp → VK → Prop) : Prop :=
  ∀ (pins : List (Addr × Obj)) (s : Shared) (σ : St) (H : Hp) (x : V) (v : Value) (Q : VK), Inv X pins σ H s → RelV x v → r x H Q →
    wpAny (model X.prog X.w) X.A (f v) (EP X pins σ Q) X.xe s
/-- a call of a value that is known (a builtin, a type) with values -/
def CallR (X : Cx) (f : Value) (r : List V → Hp → VK → Prop) : Prop :=
  ∀ (pins : List (Addr × Obj)) (s : Shared) (σ : St) (H : Hp) (xs : List V) (us : List Value) (Q : VK), Inv X pins σ H s → Vals xs us → r xs H Q →
    wpAny (model X.prog X.w) X.A (call f us) (EP X pins σ Q) X.xe s
def tOp (r : R2) (ta tb : TE) : TE := fun σ H Q => ta σ H fun x H1 => tb σ H1 fun y H2 => r x y H2 Q
def tUn (r : V → Hp → VK → Prop) (ta : TE) : TE := fun σ H Q => ta σ H fun x H1 => r x H1 Q
/-- ints in, under C, and a value out -/
def rI (C : Int → Int → Prop) (g : Int → Int → V) : R2 := fun x y H Q => ∃ i j, x = .int i ∧ y = .int j ∧ C i j ∧ Q (g i j) H
def rI0 (g : Int → Int → V) : R2 := fun x y H Q => ∃ i j, x = .int i ∧ y = .int j ∧ Q (g i j) H
def rU (g : Int → V) : V → Hp → VK → Prop := fun x H Q => ∃ i, x = .int i ∧ Q (g i) H

section
variable {X : Cx} {a b c : Expr} {ta tb tc : TE} {pos : Pos}

theorem binT (ha : PE X a ta) (hb : PE X b tb) {pins : List (Addr × Obj)} {s : Shared} {σ : St} {H : Hp} {R : V → V → Hp → Prop} (I : Inv X pins σ H s)
    (h : ta σ H fun x H1 => tb σ H1 fun y H2 => R x y H2) {Q : Value → Shared → Prop} {f : Value → Value → Sem Value}
    (hf : ∀ v u s2 x y H2, Inv X pins σ H2 s2 → RelV x v → RelV y u → R x y H2 → wpAny (model X.prog X.w) X.A (f v u) Q X.xe s2) :
    wpAny (model X.prog X.w) X.A (eval a X.env) (fun v s₁ => wpAny (model X.prog X.w) X.A (eval b X.env) (fun u s₂ => wpAny (model X.prog X.w) X.A (f v u) Q X.xe s₂) X.xe s₁) X.xe s := by
  refine thn (ha pins s σ H _ I h) fun v s1 ⟨x, H1, I1, r1, q1⟩ => ?_
  refine thn (hb pins s1 σ H1 _ I1 q1) fun u s2 ⟨y, H2, I2, r2, q2⟩ => ?_
  exact hf v u s2 x y H2 I2 r1 r2 q2

theorem pe_op {op : Operator} {r : R2} (ho : OpR X (binaryOp op) r) (ha : PE X a ta) (hb : PE X b tb) : PE X (.BinOp a op b pos) (tOp r ta tb) := by
  intro pins s σ H Q I h
  exact wpAny_BinOp (binT ha hb I h fun v u s2 x y H2 I2 rx ry q => ho pins s2 σ H2 x y v u Q I2 rx ry q)
theorem pe_un {op : UnaryOp} {r : V → Hp → VK → Prop} (ho : UnR X (unaryOp op) r) (ha : PE X a ta) : PE X (.UnaryOp op a pos) (tUn r ta) := by
  intro pins s σ H Q I h
  exact UnaryOp_ (thn (ha pins s σ H _ I h) fun v s1 ⟨x, H1, I1, r1, q1⟩ => ho pins s1 σ H1 x v Q I1 r1 q1)
theorem opI {f : Value → Value → Sem Value} {C : Int → Int → Prop} {g : Int → Int → Int}
    (rule : ∀ (i j : Int) (t u : Tok) (s : Shared) (Q : Value → Shared → Prop) (E : Value → Shared → Prop), C i j → Q (.int (g i j) s.toks) { s with toks := s.toks + 1 } → wpAny (model X.prog X.w) X.A (f (.int i t) (.int j u)) Q E s) :
    OpR X f (rI C fun i j => .int (g i j)) := by
  intro pins s σ H x y v u Q I rx ry h
  obtain ⟨i, j, rfl, rfl, hc, q⟩ := h
  obtain ⟨t, rfl⟩ := rx
  obtain ⟨t', rfl⟩ := ry
  exact rule i j t t' s _ _ hc ⟨.int (g i j), H, I.tok _, ⟨_, rfl⟩, q⟩
theorem opI0 {f : Value → Value → Sem Value} {g : Int → Int → Int}
    (rule : ∀ (i j : Int) (t u : Tok) (s : Shared) (Q : Value → Shared → Prop) (E : Value → Shared → Prop), Q (.int (g i j) s.toks) { s with toks := s.toks + 1 } → wpAny (model X.prog X.w) X.A (f (.int i t) (.int j u)) Q E s) :
    OpR X f (rI0 fun i j => .int (g i j)) := by
  intro pins s σ H x y v u Q I rx ry h
  obtain ⟨i, j, rfl, rfl, q⟩ := h
  obtain ⟨t, rfl⟩ := rx
  obtain ⟨t', rfl⟩ := ry
  exact rule i j t t' s _ _ ⟨.int (g i j), H, I.tok _, ⟨_, rfl⟩, q⟩
theorem opB0 {f : Value → Value → Sem Value} {g : Int → Int → Bool}
    (rule : ∀ (i j : Int) (t u : Tok) (s : Shared) (Q : Value → Shared → Prop) (E : Value → Shared → Prop), Q (.bool (g i j)) s → wpAny (model X.prog X.w) X.A (f (.int i t) (.int j u)) Q E s) :
    OpR X f (rI0 fun i j => .bl (g i j)) := by
  intro pins s σ H x y v u Q I rx ry h
  obtain ⟨i, j, rfl, rfl, q⟩ := h
  obtain ⟨t, rfl⟩ := rx
  obtain ⟨t', rfl⟩ := ry
  exact rule i j t t' s _ _ ⟨.bl (g i j), H, I, rfl, q⟩

def CDiv (i j : Int) : Prop := 0 < j ∧ j < 1073741824
def CDivN (i j : Int) : Prop := j ≠ 0 ∧ j.natAbs < 1073741824
def CPow (i j : Int) : Prop := 0 ≤ j ∧ j ≤ 1000000 ∧ i.natAbs < 2 ^ 64
def CMul (i j : Int) : Prop := (-(2 ^ 64) < i ∧ i < 2 ^ 64) ∨ (-(2 ^ 64) < j ∧ j < 2 ^ 64)
theorem CMul.ok {i j : Int} (h : CMul i j) : IntMulOk i j := by
  rcases h with ⟨h1, h2⟩ | ⟨h1, h2⟩
  · exact .of_left (intBits_le_64 h1 h2)
  · exact .of_right (intBits_le_64 h1 h2)
theorem op_add : OpR X (binaryOp .Add) (rI0 fun i j => .int (i + j)) := opI0 fun _ _ _ _ _ _ _ q => add_int q
theorem op_sub : OpR X (binaryOp .Sub) (rI0 fun i j => .int (i - j)) := opI0 fun _ _ _ _ _ _ _ q => sub_int q
theorem op_mul : OpR X (binaryOp .Mult) (rI CMul fun i j => .int (i * j)) := opI fun _ _ _ _ _ _ _ hc q => mul_int q hc.ok
/-- // by a positive divisor -/
theorem op_fdiv : OpR X (binaryOp .FloorDiv) (rI CDiv fun i j => .int (i / j)) := opI fun i j _ _ _ _ _ hc q => by
  have h1 : (0 : Int) < j := hc.1
  have h2 : j < 1073741824 := hc.2
  exact floordiv_int (by omega) (by rw [Int.fdiv_eq_ediv_of_nonneg i (by omega)]; exact q) (.inl (PyProof.noPylong_small (by omega)))
theorem op_fdivN : OpR X (binaryOp .FloorDiv) (rI CDivN fun i j => .int (i.fdiv j)) := opI fun _ _ _ _ _ _ _ hc q => floordiv_int hc.1 q (.inl (PyProof.noPylong_small hc.2))
/-- % by a positive divisor of any size -/
theorem op_mod : OpR X (binaryOp .Mod) (rI (fun _ j => 0 < j) fun i j => .int (i % j)) := opI fun i j _ _ _ _ _ hc q => by
  have h1 : (0 : Int) < j := hc
  exact mod_int' (by omega) (by rw [Int.fmod_eq_emod_of_nonneg i (by omega)]; exact q)
theorem op_pow : OpR X (binaryOp .Pow) (rI CPow fun i j => .int (i ^ j.toNat)) := opI fun _ _ _ _ _ _ _ hc q => pow_int_small hc.1 hc.2.1 hc.2.2 q
theorem unI {f : Value → Sem Value} {g : Int → Int}
    (rule : ∀ (i : Int) (t : Tok) (s : Shared) (Q : Value → Shared → Prop) (E : Value → Shared → Prop), Q (.int (g i) s.toks) { s with toks := s.toks + 1 } → wpAny (model X.prog X.w) X.A (f (.int i t)) Q E s) :
    UnR X f (rU fun i => .int (g i)) := by
  intro pins s σ H x v Q I rx h
  obtain ⟨i, rfl, q⟩ := h
  obtain ⟨t, rfl⟩ := rx
  exact rule i t s _ _ ⟨.int (g i), H, I.tok _, ⟨_, rfl⟩, q⟩
theorem un_neg : UnR X (unaryOp .USub) (rU fun i => .int (-i)) := unI fun _ _ _ _ _ q => neg_int q
end

/-- the scalars that == tells apart as data does -/
def scal : V → V → Bool
  | .non, .non => true | .non, .int _ => true | .int _, .non => true | .non, .bl _ => true | .bl _, .non => true | .non, .str _ => true | .str _, .non => true
  | .int _, .int _ => true | .bl _, .bl _ => true | .str _, .str _ => true | .byt _, .byt _ => true
  | .int _, .str _ => true | .str _, .int _ => true | .bl _, .str _ => true | .str _, .bl _ => true
  | _, _ => false
def rEq : R2 := fun x y H Q => scal x y = true ∧ Q (.bl (decide (x = y))) H
def rNe : R2 := fun x y H Q => scal x y = true ∧ Q (.bl (!decide (x = y))) H

theorem dec_int {i j : Int} : decide (V.int i = V.int j) = (i == j) := by
  rw [Bool.eq_iff_iff]
  simp
theorem dec_bl {i j : Bool} : decide (V.bl i = V.bl j) = (i == j) := by
  rw [Bool.eq_iff_iff]
  simp
theorem dec_str {i j : Str} : decide (V.str i = V.str j) = (i == j) := by
  rw [Bool.eq_iff_iff]
  simp
theorem dec_byt {i j : Array UInt8} : decide (V.byt i = V.byt j) = (i.toList == j.toList) := by
  rw [Bool.eq_iff_iff]
  cases i
  cases j
  simp

section
variable {X : Cx} {a b c : Expr} {ta tb tc : TE} {pos : Pos}
theorem fin_bl {pins : List (Addr × Obj)} {σ : St} {H : Hp} {s : Shared} {Q : VK} {k k' : Bool} (I : Inv X pins σ H s) (q : Q (.bl k) H) (e : k = k') : EP X pins σ Q (.bool k') s := by
  subst e
  exact ⟨.bl k, H, I, rfl, q⟩
theorem op_eq : OpR X (compareOp .Eq) rEq := by
  intro pins s σ H x y v u Q I rx ry h
  obtain ⟨hs, q⟩ := h
  cases x with
  | non =>
    cases rx
    cases y with
    | non => cases ry; exact PySem.EqNone.eq_none_none (fin_bl I q (by simp))
    | bl j => cases ry; exact PySem.EqNone.eq_none_bool (fin_bl I q (by simp))
    | int j => obtain ⟨t', rfl⟩ := ry; exact PySem.EqNone.eq_none_int (fin_bl I q (by simp))
    | str j => obtain ⟨t', rfl⟩ := ry; exact PySem.EqNone.eq_none_str (fin_bl I q (by simp))
    | _ => exact absurd (show false = true from hs) Bool.false_ne_true
  | bl i =>
    cases rx
    cases y with
    | non => cases ry; exact PySem.EqNone.eq_bool_none (fin_bl I q (by simp))
    | bl j => cases ry; exact eq_bool (fin_bl I q dec_bl)
    | str j => obtain ⟨t', rfl⟩ := ry; exact PySem.EqMixed.eq_bool_str (fin_bl I q (by simp))
    | _ => exact absurd (show false = true from hs) Bool.false_ne_true
  | int i =>
    obtain ⟨t, rfl⟩ := rx
    cases y with
    | non => cases ry; exact PySem.EqNone.eq_int_none (fin_bl I q (by simp))
    | int j => obtain ⟨t', rfl⟩ := ry; exact eq_int (fin_bl I q dec_int)
    | str j => obtain ⟨t', rfl⟩ := ry; exact PySem.EqMixed.eq_int_str (fin_bl I q (by simp))
    | _ => exact absurd (show false = true from hs) Bool.false_ne_true
  | str i =>
    obtain ⟨t, rfl⟩ := rx
    cases y with
    | non => cases ry; exact PySem.EqNone.eq_str_none (fin_bl I q (by simp))
    | bl j => cases ry; exact PySem.EqMixed.eq_str_bool (fin_bl I q (by simp))
    | int j => obtain ⟨t', rfl⟩ := ry; exact PySem.EqMixed.eq_str_int (fin_bl I q (by simp))
    | str j => obtain ⟨t', rfl⟩ := ry; exact eq_str (fin_bl I q dec_str)
    | _ => exact absurd (show false = true from hs) Bool.false_ne_true
  | byt i =>
    obtain ⟨t, rfl⟩ := rx
    cases y with
    | byt j => obtain ⟨t', rfl⟩ := ry; exact PySem.W.eq_bytes (fin_bl I q dec_byt)
    | _ => exact absurd (show false = true from hs) Bool.false_ne_true
  | _ => cases y <;> exact absurd (show false = true from hs) Bool.false_ne_true
theorem op_ne : OpR X (compareOp .NotEq) rNe := by
  intro pins s σ H x y v u Q I rx ry h
  obtain ⟨hs, q⟩ := h
  cases x with
  | non =>
    cases rx
    cases y with
    | non => cases ry; exact PySem.EqNone.ne_none_none (fin_bl I q (by simp))
    | bl j => cases ry; exact PySem.EqNone.ne_none_bool (fin_bl I q (by simp))
    | int j => obtain ⟨t', rfl⟩ := ry; exact PySem.EqNone.ne_none_int (fin_bl I q (by simp))
    | str j => obtain ⟨t', rfl⟩ := ry; exact PySem.EqNone.ne_none_str (fin_bl I q (by simp))
    | _ => exact absurd (show false = true from hs) Bool.false_ne_true
  | bl i =>
    cases rx
    cases y with
    | non => cases ry; exact PySem.EqNone.ne_bool_none (fin_bl I q (by simp))
    | bl j => cases ry; exact ne_bool (fin_bl I q (congrArg not dec_bl))
    | str j => obtain ⟨t', rfl⟩ := ry; exact PySem.EqMixed.ne_bool_str (fin_bl I q (by simp))
    | _ => exact absurd (show false = true from hs) Bool.false_ne_true
  | int i =>
    obtain ⟨t, rfl⟩ := rx
    cases y with
    | non => cases ry; exact PySem.EqNone.ne_int_none (fin_bl I q (by simp))
    | int j => obtain ⟨t', rfl⟩ := ry; exact ne_int (fin_bl I q (congrArg not dec_int))
    | str j => obtain ⟨t', rfl⟩ := ry; exact PySem.EqMixed.ne_int_str (fin_bl I q (by simp))
    | _ => exact absurd (show false = true from hs) Bool.false_ne_true
  | str i =>
    obtain ⟨t, rfl⟩ := rx
    cases y with
    | non => cases ry; exact PySem.EqNone.ne_str_none (fin_bl I q (by simp))
    | bl j => cases ry; exact PySem.EqMixed.ne_str_bool (fin_bl I q (by simp))
    | int j => obtain ⟨t', rfl⟩ := ry; exact PySem.EqMixed.ne_str_int (fin_bl I q (by simp))
    | str j => obtain ⟨t', rfl⟩ := ry; exact ne_str (fin_bl I q (congrArg not dec_str))
    | _ => exact absurd (show false = true from hs) Bool.false_ne_true
  | byt i =>
    obtain ⟨t, rfl⟩ := rx
    cases y with
    | byt j => obtain ⟨t', rfl⟩ := ry; exact PySem.W.ne_bytes (fin_bl I q (congrArg not dec_byt))
    | _ => exact absurd (show false = true from hs) Bool.false_ne_true
  | _ => cases y <;> exact absurd (show false = true from hs) Bool.false_ne_true

theorem op_lt : OpR X (compareOp .Lt) (rI0 fun i j => .bl (decide (i < j))) := opB0 fun _ _ _ _ _ _ _ q => lt_int q
theorem op_le : OpR X (compareOp .LtE) (rI0 fun i j => .bl (decide (i ≤ j))) := opB0 fun _ _ _ _ _ _ _ q => le_int q
theorem op_gt : OpR X (compareOp .Gt) (rI0 fun i j => .bl (decide (j < i))) := opB0 fun _ _ _ _ _ _ _ q => gt_int q
theorem op_ge : OpR X (compareOp .GtE) (rI0 fun i j => .bl (decide (j ≤ i))) := opB0 fun _ _ _ _ _ _ _ q => ge_int q
theorem nomark (b : Expr) {op : CmpOp} (h : op ≠ .In := by decide) (h2 : op ≠ .NotIn := by decide) : behindInMarks op b = false := by
  have e1 : (op == CmpOp.In) = false := by cases op <;> first | rfl | exact absurd rfl h
  have e2 : (op == CmpOp.NotIn) = false := by cases op <;> first | rfl | exact absurd rfl h2
  cases b <;> simp [behindInMarks, e1, e2]
/-- a comparison as a value; hm: nomark b, or (for in, not in) by with_unfolding_all rfl -/
theorem pe_cmpR {op : CmpOp} {r : R2} (ho : OpR X (compareOp op) r) (ha : PE X a ta) (hb : PE X b tb) (hm : behindInMarks op b = false) : PE X (.Compare a [op] [b] pos) (tOp r ta tb) := by
  intro pins s σ H Q I h
  exact wpAny_Compare1 (binT ha hb I h fun v u s2 x y H2 I2 rx ry q => ho pins s2 σ H2 x y v u Q I2 rx ry q) hm
/-- a reading of a value as a test -/
def tTest (t : TE) : TT := fun σ H Q => t σ H fun x H' => ∃ k, x = .bl k ∧ Q k H'
theorem pt_cmpR {op : CmpOp} {r : R2} (ho : OpR X (compareOp op) r) (ha : PE X a ta) (hb : PE X b tb) (hm : behindInMarks op b = false) : PT X (.Compare a [op] [b] pos) (tTest (tOp r ta tb)) := by
  intro pins s σ H Q I h
  refine wpAny_isTrue_Compare1 (thn (ha pins s σ H _ I h) fun v s1 ⟨x, H1, I1, r1, q1⟩ => thn (hb pins s1 σ H1 _ I1 q1) fun u s2 ⟨y, H2, I2, r2, q2⟩ =>
    thn (ho pins s2 σ H2 x y v u _ I2 r1 r2 q2) fun c s3 ⟨z, H3, I3, r3, k, e, q3⟩ => ?_) hm
  subst e
  cases r3
  exact wpAny_truthy_bool ⟨H3, I3, q3⟩
theorem line63 : (sizeLine : Nat) < 2 ^ 63 := by rw [sizeLine_eq]; decide
theorem op_add_str : OpR X (binaryOp .Add) (fun x y H Q => ∃ i j, x = .str i ∧ y = .str j ∧ i.length + j.length ≤ sizeLine ∧ Q (.str (i ++ j)) H) := by
  intro pins s σ H x y v u Q I rx ry h
  obtain ⟨i, j, rfl, rfl, hz, q⟩ := h
  obtain ⟨t, rfl⟩ := rx
  obtain ⟨t', rfl⟩ := ry
  exact add_str (fun t' tk => ⟨.str (i ++ j), H, I.tok _, ⟨_, rfl⟩, q⟩) hz
theorem vals1 {x : V} {us : List Value} (r : Vals [x] us) : ∃ u, us = [u] ∧ RelV x u := by
  cases r with
  | cons r1 r2 => cases r2; exact ⟨_, rfl, r1⟩
theorem vals2 {x y : V} {us : List Value} (r : Vals [x, y] us) : ∃ u w', us = [u, w'] ∧ RelV x u ∧ RelV y w' := by
  cases r with
  | cons r1 r2 =>
    cases r2 with
    | cons r3 r4 => cases r4; exact ⟨_, _, rfl, r1, r3⟩
theorem call_abs : CallR X (.builtin "abs") (fun xs H Q => ∃ i, xs = [.int i] ∧ Q (.int (if i < 0 then -i else i)) H) := by
  intro pins s σ H xs us Q I r h
  obtain ⟨i, rfl, q⟩ := h
  obtain ⟨u, rfl, t, rfl⟩ := vals1 r
  exact call_abs_int fun u tk => ⟨.int (if i < 0 then -i else i), H, I.tok _, ⟨_, rfl⟩, q⟩
theorem call_max2 (hc : X.calm = true) : CallR X (.builtin "max") (fun xs H Q => ∃ i j, xs = [.int i, .int j] ∧ Q (.int (if j > i then j else i)) H) := by
  intro pins s σ H xs us Q I r h
  obtain ⟨i, j, rfl, q⟩ := h
  obtain ⟨u, w', rfl, ⟨t, rfl⟩, ⟨t', rfl⟩⟩ := vals2 r
  refine max_two_ints (I.ok.hd hc) fun h' tk k => ⟨_, H, I.kept k, ?_, q⟩
  by_cases hj : j > i
  · rw [if_pos hj, if_pos hj]; exact ⟨_, rfl⟩
  · rw [if_neg hj, if_neg hj]; exact ⟨_, rfl⟩
end
end L2

namespace L2
open PySem PySem.Spec PyProof.Rows

structure ObjM (h : Heap) (x dx C : Addr) (mA : Str → Option Value) : Prop where
  obj : h.get? x = some (PySem.W.instObj C dx)
  ns : h.Ns1 dx mA
  ne : dx ≠ x

theorem lookIn_ns {h : Heap} {dx : Addr} {mA : Str → Option Value} (n : h.Ns1 dx mA) : ∃ od, h.get? dx = some od ∧ ∀ name, PySem.W.lookIn name od = some (mA name) := by
  obtain ⟨o, es, ep, ho, hd, hk, _, hm⟩ := n
  refine ⟨o, ho, fun name => ?_⟩
  have e := hm name
  unfold nsFind findBy at e
  rw [← Array.find?_toList] at e
  unfold PySem.W.lookIn
  rw [hd]
  dsimp only
  split
  · rename_i y q
    rw [q] at e
    exact congrArg some e
  · rename_i q
    rw [q] at e
    have a : es.toList.any (·.refKey) = false := by
      rw [List.any_eq_false]
      intro y hy
      obtain ⟨z, t, hkey⟩ := hk y (Array.mem_toList_iff.mp hy)
      simp [DictEntry.refKey, hkey]
    have a' : ¬ es.toList.any (·.refKey) = true := by rw [a]; exact Bool.false_ne_true
    rw [if_neg a']
    exact congrArg some e

theorem ObjM.look {h : Heap} {x dx C : Addr} {mA : Str → Option Value} (I : ObjM h x dx C mA) : ∃ od, PySem.W.InstAt h x (PySem.W.instObj C dx) C (some od) ∧ ∀ name, PySem.W.lookIn name od = some (mA name) :=
  let ⟨od, ho, hl⟩ := lookIn_ns I.ns
  ⟨od, ⟨I.obj, rfl, rfl, ho⟩, hl⟩

section
variable {prog : Program} {w : World} {A : Around} {E : Value → Shared → Prop} {s : Shared} {K : PySem.W.Frag} {x dx C f : Addr} {mA : Str → Option Value} {name : Str} {v : Value}

end

section
variable {P : Program} {w : World} {H H' : Hp} {h h' : Heap} {a C dx : Addr} {fs fs' : List (Str × V)}
theorem ins_get (hok : HOk P w H h) (e : H a = some (.ins C dx fs)) : ∃ mA, ObjM h a dx C mA ∧ (∀ f, RelO (fs.lookup f) (mA f)) ∧ PySem.Within mA (fs.map (·.1)) ∧ fs.length ≤ 1000 ∧ H dx = some (.own a) := by
  obtain ⟨d, z, ne, ob, mA, n, r, q⟩ := (show ObjOk P w H h a (.ins C dx fs) from hok a _ e)
  exact ⟨mA, ⟨ob, n, ne⟩, r, q, z, d⟩
end

structure Cls (K : PySem.W.Frag) (C : Addr) : Prop where
  pg : PySem.W.plainGet K C Str.empty = true
  hd : PySem.W.hasDictIn K C = true
  po : PySem.W.plainOver K C = true
  sa : PySem.W.findIn K (.ref C) "__setattr__" = some (some (.builtin "object.__setattr__"))
theorem Cls.get {K : PySem.W.Frag} {C : Addr} (c : Cls K C) (f : Str) : PySem.W.plainGet K C f = true := c.pg
section
variable {X : Cx} {pins : List (Addr × Obj)} {σ : St} {H : Hp} {s : Shared} {a C dx : Addr} {fs : List (Str × V)} {f : Str} {v : V} {A : Around} {E : Value → Shared → Prop}

end

section
variable {X : Cx} {o e value : Expr} {f : Str} {pos pos' tpos : Pos} {ta tv : TE}
end

section
variable {X : Cx} {pins : List (Addr × Obj)} {σ : St} {H : Hp} {s : Shared} {A : Around} {E : Value → Shared → Prop} {Q : Value → Shared → Prop} {c : Value} {b : Bool}
/-- the type of a value, as the fragment's deciders take it; for an instance its class -/
inductive TyOf (K : PySem.W.Frag) (H : Hp) : V → Value → Prop where
  | non : TyOf K H .non (.type "NoneType")
  | bl (x : Bool) : TyOf K H (.bl x) (.type "bool")
  | int (i : Int) : TyOf K H (.int i) (.type "int")
  | str (x : Str) : TyOf K H (.str x) (.type "str")
  | flt (x : UInt64) : TyOf K H (.flt x) (.type "float")
  | lst {a : Addr} {xs : List V} (e : H a = some (.lst xs)) : TyOf K H (.ref a) (.type "list")
  | frz {a : Addr} {o : Obj} {xs : List V} (e : H a = some (.frz o (.lst xs))) : TyOf K H (.ref a) (.type "list")
  | tup {a : Addr} {xs : List V} (e : H a = some (.tup xs)) : TyOf K H (.ref a) (.type "tuple")
  | dK {a : Addr} {kvs : List (Key × V)} (e : H a = some (.dK kvs)) : TyOf K H (.ref a) (.type "dict")
  | dT {a : Addr} {kvs : List (List Key × V)} (e : H a = some (.dT kvs)) : TyOf K H (.ref a) (.type "dict")
  | ins {a C dx : Addr} {fs : List (Str × V)} (e : H a = some (.ins C dx fs)) (cl : Cls K C) (ha : PySem.W.findIn K (.ref C) "__class__" = some (some (.builtin "object.__class__")))
      (hn : PySem.W.specialIn K (.builtin "object.__class__") "__get__" = some (some (.builtin "getset_descriptor.__get__"))) (htk : PySem.W.takesIn K (.builtin "object.__class__") = some true)
      (hm : PySem.W.mroIn K C (.type "object") = some true) : TyOf K H (.ref a) (.ref C)
/-- isinstance(x, c) for one class c, a built-in or an own one: kitOne's answer -/
theorem isinst_ok {x : V} {u t : Value} (I : Inv X pins σ H s) (rx : RelV x u) (ty : TyOf X.K H x t) (e : PySem.W.kitOne X.K t c = some b) (h : ∀ tk, Q (.bool b) { s with toks := tk }) :
    wpAny (model X.prog X.w) A (call (.builtin "isinstance") [u, c]) Q E s := by
  cases ty with
  | non => cases (show u = Value.none from rx); exact PySem.W.kia_one PySem.W.kitx_none I.kIn True.intro e (fun z => nomatch z) h
  | bl y => cases (show u = Value.bool y from rx); exact PySem.W.kia_one PySem.W.kitx_bool I.kIn True.intro e (fun z => nomatch z) h
  | int i => obtain ⟨t, q⟩ := (show ∃ t, u = Value.int i t from rx); cases q; exact PySem.W.kia_one PySem.W.kitx_int I.kIn True.intro e (fun z => nomatch z) h
  | str y => obtain ⟨t, q⟩ := (show ∃ t, u = Value.str y t from rx); cases q; exact PySem.W.kia_one PySem.W.kitx_str I.kIn True.intro e (fun z => nomatch z) h
  | flt y => obtain ⟨t, q⟩ := (show ∃ t, u = Value.float y t from rx); cases q; exact PySem.W.kia_one PySem.W.kitx_float I.kIn True.intro e (fun z => nomatch z) h
  | @lst a xs ea =>
    cases (show u = Value.ref a from rx)
    obtain ⟨_, _, n, _, h1⟩ := (show ObjOk X.prog X.w H s.heap a (.lst xs) from I.hok a _ ea)
    exact PySem.W.kia_one PySem.W.kitx_list I.kIn ⟨_, h1, rfl⟩ e (fun z => nomatch z) h
  | @frz a ob xs ea =>
    cases (show u = Value.ref a from rx)
    obtain ⟨_, _, _, n, _, h1⟩ := (show ObjOk X.prog X.w H s.heap a (.frz ob (.lst xs)) from I.hok a _ ea)
    exact PySem.W.kia_one PySem.W.kitx_list I.kIn ⟨_, h1, rfl⟩ e (fun z => nomatch z) h
  | @tup a xs ea =>
    cases (show u = Value.ref a from rx)
    obtain ⟨_, _, _, p⟩ := (show ObjOk X.prog X.w H s.heap a (.tup xs) from I.hok a _ ea)
    obtain ⟨o, h1, h2, _⟩ := p
    exact PySem.W.kia_one PySem.W.kitx_tuple I.kIn ⟨o, h1, h2⟩ e (fun z => nomatch z) h
  | @dK a kvs ea =>
    cases (show u = Value.ref a from rx)
    obtain ⟨_, _, vs, _, p⟩ := (show ObjOk X.prog X.w H s.heap a (.dK kvs) from I.hok a _ ea)
    obtain ⟨o, es, ep, h1, h2, _⟩ := p
    exact PySem.W.kia_one PySem.W.kitx_dict I.kIn ⟨o, h1, h2.1⟩ e (fun z => nomatch z) h
  | @dT a kvs ea =>
    cases (show u = Value.ref a from rx)
    obtain ⟨_, _, xs, _, o, es, ep, h1, h2, _⟩ := (show ObjOk X.prog X.w H s.heap a (.dT kvs) from I.hok a _ ea)
    exact PySem.W.kia_one PySem.W.kitx_dict I.kIn ⟨o, h1, h2.1⟩ e (fun z => nomatch z) h
  | @ins a C dx fs ea cl ha hn htk hm =>
    cases (show u = Value.ref a from rx)
    obtain ⟨mA, O, _⟩ := ins_get I.hok ea
    obtain ⟨od, J, _⟩ := O.look
    exact PySem.W.kia_one (PySem.W.kitx_own (cl.get _) cl.hd ha hn htk hm) I.kIn J e (fun z => nomatch z) h
end
end L2

namespace L2
open PySem PySem.Spec PyProof.Rows

structure Room (k : Nat) (A : Around) : Prop where
  hd : A.handled = none
  dp : A.depth + 3 * k + 5 < recursionLimit
  un : A.units + 16 * k + 200 < cLine
theorem Room.mono {j k : Nat} {A : Around} (r : Room k A) (h : j ≤ k) : Room j A := ⟨r.hd, by have := r.dp; omega, by have := r.un; omega⟩
theorem Room.deeper {k : Nat} {A : Around} (r : Room (k + 1) A) (env : Env) : Room k (A.deeper env) :=
  ⟨r.hd, by have := r.dp; show A.depth + 1 + 3 * k + 5 < _; omega, by have := r.un; show A.units + 3 + 16 * k + 200 < _; omega⟩
theorem Room.depth {k : Nat} {A : Around} (r : Room k A) : A.depth < recursionLimit := by have := r.dp; omega
theorem Room.units {k : Nat} {A : Around} (r : Room k A) : A.units + 64 < cLine := by have := r.un; omega
def tNil : TA := fun _ H Q => Q [] H
def tCons (ta : TE) (tr : TA) : TA := fun σ H Q => ta σ H fun x H1 => tr σ H1 fun xs H2 => Q (x :: xs) H2
section
variable {X : Cx} {e : Expr} {es : List Expr} {te : TE} {t : TA} {pos : Pos}
theorem pa_nil : PA X [] tNil := fun _ _ _ _ H Q I h => Calls.spliced_nil ⟨[], H, I, .nil, h⟩
theorem pa_cons (ha : PE X e te) (hr : PA X es t) (hs : starEach (e :: es) X.env = (false, eval e X.env) :: starEach es X.env := by rfl) : PA X (e :: es) (tCons te t) := by
  intro pos pins s σ H Q I h
  rw [hs]
  show wpAny _ _ (spliced ((false, eval e X.env) :: backTo pos (starEach es X.env))) _ _ s
  refine Calls.spliced_cons (thn (ha pins s σ H _ I h) fun u s1 ⟨x, H1, I1, r1, q1⟩ => ?_)
  exact thn (hr pos pins s1 σ H1 _ I1 q1) fun us s2 ⟨xs, H2, I2, r2, q2⟩ => ⟨x :: xs, H2, I2, .cons r1 r2, q2⟩

/-- a tuple, a list of written items -/
def tTup (t : TA) : TE := fun σ H Q => t σ H fun xs H1 => xs.length ≤ sizeLine ∧ ∀ p, H1 p = none → Q (.ref p) (upd H1 p (.tup xs))
def tLst (t : TA) : TE := fun σ H Q => t σ H fun xs H1 => xs.length ≤ sizeLine ∧ ∀ p, H1 p = none → Q (.ref p) (upd H1 p (.lst xs))
theorem pe_tup {x1} (h : PA X es t) : PE X (.Tuple es x1 pos) (tTup t) := by
  intro pins s σ H Q I hq
  refine wpAny_Tuple_spliced (thn (h pos pins s σ H _ I hq) fun us s1 ⟨xs, H1, I1, r, z, q⟩ => ⟨by rw [← r.length]; exact z, ?_⟩)
  have hf : H1 s1.heap.objs.size = none := I1.hok.fresh (Nat.le_refl _)
  refine ⟨.ref s1.heap.objs.size, upd H1 s1.heap.objs.size (.tup xs), I1.laid (t' := s1.toks) (fun b u e => Heap.get?_push_of_some _ e) (Nat.le_refl _) ?_, rfl, q _ hf⟩
  exact ⟨⟨z, _, Heap.get?_push_size _ rfl, rfl⟩, us, r, ⟨_, Heap.get?_push_size _ rfl, rfl, _, rfl⟩⟩
theorem pe_lst (h : PA X es t) : PE X (.List es pos) (tLst t) := by
  intro pins s σ H Q I hq
  refine wpAny_List_spliced (thn (h pos pins s σ H _ I hq) fun us s1 ⟨xs, H1, I1, r, z, q⟩ => ⟨by rw [← r.length]; exact z, ?_⟩)
  have hf : H1 s1.heap.objs.size = none := I1.hok.fresh (Nat.le_refl _)
  refine ⟨.ref s1.heap.objs.size, upd H1 s1.heap.objs.size (.lst xs), I1.laid (t' := s1.toks) (fun b u e => Heap.get?_push_of_some _ e) (Nat.le_refl _) ?_, rfl, q _ hf⟩
  exact ⟨z, us, 0, r, Heap.get?_push_size _ rfl⟩
end

/-- a def's promise: the bound arguments in the parameters' order, the heap, the wanted end, the wanted exception -/
abbrev Sp := List V → Hp → VK → XK → Prop
/-- how an exception lies behind a call (file 08 gives it): the callers' frames, abstract heap and state ahead of the call, the wish, the exception, the state -/
abbrev CXT := List Env → Hp → Shared → XK → Value → Shared → Prop

/-- the state at a call -/
structure Env0 (P : Program) (w : World) (K : PySem.W.Frag) (mg : Str → Option Value) (base : Heap) (A : Around) (outer : List Env) (s : Shared) (H : Hp) : Prop where
  frames : A.frames = some outer
  mod : Mod K mg base
  bs : ∀ b o, base.get? b = some o → s.heap.get? b = some o ∧ H b = none
  bsz : base.objs.size ≤ s.heap.objs.size
  funs : s.heap.FunFrames base outer
  frf : ∀ b ∈ frs outer, H b = none
  hok : HOk P w H s.heap
  bare : AllBare s.gens
/-- a call's end -/
def CE (outer : List Env) (P : Program) (w : World) (H : Hp) (s : Shared) (Q : VK) (u : Value) (s' : Shared) : Prop :=
  ∃ v H', s'.os = s.os ∧ AllBare s'.gens ∧ Un (frs outer) [] H H' s.heap s'.heap ∧ HOk P w H' s'.heap ∧ RelV v u ∧ Q v H'
def CR (CX : CXT) (outer : List Env) (P : Program) (w : World) (H : Hp) (s : Shared) (Q : VK) (E : XK) (r : Result) (s' : Shared) : Prop :=
  match r with
  | .ok (.ret u) => CE outer P w H s Q u s'
  | .ok _ => False
  | .error e => CX outer H s E e s'
structure FnOk (P : Program) (w : World) (K : PySem.W.Frag) (mg : Str → Option Value) (base : Heap) (CX : CXT) (k : Nat) (f : Addr) (fd : FuncData) (ps : List Str) (sp : Sp) : Prop where
  len : ∀ vs H Q E, sp vs H Q E → vs.length = ps.length
  run : ∀ (A : Around) (outer : List Env) (s : Shared) (H : Hp) (args : Args) (us : List Value) (vs : List V) (Q : VK) (E : XK), Room k A → Env0 P w K mg base A outer s H → BindsTo s fd args (ps.zip us) → Vals vs us → sp vs H Q E →
    codeAny (model P w) A (.call (.ref f) args) (CR CX outer P w H s Q E) s
section
variable {X : Cx} {pins : List (Addr × Obj)} {σ : St} {H : Hp} {s s' : Shared}
/-- from a body: what a callee wants -/
theorem Inv.env0 (I : Inv X pins σ H s) : Env0 X.prog X.w X.K X.mg X.base X.A X.stack s H :=
  ⟨I.ok.frames, I.ok.mod, I.bs, Nat.le_trans I.ok.bsz I.sz, I.stack, I.stkFree, I.hok, I.bare⟩
/-- behind a call -/
theorem Inv.after {Q : VK} {u : Value} (I : Inv X pins σ H s) (h : CE X.stack X.prog X.w H s Q u s') : EP X pins σ Q u s' := by
  obtain ⟨v, H', os, bare, un, hok, r, q⟩ := h
  obtain ⟨hh, g, d, t, os'⟩ := s'
  obtain rfl : os' = s.os := os
  exact ⟨v, H', I.call (h' := hh) (g' := g) (d' := d) (t' := t) (ch := []) un hok bare (fun b z => absurd z (by simp)), r, q⟩
end

/-- f(..): the written arguments, then the defaults dvs; E: what is wanted of an exception -/
def tCall (sp : Sp) (dvs : List V) (E : XK) (t : TA) : TE := fun σ H Q => t σ H fun vs H1 => sp (vs ++ dvs) H1 Q E
/-- how the parameters are bound: us the positional arguments, kw the keywords' values by name, ds the defaults that fill up -/
def Binds (K : PySem.W.Frag) (fd : FuncData) (ps : List Str) (ds : List Value) : Prop :=
  ∀ (s : Shared) (us : List Value), K.In s.heap → (us ++ ds).length = ps.length → BindsTo s fd ⟨us, []⟩ (ps.zip (us ++ ds))
/-- every parameter is given -/
theorem Binds.all {K : PySem.W.Frag} {fd : FuncData} {ps : List Str} (h : ∀ us : List Value, us.length = ps.length → bindArgs fd ⟨us, []⟩ = pure (ps.zip us)) : Binds K fd ps [] := fun s us _ hl => by
  rw [List.append_nil] at hl ⊢
  exact .of_eq (h us hl)

/-- an exception of a callee reaches what this body wants of exceptions -/
def Passes (CX : CXT) (X : Cx) (E : XK) : Prop := ∀ (pins : List (Addr × Obj)) (σ : St) (H : Hp) (s : Shared) (e : Value) (s' : Shared), Inv X pins σ H s → CX X.stack H s E e s' → X.xe e s'

section
variable {X : Cx} {CX : CXT} {k : Nat} {f C : Addr} {fd : FuncData} {ps : List Str} {sp : Sp} {dvs : List V} {ds : List Value} {E : XK} {x m : Str} {p pos apos : Pos} {e o : Expr} {es : List Expr} {ta : TE} {t : TA}

/-- the callee runs -/
theorem run_fn {pins : List (Addr × Obj)} {σ : St} {H : Hp} {s : Shared} {Q : VK} {us : List Value} {vs : List V} (F : FnOk X.prog X.w X.K X.mg X.base CX k f fd ps sp) (hr : Room k X.A) (hb : Binds X.K fd ps ds) (hd : Vals dvs ds) (hx : Passes CX X E)
    (I : Inv X pins σ H s) (r : Vals vs us) (h : sp (vs ++ dvs) H Q E) : wpAny (model X.prog X.w) X.A (call (.ref f) us) (EP X pins σ Q) X.xe s := by
  have r2 : Vals (vs ++ dvs) (us ++ ds) := r.append hd
  have hl : (us ++ ds).length = ps.length := by rw [← r2.length]; exact F.len _ _ _ _ h
  refine wpAny_call (codeAny_mono (F.run X.A X.stack s H ⟨us, []⟩ (us ++ ds) (vs ++ dvs) Q E hr I.env0 (hb s us I.kIn hl) r2 h) fun r s' hq => ?_)
  cases r with
  | error e => exact hx pins σ H s e s' I hq
  | ok fl =>
    cases fl with
    | ret u => exact I.after hq
    | next => exact False.elim hq
    | brk => exact False.elim hq
    | cont => exact False.elim hq

theorem pe_call (F : FnOk X.prog X.w X.K X.mg X.base CX k f fd ps sp) (hr : Room k X.A) (hg : Gl X x) (hm : X.mg x = some (.ref f)) (hk : PySem.W.keepIn X.K (.ref f) = true) (hb : Binds X.K fd ps ds) (hd : Vals dvs ds) (hx : Passes CX X E)
    (ha : PA X (e :: es) t) (hdb : (x == ("__debug__" : Str)) = false := by decide) (he : starEach (e :: es) X.env = (false, eval e X.env) :: starEach es X.env := by rfl) (hpl : (backTo pos (starEach es X.env)).any (·.1) = false := by rfl) :
    PE X (.Call (.Name x p) (e :: es) [] pos) (tCall sp dvs E t) := by
  intro pins s σ H Q I h
  refine wpAny_Call_Name_kw (ld_glob I hg hm ?_ hdb)
  refine PySem.W.callWith_K (h₀ := X.base) I.ok.mod.kin hk (thn (ha pos pins s σ H _ I h) fun us s1 ⟨vs, H1, I1, r, q⟩ => ⟨I1.kIn, ?_⟩) he hpl
  exact run_fn F hr hb hd hx I1 r q
end

section
variable {X : Cx} {CX : CXT} {k : Nat} {f C : Addr} {fd : FuncData} {ps ks : List Str} {sp : Sp} {E : XK} {x m : Str} {p pos apos kpos : Pos} {e o : Expr} {es : List Expr} {kws : List Keyword} {te ta : TE} {t tk : TA} {nm : Option Str}
variable {g : List Value → List Value → List Value} {gV : List V → List V → List V}
end

/-- names: the parameters first -/
structure FnScope (N P : List Str) (sc : Scope) : Prop where
  kind : sc.kind = .function
  co : sc.isCoroutine = false
  gen : sc.isGenerator = false
  nd : N.Nodup
  pre : N.take P.length = P
  par : ∀ x ∈ P, sc.names.lookup x = some .local ∨ sc.names.lookup x = some .cell
  nofree : ∀ y ∈ sc.names, y.2 ≠ .free

theorem bindL_out {kindOf : Str → Option NameKind} {x : Str} : ∀ {binds : List (Str × Value)} {m : Str → Option Value}, (∀ v, (x, v) ∉ binds) → bindL kindOf binds m x = m x
  | [], _, _ => rfl
  | (n, v) :: r, m, h => by
    unfold bindL
    rw [bindL_out fun w hw => h w (List.mem_cons_of_mem _ hw)]
    split
    · have : x ≠ n := by rintro rfl; exact h v List.mem_cons_self
      simp [this]
    · rfl
theorem bindC_out {kindOf : Str → Option NameKind} {x : Str} : ∀ {binds : List (Str × Value)} {m : Str → Option Value}, (∀ v, (x, v) ∉ binds) → bindC kindOf binds m x = m x
  | [], _, _ => rfl
  | (n, v) :: r, m, h => by
    unfold bindC
    rw [bindC_out fun w hw => h w (List.mem_cons_of_mem _ hw)]
    split
    · rfl
    · have : x ≠ n := by rintro rfl; exact h v List.mem_cons_self
      simp [this]
theorem bindL_get {kindOf : Str → Option NameKind} {x : Str} {v : Value} : ∀ {P : List Str} {vs : List Value} {i : Nat} {m : Str → Option Value}, P.Nodup → P[i]? = some x → vs[i]? = some v → kindOf x = some .local →
    bindL kindOf (P.zip vs) m x = some v
  | [], _, _, _, _, h, _, _ => by simp at h
  | _ :: _, [], _, _, _, _, h, _ => by simp at h
  | p :: P, w :: vs, 0, m, nd, h1, h2, hk => by
    simp at h1 h2; subst h1; subst h2
    show bindL kindOf ((p, w) :: P.zip vs) m p = _
    unfold bindL
    rw [bindL_out fun v hv => (List.nodup_cons.mp nd).1 (List.of_mem_zip hv).1, if_pos hk]
    simp
  | p :: P, w :: vs, i + 1, m, nd, h1, h2, hk => by
    show bindL kindOf ((p, w) :: P.zip vs) m x = _
    unfold bindL
    exact bindL_get (i := i) (List.nodup_cons.mp nd).2 (by simpa using h1) (by simpa using h2) hk
theorem bindC_get {kindOf : Str → Option NameKind} {x : Str} {v : Value} : ∀ {P : List Str} {vs : List Value} {i : Nat} {m : Str → Option Value}, P.Nodup → P[i]? = some x → vs[i]? = some v → kindOf x ≠ some .local →
    bindC kindOf (P.zip vs) m x = some v
  | [], _, _, _, _, h, _, _ => by simp at h
  | _ :: _, [], _, _, _, _, h, _ => by simp at h
  | p :: P, w :: vs, 0, m, nd, h1, h2, hk => by
    simp at h1 h2; subst h1; subst h2
    show bindC kindOf ((p, w) :: P.zip vs) m p = _
    unfold bindC
    rw [bindC_out fun v hv => (List.nodup_cons.mp nd).1 (List.of_mem_zip hv).1, if_neg hk]
    simp
  | p :: P, w :: vs, i + 1, m, nd, h1, h2, hk => by
    show bindC kindOf ((p, w) :: P.zip vs) m x = _
    unfold bindC
    exact bindC_get (i := i) (List.nodup_cons.mp nd).2 (by simpa using h1) (by simpa using h2) hk

/-- the names' values at the entry -/
def start (N : List Str) (vs : List V) : St := vs.map some ++ List.replicate (N.length - vs.length) none

/-- the context of a def's body, at its entry; an exception leaves the frame, then lies as CX says -/
def cxOf (CX : CXT) (P : Program) (w : World) (K : PySem.W.Frag) (mg : Str → Option Value) (base : Heap) (N : List Str) (qual : Str) (scope : Scope) (f : Addr) (cd : Value) (A : Around) (outer : List Env) (s : Shared) (H : Hp) (E : XK) : Cx where
  prog := P
  w := w
  K := K
  mg := mg
  base := base
  A := A.deeper (envOfC qual scope s.heap.objs.size f cd)
  N := N
  s₀ := s
  H₀ := H
  env := envOfC qual scope s.heap.objs.size f cd
  outer := outer
  stack := envOfC qual scope s.heap.objs.size f cd :: outer
  ex := []
  calm := true
  fn := fun _ => true
  pn := []
  xe := fun e s' => wpAny (model P w) (A.deeper (envOfC qual scope s.heap.objs.size f cd)) (leaving (envOfC qual scope s.heap.objs.size f cd) e) (fun _ s'' => CX outer H s E e s'') (fun e' s'' => CX outer H s E e' s'') s'

theorem cell_has {sc : Scope} {n : Nat} {x : Str} (h : sc.names.lookup x = some .cell) : ∃ c, (cellsFrom n sc.names []).lookup x = some c := by
  have q := PySem.W.cellsFrom_some sc.names n [] (.inl h)
  exact Option.isSome_iff_exists.mp q

theorem inv_start {CX : CXT} {P : Program} {w : World} {K : PySem.W.Frag} {mg : Str → Option Value} {base : Heap} {N ps : List Str} {qual : Str} {scope : Scope} {f : Addr} {cd : Value} {A : Around} {outer : List Env} {s s1 : Shared} {H : Hp} {E : XK} {us : List Value} {vs : List V}
    (S : FnScope N ps scope) (hd : A.handled = none) (e0 : Env0 P w K mg base A outer s H) (hl : vs.length = ps.length) (r : Vals vs us)
    (x : InCallC s s.heap.objs.size (bindL (envOfC qual scope s.heap.objs.size f cd).kindOf (ps.zip us) fun _ => none) (cellsFrom (s.heap.objs.size + 1) scope.names []) (bindC (envOfC qual scope s.heap.objs.size f cd).kindOf (ps.zip us) fun _ => none) s1) :
    Inv (cxOf CX P w K mg base N qual scope f cd A outer s H E) [] (start N vs) H s1 := by
  have hpl : ps.length ≤ N.length := by have := congrArg List.length S.pre; rw [List.length_take] at this; omega
  obtain ⟨h1, tk, rfl, hk⟩ := x.done
  have noA : ∀ b : Addr, b ∉ (cxOf CX P w K mg base N qual scope f cd A outer s H E).ex := fun b z => absurd (show b ∈ ([] : List Addr) from z) (by simp)
  refine ⟨⟨e0.mod, S.kind, rfl, rfl, Nat.le_refl _, fun y z c h1 h2 => ?_, fun y hy => ?_, fun y c _ h => ?_, fun _ => hd, Around.frames_deeper e0.frames, .inr ⟨rfl, rfl⟩, fun b z => absurd z (noA b), e0.bs, e0.bsz, fun b _ _ => noA b, fun b z => absurd z (noA b), e0.funs, e0.frf⟩,
    rfl, e0.bare, Un.kept hk, ⟨_, x.toInCall.ns, fun i y v h1 h2 h3 => ?_⟩, fun y c h => ⟨_, x.cell y c h⟩, e0.hok.fresh (Nat.le_refl _), fun y c h => ?_, fun p hp => absurd (show p ∈ ([] : List (Addr × Obj)) from hp) (by simp), e0.hok.kept hk, ?_⟩
  · exact name_of_addr x.apart (PySem.mem_of_lookup h1) (PySem.mem_of_lookup h2)
  · have hy : scope.names.lookup y = some .cell ∨ scope.names.lookup y = some .free := hy
    rcases hy with hy | hy
    · exact cell_has hy
    · exact absurd rfl (S.nofree _ (PySem.mem_of_lookup hy))
  · exact Nat.le_of_lt (x.above y c (PySem.mem_of_lookup h))
  · have hi : i < vs.length := by
      unfold start at h2
      by_cases hi : i < vs.length
      · exact hi
      · rw [List.getElem?_append_right (by simpa using hi)] at h2
        rw [List.getElem?_replicate] at h2
        split at h2 <;> cases h2
    have ha : vs[i]? = some v := by
      unfold start at h2
      rw [List.getElem?_append_left (by simpa using hi), List.getElem?_map] at h2
      cases e : vs[i]? with
      | none => rw [e] at h2; cases h2
      | some a => rw [e] at h2; cases h2; rfl
    obtain ⟨u, hu, rv⟩ := r.get ha
    have hp : ps[i]? = some y := by
      rw [← S.pre, List.getElem?_take_of_lt (by omega)]; exact h1
    have ndP : ps.Nodup := by rw [← S.pre]; exact S.nd.sublist (List.take_sublist _ _)
    refine ⟨u, rv, ?_⟩
    rcases S.par y (List.mem_of_getElem? hp) with k | k
    · exact .inl ⟨k, bindL_get ndP hp hu k⟩
    · obtain ⟨c, e⟩ := cell_has (n := s.heap.objs.size + 1) k
      refine .inr ⟨.inl k, c, e, ?_⟩
      have q := x.cell y c e
      rw [bindC_get ndP hp hu (by show scope.names.lookup y ≠ _; rw [k]; decide)] at q
      exact q
  · exact e0.hok.fresh (Nat.le_of_lt (x.above y c (PySem.mem_of_lookup h)))
  · unfold start
    show _ = N.length
    rw [List.length_append, List.length_map, List.length_replicate]
    omega

/-- THE RULE: a def (or a method) of the text, by its body. The body's reading t is chosen for each entry; it is run at the parameters' values -/
theorem fn_of {CX : CXT} {P : Program} {w : World} {K : PySem.W.Frag} {mg : Str → Option Value} {base : Heap} {k : Nat} {f : Addr} {name qual : Str} {params : Arguments} {body : List Stmt} {scope : Scope} {dV kV doc pm cdv ct oc : Value} {an od : Option Addr}
    {osl : Array (Option Value)} {N ps : List Str} {sp : Sp} (lk : K.lookup f = some ⟨oc, od, .func (PySem.W.fnOf name qual params body scope dV kV doc pm an cdv ct), osl⟩) (hcd : PySem.W.codeIn K cdv qual = true) (S : FnScope N ps scope)
    (len : ∀ vs H Q E, sp vs H Q E → vs.length = ps.length)
    (hbody : ∀ (A : Around) (outer : List Env) (s : Shared) (H : Hp) (vs : List V) (Q : VK) (E : XK), Room k (A.deeper (envOfC qual scope s.heap.objs.size f cdv)) → sp vs H Q E →
      ∃ t, PSs (cxOf CX P w K mg base N qual scope f cdv A outer s H E) body t ∧ t { nx := fun _ H' => Q .non H', rt := Q } (start N vs) H) :
    FnOk P w K mg base CX (k + 1) f (PySem.W.fnOf name qual params body scope dV kV doc pm an cdv ct) ps sp := by
  refine ⟨len, fun A outer s H args us vs Q E hr e0 hb r hsp => ?_⟩
  have hl := len _ _ _ _ hsp
  have KX : K.In s.heap := e0.mod.kin.keeps fun b o e => (e0.bs b o e).1
  have lim : s.heap.NoLimit := e0.mod.nolimit.keeps fun b o e => (e0.bs b o e).1
  have hkind : ∀ y ∈ ps.zip us, scope.names.lookup y.1 = some .local ∨ (scope.names.lookup y.1 = some .cell ∧ ((cellsFrom (s.heap.objs.size + 1) scope.names []).lookup y.1).isSome = true) := fun ⟨n, v⟩ hy => by
    rcases S.par n (List.of_mem_zip hy).1 with q | q
    · exact .inl q
    · exact .inr ⟨q, PySem.W.cellsFrom_some _ _ _ (.inl q)⟩
  refine codeAny_call_function hr.depth (KX _ _ lk) rfl S.co S.gen rfl (PySem.W.codeRec_of KX hcd) (hb _ _ _ _ ?_)
  refine wpAny_newFunctionEnv_cells S.kind hkind fun env he s1 x => ?_
  subst he
  refine ⟨lim.keeps x.toInCall.keep, codeAny_func ?_⟩
  obtain ⟨t, ht, hq⟩ := hbody A outer s H vs Q E (hr.deeper _) hsp
  have I : Inv (cxOf CX P w K mg base N qual scope f cdv A outer s H E) [] (start N vs) H s1 := inv_start S hr.hd e0 hl r x
  refine wpAny_mono (ht [] s1 (start N vs) H _ I hq) (fun fl s' hs => ?_) fun e s' hs => hs
  have fin : ∀ {σ' : St} {H' : Hp} {v : V} {u : Value}, Inv (cxOf CX P w K mg base N qual scope f cdv A outer s H E) [] σ' H' s' → RelV v u → Q v H' → CE outer P w H s Q u s' :=
    fun {σ' H' v u} J rv q => ⟨v, H', J.os, J.bare, J.base, J.hok, rv, q⟩
  cases fl with
  | ret u =>
    obtain ⟨v, σ', H', J, rv, q⟩ := hs
    exact fin J rv q
  | next =>
    obtain ⟨σ', H', J, q⟩ := hs
    exact fin (v := V.non) (u := Value.none) J rfl q
  | brk =>
    obtain ⟨_, _, _, q⟩ := hs
    exact False.elim q
  | cont =>
    obtain ⟨_, _, _, q⟩ := hs
    exact False.elim q
end L2

namespace L2
open PySem PySem.Spec PyProof.Rows
section
variable {X : Cx} {x : Str} {p pos : Pos} {e : Expr} {es : List Expr} {t : TA} {id T : String} {r : List V → Hp → VK → Prop}

def tCB (r : List V → Hp → VK → Prop) (t : TA) : TE := fun σ H Q => t σ H fun vs H1 => r vs H1 Q
/-- f(e, ..), f a built-in function -/
theorem pe_callB (hc : CallR X (.builtin id) r) (hg : Gl X x) (hm : X.mg x = none) (hv : bootBuiltins x = some (.builtin id)) (ha : PA X (e :: es) t) (hn : x ≠ "__name__" := by decide) (hdb : (x == ("__debug__" : Str)) = false := by decide)
    (he : starEach (e :: es) X.env = (false, eval e X.env) :: starEach es X.env := by rfl) (hpl : (backTo pos (starEach es X.env)).any (·.1) = false := by rfl) : PE X (.Call (.Name x p) (e :: es) [] pos) (tCB r t) := by
  intro pins s σ H Q I h
  refine wpAny_Call_Name_kw (ld_blt I hg hm hv ?_ hn hdb)
  exact PyProof.Rows.callWith_builtin1 (thn (ha pos pins s σ H _ I h) fun us s1 ⟨vs, H1, I1, r1, q1⟩ => hc pins s1 σ H1 vs us Q I1 r1 q1) he hpl
/-- T(e, ..), T a built-in type -/
theorem pe_callTy (hc : CallR X (.type T) r) (hg : Gl X x) (hm : X.mg x = none) (hv : bootBuiltins x = some (.type T)) (ha : PA X (e :: es) t) (hn : x ≠ "__name__" := by decide) (hdb : (x == ("__debug__" : Str)) = false := by decide)
    (he : starEach (e :: es) X.env = (false, eval e X.env) :: starEach es X.env := by rfl) (hpl : (backTo pos (starEach es X.env)).any (·.1) = false := by rfl) : PE X (.Call (.Name x p) (e :: es) [] pos) (tCB r t) := by
  intro pins s σ H Q I h
  refine wpAny_Call_Name_kw (ld_blt I hg hm hv ?_ hn hdb)
  exact PyProof.Rows.callWith_type1 (thn (ha pos pins s σ H _ I h) fun us s1 ⟨vs, H1, I1, r1, q1⟩ => hc pins s1 σ H1 vs us Q I1 r1 q1) he hpl
end
end L2

namespace HT
open PySem PyProof.Rows

/-- t < u of tuples of ints -/
def lexLt : List Int → List Int → Bool
  | [], [] => false
  | [], _ :: _ => true
  | _ :: _, [] => false
  | x :: xs, y :: ys => if x = y then lexLt xs ys else decide (x < y)
theorem lexLt_cons (x y : Int) (xs ys : List Int) : lexLt (x :: xs) (y :: ys) = if x = y then lexLt xs ys else decide (x < y) := rfl
section
open PySem.SeqAt
open PySem.AutoSeq1 (wpAny_loadPart')
open PySem.MeetsSeq PySem.MeetsSeq2 PySem.MeetsSeq3

end

section
variable {prog : Program} {w : World} {A : Around} {E : Value → Shared → Prop} {s : Shared}

/-- a slice's bound as a place among n (d where it is left out) -/
def sIx (n d : Nat) : Option Int → Nat
  | none => d
  | some v => if v < 0 then (v + (n : Int)).toNat else min v.toNat n
theorem sIx_nat (n d k : Nat) : sIx n d (some (k : Int)) = min k n := by
  show (if (k : Int) < 0 then ((k : Int) + (n : Int)).toNat else min (k : Int).toNat n) = min k n
  rw [if_neg (by omega), Int.toNat_natCast]
end
end HT

namespace L2
open PySem PySem.Spec PyProof.Rows

abbrev TO := St → Hp → (Option Int → Hp → Prop) → Prop
/-- a slice's part (left out, or an int) -/
def PO (X : Cx) (e : Option Expr) (t : TO) : Prop :=
  ∀ (pins : List (Addr × Obj)) (s : Shared) (σ : St) (H : Hp) (Q : Option Int → Hp → Prop), Inv X pins σ H s → t σ H Q →
    wpAny (model X.prog X.w) X.A (evalPart e X.env) (fun u s' => ∃ o H', Inv X pins σ H' s' ∧ IsPart u o ∧ Q o H') X.xe s
def tPart (t : TE) : TO := fun σ H Q => t σ H fun x H1 => ∃ i, x = .int i ∧ Q (some i) H1

theorem intsAre_of {ns : List Int} : ∀ {us : List Value}, Vals (ns.map V.int) us → IntsAre us ns := by
  induction ns with
  | nil => intro us r; rw [List.map_nil] at r; cases r; exact .nil
  | cons n ns ih =>
    intro us r
    rw [List.map_cons] at r
    cases r with
    | cons r1 r2 =>
      obtain ⟨t, e⟩ := r1
      subst e
      exact .cons n t (ih r2)

section
variable {X : Cx} {e : Expr} {te : TE} {lo hi : Option Expr} {tl th : TO} {pos p2 : Pos}

theorem po_some (h : PE X e te) : PO X (some e) (tPart te) := by
  intro pins s σ H Q I hw
  rw [evalPart_some]
  refine thn (h pins s σ H _ I hw) fun u s1 ⟨x, H1, I1, r1, q1⟩ => ?_
  obtain ⟨i, rfl, q⟩ := q1
  obtain ⟨t, rfl⟩ := r1
  exact ⟨some i, H1, I1, .int i t, q⟩

/-- what a slice of a value is, by values: the slice object stands at sl -/
def SlR (X : Cx) (r : V → Option Int → Option Int → Hp → VK → Prop) : Prop :=
  ∀ (pins : List (Addr × Obj)) (s : Shared) (σ : St) (H : Hp) (x : V) (v vl vu : Value) (lo hi : Option Int) (sl : Addr) (Q : VK), Inv X pins σ H s → RelV x v → s.heap.IsSliceOf sl vl vu .none → IsPart vl lo → IsPart vu hi → r x lo hi H Q →
    ∃ T id, typeLookup (.type T) "__getitem__" = pure (some (.builtin id)) ∧ s.TypeIs v T ∧ wpAny (model X.prog X.w) X.A (getItem v (.ref sl)) (EP X pins σ Q) X.xe s
def tSl (r : V → Option Int → Option Int → Hp → VK → Prop) (te : TE) (tl th : TO) : TE := fun σ H Q => te σ H fun x H1 => tl σ H1 fun l H2 => th σ H2 fun u H3 => r x l u H3 Q
/-- a[lo:hi], any a -/
theorem pe_slice {r : V → Option Int → Option Int → Hp → VK → Prop} (hr : SlR X r) (he : PE X e te) (hl : PO X lo tl) (hu : PO X hi th) : PE X (.Subscript e (.Slice lo hi none p2) pos) (tSl r te tl th) := by
  intro pins s σ H Q I h
  refine Subscript_ (thn (he pins s σ H _ I h) fun v s1 ⟨x, H1, I1, r1, q1⟩ => ?_)
  refine wpAny_Slice (thn (hl pins s1 σ H1 _ I1 q1) fun vl s2 ⟨l, H2, I2, pl, q2⟩ => thn (hu pins s2 σ H2 _ I2 q2) fun vu s3 ⟨u, H3, I3, pu, q3⟩ => ?_)
  rw [evalPart_none]
  refine wpAny_pure ?_
  have I4 : Inv X pins σ H3 { s3 with heap := s3.heap.push { cls := .type "slice", data := .fields #[vl, vu, .none] } } := I3.kept (t' := s3.toks) fun b ob q => Heap.get?_push_of_some _ q
  obtain ⟨T, id, hT, ht, hg⟩ := hr pins { s3 with heap := s3.heap.push { cls := .type "slice", data := .fields #[vl, vu, .none] } } σ H3 x v vl vu l u s3.heap.objs.size Q I4 r1 (Heap.IsSliceOf.new ..) pl pu q3
  show wpAny (model X.prog X.w) X.A (subscriptTail e (.Slice lo hi none p2) v (.ref s3.heap.objs.size)) (EP X pins σ Q) X.xe { s3 with heap := s3.heap.push { cls := .type "slice", data := .fields #[vl, vu, .none] } }
  exact tail_any (ops := [.ref s3.heap.objs.size, v]) ht hT hg (by with_unfolding_all rfl)

/-- the items of xs[lo:hi] -/
def cutV (xs : List V) (lo hi : Option Int) : List V := (xs.drop (HT.sIx xs.length 0 lo)).take (HT.sIx xs.length xs.length hi - HT.sIx xs.length 0 lo)
theorem cutV_length (xs : List V) (lo hi : Option Int) : (cutV xs lo hi).length ≤ xs.length := by
  unfold cutV
  rw [List.length_take, List.length_drop]
  omega
end
end L2

namespace L2
open PySem PySem.Spec PyProof.Rows

/-- the place that an index of any sign means -/
def ixN (n : Nat) (i : Int) : Option Nat := if 0 ≤ i then (if i < n then some i.toNat else none) else if -(n : Int) ≤ i then some (i + n).toNat else none
def atI {α : Type} (xs : List α) (i : Int) : Option α := (ixN xs.length i).bind fun j => xs[j]?
theorem ixN_seq {n : Nat} {i : Int} {j : Nat} (h : ixN n i = some j) : seqIndex? i n = some j ∧ j < n ∧ -(n : Int) ≤ i ∧ i < n := by
  unfold ixN at h
  by_cases h0 : 0 ≤ i
  · rw [if_pos h0] at h
    by_cases h1 : i < n
    · rw [if_pos h1] at h
      have e : i.toNat = j := Option.some.inj h
      exact ⟨by rw [seqIndex_of h0 h1, e], by omega, by omega, h1⟩
    · rw [if_neg h1] at h; cases h
  · rw [if_neg h0] at h
    by_cases h1 : -(n : Int) ≤ i
    · rw [if_pos h1] at h
      have e : (i + n).toNat = j := Option.some.inj h
      exact ⟨by rw [seqIndex_neg (by omega) h1, e], by omega, h1, by omega⟩
    · rw [if_neg h1] at h; cases h
theorem atI_get {α : Type} {xs : List α} {i : Int} {v : α} (h : atI xs i = some v) : ∃ j, seqIndex? i xs.length = some j ∧ xs[j]? = some v ∧ j < xs.length ∧ -(xs.length : Int) ≤ i ∧ i < xs.length := by
  unfold atI at h
  cases e : ixN xs.length i with
  | none => rw [e] at h; cases h
  | some j =>
    rw [e] at h
    obtain ⟨h1, h2, h3, h4⟩ := ixN_seq e
    exact ⟨j, h1, h, h2, h3, h4⟩
theorem atI_nat {α : Type} {xs : List α} {j : Nat} {v : α} (h : xs[j]? = some v) : atI xs (j : Int) = some v := by
  have hj : j < xs.length := (List.getElem?_eq_some_iff.mp h).1
  have e : ixN xs.length (j : Int) = some j := by
    unfold ixN
    rw [if_pos (by omega), if_pos (by omega)]; simp
  unfold atI; rw [e]; exact h
/-- what stands as an index of a plain subscript -/
def PlainIx (b : Expr) : Prop := ∀ o i, subscripted b false o i = operate [o, i] (getItem o i)
/-- a subscript by values -/
def IxR (X : Cx) (r : R2) : Prop :=
  ∀ (value slice : Expr) (pins : List (Addr × Obj)) (s : Shared) (σ : St) (H : Hp) (x y : V) (v u : Value) (Q : VK), Inv X pins σ H s → RelV x v → RelV y u → r x y H Q →
    subscripted slice false v u = operate [v, u] (getItem v u) → wpAny (model X.prog X.w) X.A (subscriptTail value slice v u) (EP X pins σ Q) X.xe s
/-- a call of a builtin's method by values: the receiver, the arguments -/
def MtR (X : Cx) (id : String) (r : V → List V → Hp → VK → Prop) : Prop :=
  ∀ (pins : List (Addr × Obj)) (s : Shared) (σ : St) (H : Hp) (x : V) (xs : List V) (v : Value) (us : List Value) (Q : VK), Inv X pins σ H s → RelV x v → Vals xs us → r x xs H Q →
    wpAny (model X.prog X.w) X.A (call (.builtin id) (v :: us)) (EP X pins σ Q) X.xe s
section
variable {X : Cx} {a b : Expr} {ta tb : TE} {pos : Pos}
theorem IxR.or {r r' : R2} (h : IxR X r) (h' : IxR X r') : IxR X (fun x y H Q => r x y H Q ∨ r' x y H Q) := by
  intro value slice pins s σ H x y v u Q I rx ry q hs
  rcases q with q | q
  · exact h value slice pins s σ H x y v u Q I rx ry q hs
  · exact h' value slice pins s σ H x y v u Q I rx ry q hs
/-- a[b] -/
theorem pe_ix {r : R2} (hr : IxR X r) (ha : PE X a ta) (hb : PE X b tb) (hs : PlainIx b) : PE X (.Subscript a b pos) (tOp r ta tb) := by
  intro pins s σ H Q I h
  exact Subscript_ (binT ha hb I h fun v u s2 x y H2 I2 rx ry q => hr a b pins s2 σ H2 x y v u Q I2 rx ry q (hs _ _))

def rIxL (K : PySem.W.Frag) : R2 := fun x y H Q => ∃ p xs i v, x = .ref p ∧ y = .int i ∧ SqL K H p xs ∧ atI xs i = some v ∧ Q v H
def rIxT (K : PySem.W.Frag) : R2 := fun x y H Q => ∃ p xs i v, x = .ref p ∧ y = .int i ∧ SqT K H p xs ∧ atI xs i = some v ∧ Q v H
def rIxS : R2 := fun x y H Q => ∃ z i c, x = .str z ∧ y = .int i ∧ z.length ≤ sizeLine ∧ atI z.cps.toList i = some c ∧ Q (.str ⟨#[c]⟩) H
theorem ix_list : IxR X (rIxL X.K) := by
  intro value slice pins s σ H x y v u Q I rx ry h hs
  obtain ⟨p, xs, i, z, rfl, rfl, hq, he, q⟩ := h
  cases rx
  obtain ⟨t, rfl⟩ := ry
  obtain ⟨its, r, pl, hz⟩ := I.list hq
  obtain ⟨j, h1, h2, h3, h4, h5⟩ := atI_get he
  obtain ⟨w, ew, rw'⟩ := r.get h2
  have hl := r.length
  have hn := line63
  have fin : EP X pins σ Q w s := ⟨z, H, I, rw', q⟩
  by_cases h0 : 0 ≤ i
  · have hj : i.toNat = j := by
      rw [seqIndex_of h0 h5] at h1
      exact Option.some.inj h1
    exact item_listR pl.isList h0 (by omega) (by rw [hj]; simpa using ew) fin hs
  · have hj : (i + (its.toArray.size : Int)).toNat = j := by
      rw [seqIndex_neg (by omega) h4] at h1
      rw [List.size_toArray, ← hl]
      exact Option.some.inj h1
    exact subscriptTail_builtinR (x := w) pl.isList.typeIs slot_list_getitem.lookup
      (wpAny_getItem_list_neg (Q := fun r s' => r = w ∧ EP X pins σ Q r s') pl.isList (by omega) (by rw [List.size_toArray] <;> omega) (by omega) (by rw [hj]; simpa using ew) ⟨rfl, fin⟩) hs
theorem ix_tup : IxR X (rIxT X.K) := by
  intro value slice pins s σ H x y v u Q I rx ry h hs
  obtain ⟨p, xs, i, z, rfl, rfl, hq, he, q⟩ := h
  cases rx
  obtain ⟨t, rfl⟩ := ry
  obtain ⟨its, r, pl, hz⟩ := I.tuple hq
  obtain ⟨j, h1, h2, h3, h4, h5⟩ := atI_get he
  obtain ⟨w, ew, rw'⟩ := r.get h2
  have hl := r.length
  have hn := line63
  have fin : EP X pins σ Q w s := ⟨z, H, I, rw', q⟩
  exact subscriptTail_builtinR (x := w) pl.typeIs slot_tuple_getitem.lookup
    (getItem_tuple (j := j) (Q := fun r s' => r = w ∧ EP X pins σ Q r s') pl (by omega) (by omega) (by rw [List.size_toArray, ← hl]; exact h1) (by simpa using ew) ⟨rfl, fin⟩) hs
theorem ix_str : IxR X rIxS := by
  intro value slice pins s σ H x y v u Q I rx ry h hs
  obtain ⟨z, i, c, rfl, rfl, hz, he, q⟩ := h
  obtain ⟨t, rfl⟩ := rx
  obtain ⟨t', rfl⟩ := ry
  obtain ⟨j, h1, h2, h3, h4, h5⟩ := atI_get he
  have hl : z.cps.toList.length = z.length := by simp [Str.length]
  rw [hl] at h1 h4 h5
  have hn := line63
  exact tail_any (typeIs_str s z t) slot_str_getitem.lookup (getItem_str (c := c) (by
    have e1 : decide (i < -(2 ^ 63 : Int)) = false := decide_eq_false (by omega)
    have e2 : decide (i ≥ 2 ^ 63) = false := decide_eq_false (by omega)
    rw [e1, e2, Bool.or_false]) (by rw [h1]; simpa using h2) ⟨.str ⟨#[c]⟩, H, I.tok _, ⟨_, rfl⟩, q⟩) hs
/-- list, tuple or str -/
def rIx (K : PySem.W.Frag) : R2 := fun x y H Q => rIxL K x y H Q ∨ rIxT K x y H Q ∨ rIxS x y H Q
theorem ix_seq : IxR X (rIx X.K) := ix_list.or (ix_tup.or ix_str)

/-- the list's object behind a store -/
theorem mapSeq_set (its : List Value) (n j : Nat) (u : Value) : Obj.mapSeq (·.setIfInBounds j u) { cls := .type "list", data := .seq its.toArray n } = { cls := .type "list", data := .seq (its.set j u).toArray n } := by
  simp [Obj.mapSeq]
theorem Inv.lst {pins : List (Addr × Obj)} {σ : St} {H : Hp} {s : Shared} {p : Addr} {xs : List V} (I : Inv X pins σ H s) (h : H p = some (.lst xs)) :
    ∃ (its : List Value) (n : Nat), Vals xs its ∧ s.heap.get? p = some { cls := .type "list", data := .seq its.toArray n } ∧ xs.length ≤ sizeLine := by
  obtain ⟨z, its, n, r, e⟩ := I.hok p _ h
  exact ⟨its, n, r, e, z⟩
/-- the list at p is written by an update of its object -/
theorem Inv.lstUpd {pins : List (Addr × Obj)} {σ : St} {H : Hp} {s : Shared} {p : Addr} {xs ys : List V} {its its' : List Value} {n n' : Nat} {f : Obj → Obj} (I : Inv X pins σ H s) (h : H p = some (.lst xs))
    (ho : s.heap.get? p = some { cls := .type "list", data := .seq its.toArray n }) (hf : f { cls := .type "list", data := .seq its.toArray n } = { cls := .type "list", data := .seq its'.toArray n' }) (r : Vals ys its') (hz : ys.length ≤ sizeLine) (t : Nat) :
    Inv X pins σ (upd H p (.lst ys)) { s with heap := s.heap.update p f, toks := t } := by
  have e : (s.heap.update p f).get? p = some { cls := .type "list", data := .seq its'.toArray n' } := by
    rw [Heap.get?_update_self f ho (by rw [hf] <;> rfl), hf]
  refine I.write (x := p) (e := p) (by rw [h]; trivial) (.inl rfl) (fun b u hb q => (Heap.get?_update_other _ _ (Ne.symm hb)).trans q) ⟨_, e⟩ ?_
  exact ⟨hz, its', n', r, e⟩
def rSetL : V → V → V → Hp → (Hp → Prop) → Prop := fun o i v H Q => ∃ p xs k j, o = .ref p ∧ i = .int k ∧ H p = some (.lst xs) ∧ ixN xs.length k = some j ∧ Q (upd H p (.lst (xs.set j v)))
theorem set_list : PSet X rSetL := by
  intro pins s σ H o i v ov iv u Q I ro ri rv h
  obtain ⟨p, xs, k, j, rfl, rfl, hp, hj, q⟩ := h
  cases ro
  obtain ⟨t, rfl⟩ := ri
  obtain ⟨its, n, r, ho, hz⟩ := I.lst hp
  obtain ⟨h1, h2, h3, h4⟩ := ixN_seq hj
  have hl := r.length
  have hn := line63
  have I' : Inv X pins σ (upd H p (.lst (xs.set j v))) { s with heap := s.heap.update p (Obj.mapSeq (·.setIfInBounds j u)) } :=
    I.lstUpd hp ho (mapSeq_set its n j u) (r.set rv j) (by rw [List.length_set]; exact hz) s.toks
  by_cases h0 : 0 ≤ k
  · have hk : k.toNat = j := by
      rw [seqIndex_of h0 h4] at h1
      exact Option.some.inj h1
    exact PySem.W.ki_setAt ho h0 (by omega) (by rw [List.size_toArray, ← hl]; exact h4) (by rw [hk]; exact ⟨_, I', q⟩)
  · have hk : (k + (its.toArray.size : Int)).toNat = j := by
      rw [seqIndex_neg (by omega) h3] at h1
      rw [List.size_toArray, ← hl]
      exact Option.some.inj h1
    exact PySem.W.ki_setBack ho (by omega) (by rw [List.size_toArray, ← hl]; exact h3) (by omega) (by rw [hk]; exact ⟨_, I', q⟩)

theorem slice_bounds (lo hi : Option Int) (n : Nat) : (sliceBounds lo hi none n).1 = ((HT.sIx n 0 lo : Nat) : Int) ∧ (sliceBounds lo hi none n).2.1 = ((HT.sIx n n hi : Nat) : Int) ∧ (sliceBounds lo hi none n).2.2 = 1 := by
  refine ⟨?_, ?_, rfl⟩
  · cases lo with
    | none => simp [sliceBounds, HT.sIx]
    | some i =>
      simp only [sliceBounds, HT.sIx, Option.getD_none, show (1 : Int) > 0 by decide, if_true]
      by_cases h : i < 0
      · simp only [h, if_true] <;> omega
      · simp only [h, if_false] <;> omega
  · cases hi with
    | none => simp [sliceBounds, HT.sIx]
    | some i =>
      simp only [sliceBounds, HT.sIx, Option.getD_none, show (1 : Int) > 0 by decide, if_true]
      by_cases h : i < 0
      · simp only [h, if_true] <;> omega
      · simp only [h, if_false] <;> omega
theorem slicePick_cut (its : List Value) (lo hi : Option Int) : slicePick its.toArray lo hi none = ((its.drop (HT.sIx its.length 0 lo)).take (HT.sIx its.length its.length hi - HT.sIx its.length 0 lo)).toArray := by
  obtain ⟨h1, h2, h3⟩ := slice_bounds lo hi its.toArray.size
  unfold slicePick
  rw [h1, h2, h3]
  simp only [sliceRange_one, pick_run, List.size_toArray] <;> rfl
/-- xs[lo:hi] of a list: a new list -/
def rSlL (K : PySem.W.Frag) : V → Option Int → Option Int → Hp → VK → Prop := fun x lo hi H Q => ∃ a xs, x = .ref a ∧ SqL K H a xs ∧ ∀ p, H p = none → Q (.ref p) (upd H p (.lst (cutV xs lo hi)))
theorem sl_list : SlR X (rSlL X.K) := by
  intro pins s σ H x v vl vu lo hi sl Q I rx hs pl pu h
  obtain ⟨a, xs, rfl, hx, q⟩ := h
  cases rx
  obtain ⟨its, r, ht, hz⟩ := I.list hx
  have hlen := r.length
  refine ⟨"list", _, slot_list_getitem.lookup, ht.isList.typeIs, ?_⟩
  refine wpAny_getItem_list_slice ht.isList hs pl pu .none (by simp) ?_ (by rw [List.size_toArray] <;> omega)
  rw [slicePick_cut, ← hlen]
  refine ⟨.ref s.heap.objs.size, _, I.laid (t' := s.toks) (o := .lst (cutV xs lo hi)) (fun b ob q => Heap.get?_push_of_some _ q) (Nat.le_refl _) ?_, rfl, q _ (I.hok.fresh (Nat.le_refl _))⟩
  exact ⟨Nat.le_trans (cutV_length xs lo hi) hz, _, 0, (r.drop (HT.sIx xs.length 0 lo)).take (HT.sIx xs.length xs.length hi - HT.sIx xs.length 0 lo), Heap.get?_push_size _ rfl⟩

def flatV : V → Bool
  | .non => true
  | .bl _ => true
  | .int _ => true
  | .str _ => true
  | _ => false
/-- == of flat values -/
def eqV : V → V → Bool
  | .non, .non => true
  | .bl a, .bl b => a == b
  | .bl a, .int b => (if a then 1 else 0) == b
  | .int a, .bl b => a == (if b then 1 else 0)
  | .int a, .int b => a == b
  | .str a, .str b => a == b
  | _, _ => false
theorem eqAt_V {A : Around} {s : Shared} {y x : V} {u v : Value} (ry : RelV y u) (rx : RelV x v) (fy : flatV y = true) (fx : flatV x = true) : SeqAt.EqAt A s u v (eqV y x) := by
  cases y with
  | non =>
    cases ry
    cases x with
    | non => cases rx; exact SeqAt.EqAt.same _
    | bl b => cases rx; exact SeqAt.EqAt.none_bool b
    | int b => obtain ⟨t, rfl⟩ := rx; exact SeqAt.EqAt.none_int b t
    | str b => obtain ⟨t, rfl⟩ := rx; exact SeqAt.EqAt.none_str b t
    | _ => exact absurd (show false = true from fx) Bool.false_ne_true
  | bl a =>
    cases ry
    cases x with
    | non => cases rx; exact SeqAt.EqAt.bool_none a
    | bl b => cases rx; exact SeqAt.EqAt.bool_bool a b
    | int b => obtain ⟨t, rfl⟩ := rx; exact SeqAt.EqAt.bool_int a b t
    | str b => obtain ⟨t, rfl⟩ := rx; exact SeqAt.EqAt.bool_str a b t
    | _ => exact absurd (show false = true from fx) Bool.false_ne_true
  | int a =>
    obtain ⟨t', rfl⟩ := ry
    cases x with
    | non => cases rx; exact SeqAt.EqAt.int_none a t'
    | bl b => cases rx; exact SeqAt.EqAt.int_bool a t' b
    | int b => obtain ⟨t, rfl⟩ := rx; exact SeqAt.EqAt.int_int a t' b t
    | str b => obtain ⟨t, rfl⟩ := rx; exact SeqAt.EqAt.int_str a t' b t
    | _ => exact absurd (show false = true from fx) Bool.false_ne_true
  | str a =>
    obtain ⟨t', rfl⟩ := ry
    cases x with
    | non => cases rx; exact SeqAt.EqAt.str_none a t'
    | bl b => cases rx; exact SeqAt.EqAt.str_bool a t' b
    | int b => obtain ⟨t, rfl⟩ := rx; exact SeqAt.EqAt.str_int a t' b t
    | str b => obtain ⟨t, rfl⟩ := rx; exact SeqAt.EqAt.str_str a t' b t
    | _ => exact absurd (show false = true from fx) Bool.false_ne_true
  | _ => exact absurd (show false = true from fy) Bool.false_ne_true
/-- the items' answers, read off the values (a value's own answer does not lean on its token) -/
def eqU (x : V) (u : Value) : Bool := match u with
  | .none => eqV .non x
  | .bool b => eqV (.bl b) x
  | .int i _ => eqV (.int i) x
  | .str z _ => eqV (.str z) x
  | _ => false
theorem eqU_of {x y : V} {u : Value} (r : RelV y u) (f : flatV y = true) : eqU x u = eqV y x := by
  cases y with
  | non => cases r; rfl
  | bl b => cases r; rfl
  | int i => obtain ⟨t, rfl⟩ := r; rfl
  | str z => obtain ⟨t, rfl⟩ := r; rfl
  | _ => exact absurd (show false = true from f) Bool.false_ne_true
theorem any_eqU {x : V} : ∀ {xs : List V} {us : List Value}, Vals xs us → xs.all flatV = true → us.any (eqU x) = xs.any fun y => eqV y x
  | _, _, .nil, _ => rfl
  | y :: xs, u :: us, .cons r t, f => by
    rw [List.all_cons, Bool.and_eq_true] at f
    rw [List.any_cons, List.any_cons, eqU_of r f.1, any_eqU t f.2]
theorem mem_eqAt {A : Around} {s : Shared} {x : V} {v : Value} (rx : RelV x v) (fx : flatV x = true) : ∀ {xs : List V} {us : List Value}, Vals xs us → xs.all flatV = true → ∀ u ∈ us, SeqAt.EqAt A s u v (eqU x u)
  | _, _, .nil, _ => fun u hu => by cases hu
  | y :: xs, u :: us, .cons r t, f => fun u' hu => by
    rw [List.all_cons, Bool.and_eq_true] at f
    rcases List.mem_cons.mp hu with rfl | hu
    · rw [eqU_of r f.1]; exact eqAt_V r rx f.1 fx
    · exact mem_eqAt rx fx t f.2 u' hu
def inV (x : V) (xs : List V) : Bool := xs.any fun y => eqV y x
/-- x in a list or tuple of flat items -/
def rIn (K : PySem.W.Frag) (neg : Bool) : R2 := fun x y H Q => ∃ p xs, y = .ref p ∧ (SqL K H p xs ∨ SqT K H p xs) ∧ flatV x = true ∧ xs.all flatV = true ∧ Q (.bl (if neg then !inV x xs else inV x xs)) H
theorem op_in_seq : OpR X (compareOp .In) (rIn X.K false) := by
  intro pins s σ H x y v u Q I rx ry h
  obtain ⟨p, xs, rfl, hq, fx, fs, q⟩ := h
  cases ry
  rcases hq with hq | hq
  · obtain ⟨its, r, pl, hz⟩ := I.list hq
    refine SeqAt.in_listAt (eqU x) pl.isList (fun w hw => mem_eqAt rx fx r fs w (by simpa using hw)) ⟨.bl _, H, I, rfl, ?_⟩
    rw [show its.toArray.any (eqU x) = its.any (eqU x) by simp, any_eqU r fs]
    exact q
  · obtain ⟨its, r, pl, hz⟩ := I.tuple hq
    refine SeqAt.in_tupleAt (eqU x) pl (fun w hw => mem_eqAt rx fx r fs w (by simpa using hw)) ⟨.bl _, H, I, rfl, ?_⟩
    rw [show its.toArray.any (eqU x) = its.any (eqU x) by simp, any_eqU r fs]
    exact q
theorem op_notIn_seq : OpR X (compareOp .NotIn) (rIn X.K true) := by
  intro pins s σ H x y v u Q I rx ry h
  obtain ⟨p, xs, rfl, hq, fx, fs, q⟩ := h
  cases ry
  rcases hq with hq | hq
  · obtain ⟨its, r, pl, hz⟩ := I.list hq
    refine SeqAt.notIn_listAt (eqU x) pl.isList (fun w hw => mem_eqAt rx fx r fs w (by simpa using hw)) ⟨.bl _, H, I, rfl, ?_⟩
    rw [show its.toArray.any (eqU x) = its.any (eqU x) by simp, any_eqU r fs]
    exact q
  · obtain ⟨its, r, pl, hz⟩ := I.tuple hq
    refine SeqAt.notIn_tupleAt (eqU x) pl (fun w hw => mem_eqAt rx fx r fs w (by simpa using hw)) ⟨.bl _, H, I, rfl, ?_⟩
    rw [show its.toArray.any (eqU x) = its.any (eqU x) by simp, any_eqU r fs]
    exact q
theorem call_len_seq : CallR X (.builtin "len") (fun xs H Q => ∃ p ys, xs = [.ref p] ∧ (SqL X.K H p ys ∨ SqT X.K H p ys) ∧ Q (.int ys.length) H) := by
  intro pins s σ H xs us Q I r h
  obtain ⟨p, ys, rfl, hq, q⟩ := h
  obtain ⟨u, rfl, rx⟩ := vals1 r
  cases rx
  have hn := line63
  rcases hq with hq | hq
  · obtain ⟨its, r', pl, hz⟩ := I.list hq
    have hlen := r'.length
    exact Calls.call_len_list pl.isList (by simp only [List.size_toArray] <;> omega) ⟨.int ys.length, H, I.tok _, ⟨s.toks + 1, by rw [List.size_toArray, hlen]⟩, q⟩
  · obtain ⟨its, r', pl, hz⟩ := I.tuple hq
    have hlen := r'.length
    exact len_tuple pl (by simp only [List.size_toArray] <;> omega) ⟨.int ys.length, H, I.tok _, ⟨s.toks + 1, by rw [List.size_toArray, hlen]⟩, q⟩
theorem call_len_str : CallR X (.builtin "len") (fun xs H Q => ∃ z, xs = [.str z] ∧ z.length ≤ sizeLine ∧ Q (.int z.length) H) := by
  intro pins s σ H xs us Q I r h
  obtain ⟨z, rfl, hz, q⟩ := h
  obtain ⟨u, rfl, t, rfl⟩ := vals1 r
  have hn := line63
  exact len_str (by omega) ⟨.int z.length, H, I.tok _, ⟨_, rfl⟩, q⟩
theorem call_list_of : CallR X (.type "list") (fun xs H Q => ∃ p ys, xs = [.ref p] ∧ (SqL X.K H p ys ∨ SqT X.K H p ys) ∧ ∀ l, H l = none → Q (.ref l) (upd H l (.lst ys))) := by
  intro pins s σ H xs us Q I r h
  obtain ⟨p, ys, rfl, hq, q⟩ := h
  obtain ⟨u, rfl, rx⟩ := vals1 r
  cases rx
  have fin : ∀ (its : List Value), Vals ys its → ys.length ≤ sizeLine → ∀ (h' : Heap) (c' : Nat), (∀ b o', s.heap.get? b = some o' → h'.get? b = some o') →
      h'.get? s.heap.objs.size = some { cls := .type "list", dict := none, data := .seq its.toArray c', slots := #[] } → EP X pins σ Q (.ref s.heap.objs.size) { s with heap := h' } := fun its r' hz h' c' kp e =>
    ⟨.ref s.heap.objs.size, _, I.laid (t' := s.toks) kp (Nat.le_refl _) (show ObjOk X.prog X.w _ h' _ (.lst ys) from ⟨hz, its, c', r', e⟩), rfl, q _ (I.hok.fresh (Nat.le_refl _))⟩
  rcases hq with hq | hq
  · obtain ⟨its, r', pl, hz⟩ := I.list hq
    have hlen := r'.length
    obtain ⟨o, ho, hc, n, hd⟩ := pl.isList
    exact call_list_seq p (.inl rfl) ho hc hd (fun h' c' kp e => fin its r' hz h' c' kp e) (by simp only [List.size_toArray] <;> omega)
  · obtain ⟨its, r', pl, hz⟩ := I.tuple hq
    have hlen := r'.length
    obtain ⟨o, ho, hc, n, hd⟩ := pl
    exact call_list_seq p (.inr rfl) ho hc hd (fun h' c' kp e => fin its r' hz h' c' kp e) (by simp only [List.size_toArray] <;> omega)
theorem call_tuple_of : CallR X (.type "tuple") (fun xs H Q => ∃ p ys, xs = [.ref p] ∧ ((SqL X.K H p ys ∧ ∀ l, H l = none → Q (.ref l) (upd H l (.tup ys))) ∨ (SqT X.K H p ys ∧ Q (.ref p) H))) := by
  intro pins s σ H xs us Q I r h
  obtain ⟨p, ys, rfl, h⟩ := h
  obtain ⟨u, rfl, rx⟩ := vals1 r
  cases rx
  rcases h with ⟨hq, q⟩ | ⟨hq, q⟩
  · obtain ⟨its, r', pl, hz⟩ := I.list hq
    have hlen := r'.length
    refine call_tuple_list pl.isList (fun h' kp => ?_) (by simp only [List.size_toArray] <;> omega)
    have I1 : Inv X pins σ H { s with heap := h' } := I.kept (t' := s.toks) kp
    have I2 : Inv X pins σ (upd H h'.objs.size (.tup ys)) { s with heap := h'.push { cls := .type "tuple", data := .seq its.toArray } } :=
      I1.laid (t' := s.toks) (fun b o e => Heap.get?_push_of_some _ e) (Nat.le_refl _) (show ObjOk X.prog X.w _ _ _ (.tup ys) from ⟨⟨hz, _, Heap.get?_push_size _ rfl, rfl⟩, its, r', IsTup.new _ _⟩)
    exact ⟨.ref h'.objs.size, _, I2, rfl, q _ (I1.hok.fresh (Nat.le_refl _))⟩
  · obtain ⟨its, r', pl, hz⟩ := I.tuple hq
    exact call_tuple_same pl ⟨.ref p, H, I, rfl, q⟩

/-- the value is of that builtin type -/
def tyV (K : PySem.W.Frag) (T : String) (x : V) (H : Hp) : Prop := match x with
  | .str _ => T = "str"
  | .int _ => T = "int"
  | .ref p => (T = "list" ∧ ∃ xs, SqL K H p xs) ∨ (T = "tuple" ∧ ∃ o, K.lookup p = some o ∧ o.cls = .type "tuple" ∧ o.dict = none) ∨
      (T = "dict" ∧ ((∃ kvs, H p = some (.dK kvs)) ∨ ∃ kvs, H p = some (.dT kvs))) ∨ (T = "set" ∧ ∃ S n, H p = some (.set S n))
  | _ => False
theorem tyV_is {pins : List (Addr × Obj)} {σ : St} {H : Hp} {s : Shared} {T : String} {x : V} {v : Value} (I : Inv X pins σ H s) (r : RelV x v) (ty : tyV X.K T x H) :
    s.TypeIs v T ∧ ∀ a, v = .ref a → ∃ ob, s.heap.get? a = some ob ∧ ob.dict = none := by
  cases x with
  | str z =>
    obtain ⟨t, rfl⟩ := r
    cases (show T = "str" from ty)
    exact ⟨typeIs_str s z t, fun _ e => nomatch e⟩
  | int i =>
    obtain ⟨t, rfl⟩ := r
    cases (show T = "int" from ty)
    exact ⟨typeIs_int s i t, fun _ e => nomatch e⟩
  | ref p =>
    cases r
    rcases ty with ⟨rfl, xs, hq⟩ | ⟨rfl, o, hk, hc, hd⟩ | ⟨rfl, hk⟩ | ⟨rfl, S, n, hk⟩
    · obtain ⟨its, _, pl, _⟩ := I.list hq
      refine ⟨pl.isList.typeIs, fun a e => ?_⟩
      cases e
      obtain ⟨o, n, e, c, hd, _⟩ := pl
      exact ⟨o, e, hd⟩
    · refine ⟨⟨o, I.kIn p o hk, hc⟩, fun a e => ?_⟩
      cases e
      exact ⟨o, I.kIn _ o hk, hd⟩
    · have z : ∃ o, s.heap.get? p = some o ∧ o.ExactDict := by
        rcases hk with ⟨kvs, hk⟩ | ⟨kvs, hk⟩
        · obtain ⟨_, _, _, _, o, _, _, e, ex, _⟩ := I.hok p _ hk
          exact ⟨o, e, ex⟩
        · obtain ⟨_, _, _, _, o, _, _, e, ex, _⟩ := I.hok p _ hk
          exact ⟨o, e, ex⟩
      obtain ⟨o, e, ex⟩ := z
      refine ⟨⟨o, e, ex.1⟩, fun a e2 => ?_⟩
      cases e2
      exact ⟨o, e, ex.2.1⟩
    · obtain ⟨o, _, _, _, e, ex, _⟩ := I.hok p _ hk
      refine ⟨⟨o, e, ex.1⟩, fun a e2 => ?_⟩
      cases e2
      exact ⟨o, e, ex.2.1⟩
  | _ => exact False.elim ty
def tBM (K : PySem.W.Frag) (T : String) (r : V → List V → Hp → VK → Prop) (to : TE) (t : TA) : TE := fun σ H Q => to σ H fun x H1 => tyV K T x H1 ∧ t σ H1 fun xs H2 => r x xs H2 Q
variable {o e : Expr} {es : List Expr} {to : TE} {t : TA} {name : Str} {apos cpos : Pos} {T id : String} {r : V → List V → Hp → VK → Prop}
theorem pe_bm (pa : PlainAttrs T) (slot : Slot T name id) (hty : typeOf (.builtin id) = pure (.type "method_descriptor")) (hm : MtR X id r) (ho : PE X o to) (ha : PA X (e :: es) t)
    (hbase : attributeBase o name X.env (eval o X.env) = eval o X.env := by rfl)
    (hfew : ((backTo cpos (starEach (e :: es) X.env)).all (fun x => !x.1) && (backToKw cpos (keywordEach [] X.env)).all (fun x => x.1.isSome)
      && decide ((e :: es).length + ([] : List Keyword).length + (if ([] : List Keyword).isEmpty then 0 else 1) < 30)) = true := by rfl)
    (hline : (apos.endLine == cpos.line) = true := by rfl) (hs : starEach (e :: es) X.env = (false, eval e X.env) :: starEach es X.env := by rfl) (hplain : (backTo cpos (starEach es X.env)).any (·.1) = false := by rfl) :
    PE X (.Call (.Attribute o name apos) (e :: es) [] cpos) (tBM X.K T r to t) := by
  intro pins s σ H Q I h
  refine wpAny_Call_method_late hbase hfew hline rfl (thn (ho pins s σ H _ I h) fun v s1 ⟨x, H1, I1, r1, ty, q1⟩ => ?_)
  obtain ⟨h1, h2⟩ := tyV_is I1 r1 ty
  refine ⟨T, id, pa, slot, hty, h1, h2, ?_⟩
  have hA := ha cpos pins s1 σ H1 _ I1 q1
  rw [hs] at hA ⊢
  refine Calls.callWith_builtin (by show (false || (backTo cpos (starEach es X.env)).any (·.1)) = false; rw [hplain] <;> rfl) (Calls.evalArgs_plain ?_)
  exact thn hA fun us s2 ⟨vs, H2, I2, r2, q2⟩ => hm pins s2 σ H2 x vs v us Q I2 r1 r2 q2
/- xs.append(e), list.index on a module's tuple .. are MtR facts of 06m -/
end
end L2

namespace L2
open PySem PySem.Spec PyProof.Rows

def MtM (X : Cx) (id : String) (r : V → List V → Hp → VK → Prop) : Prop :=
  ∀ (pins : List (Addr × Obj)) (s : Shared) (σ : St) (H : Hp) (x : V) (xs : List V) (v : Value) (us : List Value) (Q : VK), Inv X pins σ H s → RelV x v → Vals xs us → r x xs H Q →
    wpAny (model X.prog X.w) X.A (call (.builtin id) (v :: us)) (EP X pins σ Q) X.xe s

theorem Vals.one : ∀ {x : V} {us : List Value}, Vals [x] us → ∃ u, us = [u] ∧ RelV x u
  | _, _, .cons r .nil => ⟨_, rfl, r⟩
theorem Vals.eraseIdx : ∀ {xs : List V} {us : List Value} (i : Nat), Vals xs us → Vals (xs.eraseIdx i) (us.eraseIdx i)
  | _, _, _, .nil => .nil
  | _, _, 0, .cons _ t => t
  | _, _, i + 1, .cons r t => .cons r (Vals.eraseIdx i t)
theorem len_erase {α : Type} : ∀ (l : List α) (i : Nat), (l.eraseIdx i).length ≤ l.length
  | [], _ => Nat.le_refl _
  | _ :: _, 0 => Nat.le_succ _
  | _ :: r, i + 1 => Nat.succ_le_succ (len_erase r i)
section
variable {X : Cx} {pins : List (Addr × Obj)} {σ : St} {H : Hp} {s : Shared} {l b : Addr} {xs ys zs : List V}

theorem Inv.lset {its its' : List Value} {n : Nat} {f : Array Value → Array Value} {t' : Nat} (I : Inv X pins σ H s) (hH : H l = some (.lst xs))
    (e : s.heap.get? l = some { cls := .type "list", data := .seq its.toArray n }) (hf : f its.toArray = its'.toArray) (hv : Vals ys its') (hz : ys.length ≤ sizeLine) :
    Inv X pins σ (upd H l (.lst ys)) { s with heap := s.heap.update l (Obj.mapSeq f), toks := t' } := by
  have q := PySem.IsL.update e f
  rw [hf] at q
  refine I.write (x := l) (e := l) (by rw [hH]; exact trivial) (.inl rfl) (fun b' u hb hu => (Heap.get?_update_other s.heap (Obj.mapSeq f) (Ne.symm hb)).trans hu) ⟨_, q⟩ ?_
  exact ⟨hz, its', _, hv, q⟩
theorem Inv.lstM (I : Inv X pins σ H s) (hH : H l = some (.lst xs)) : xs.length ≤ sizeLine ∧ ∃ (its : List Value) (n : Nat), Vals xs its ∧ xs.length = its.length ∧ s.heap.get? l = some { cls := .type "list", data := .seq its.toArray n } := by
  obtain ⟨z, its, n, r, e⟩ := I.hok l _ hH
  exact ⟨z, its, n, r, r.length, e⟩

end

section
variable {X : Cx}

def rAppend : V → List V → Hp → VK → Prop := fun x vs H Q => ∃ l xs y, x = .ref l ∧ vs = [y] ∧ H l = some (.lst xs) ∧ xs.length < sizeLine ∧ Q .non (upd H l (.lst (xs ++ [y])))
theorem mt_append : MtM X "list.append" rAppend := by
  intro pins s σ H x vs v us Q I rx rv h
  obtain ⟨l, xs, y, rfl, rfl, hH, hz, q⟩ := h
  cases rx
  obtain ⟨u, rfl, ru⟩ := rv.one
  obtain ⟨z, its, n, r, hl, e⟩ := I.lstM hH
  refine call_meets F.slot_list_append ⟨_, e, rfl⟩ F.entry_list_append (F.args_list_append_2 _ _) (PySem.list_append l its.toArray n u (by rw [List.size_toArray]; omega)) ⟨e, ?_⟩
  refine ⟨.non, _, I.lset (its' := its ++ [u]) hH e (by simp) (r.append (.cons ru .nil)) ?_, rfl, q⟩
  rw [List.length_append, List.length_singleton]
  omega

def rPopAt : V → List V → Hp → VK → Prop := fun x vs H Q => ∃ l xs i k y, x = .ref l ∧ vs = [.int i] ∧ H l = some (.lst xs) ∧ -(2 ^ 63) ≤ i ∧ i < 2 ^ 63 ∧ seqIndex? i xs.length = some k ∧ xs[k]? = some y ∧ Q y (upd H l (.lst (xs.eraseIdx k)))
theorem mt_popAt : MtM X "list.pop" rPopAt := by
  intro pins s σ H x vs v us Q I rx rv h
  obtain ⟨l, xs, i, k, y, rfl, rfl, hH, h1, h2, hk, hy, q⟩ := h
  cases rx
  obtain ⟨u, rfl, ru⟩ := rv.one
  obtain ⟨t, rfl⟩ := ru
  obtain ⟨z, its, n, r, hl, e⟩ := I.lstM hH
  obtain ⟨w, hw, rw'⟩ := r.get hy
  refine call_meets F.slot_list_pop ⟨_, e, rfl⟩ F.entry_list_pop (F.args_list_pop_2 _ _)
    (MeetsSeq.list_pop_at l its.toArray n i t k w (fitsIndex_both h1 h2) (by rw [List.size_toArray, ← hl]; exact hk) (by rw [← Array.getElem?_toList]; exact hw) (by rw [List.size_toArray]; omega)) ⟨e, ?_⟩
  refine ⟨y, _, I.lset (its' := its.eraseIdx k) hH e ?_ (r.eraseIdx k) ?_, rw', q⟩
  · show its.toArray.eraseIdxIfInBounds k = (its.eraseIdx k).toArray
    rw [List.eraseIdxIfInBounds_toArray]
  · have := len_erase xs k
    omega

end

section
variable {prog : Program} {w : World} {A : Around} {E : Value → Shared → Prop} {s : Shared}
end

section
variable {X : Cx}
end
end L2

namespace L2
open PySem PySem.Spec PyProof.Rows

section
variable {κ : Type} [DecidableEq κ]
def valV (kvs : List (κ × V)) (k : κ) : Option V := (kvs.find? fun kv => decide (kv.1 = k)).map (·.2)
/-- in its place, or at the end -/
def putK (kvs : List (κ × V)) (k : κ) (v : V) : List (κ × V) :=
  if (kvs.any fun kv => decide (kv.1 = k)) = true then kvs.map (fun kv => if kv.1 = k then (kv.1, v) else kv) else kvs ++ [(k, v)]
theorem valV_pos {p : κ × V} {r : List (κ × V)} {k : κ} (e : p.1 = k) : valV (p :: r) k = some p.2 := by simp [valV, List.find?_cons, e]
theorem valV_neg {p : κ × V} {r : List (κ × V)} {k : κ} (e : ¬ p.1 = k) : valV (p :: r) k = valV r k := by simp [valV, List.find?_cons, e]
theorem valV_any (k : κ) : ∀ kvs : List (κ × V), (kvs.any fun kv => decide (kv.1 = k)) = (valV kvs k).isSome
  | [] => rfl
  | p :: r => by
    rw [List.any_cons]
    by_cases e : p.1 = k
    · simp only [valV_pos e, decide_eq_true e, Bool.true_or, Option.isSome_some]
    · rw [valV_neg e, decide_eq_false e, Bool.false_or]; exact valV_any k r
theorem length_putK (kvs : List (κ × V)) (k : κ) (v : V) : (putK kvs k v).length ≤ kvs.length + 1 := by
  unfold putK
  split
  · rw [List.length_map]; omega
  · rw [List.length_append, List.length_cons, List.length_nil]; omega
theorem putK_new {kvs : List (κ × V)} {k : κ} (v : V) (h : valV kvs k = none) : putK kvs k v = kvs ++ [(k, v)] := by
  unfold putK
  rw [valV_any, h]
  exact if_neg (by decide)

theorem RelO.isSome_eq {o : Option V} {u : Option Value} (r : RelO o u) : o.isSome = u.isSome := by
  cases o with
  | none => cases u with
    | none => rfl
    | some _ => exact (show False from r).elim
  | some _ => cases u with
    | none => exact (show False from r).elim
    | some _ => rfl
theorem KV.any {kvs : List (κ × V)} {vs : List (κ × Value)} (r : KV kvs vs) (k : κ) : (kvs.any fun kv => decide (kv.1 = k)) = vs.any fun kv => decide (kv.1 = k) := by
  unfold KV at r
  induction r with
  | nil => rfl
  | cons h t ih => rw [List.any_cons, List.any_cons, ih, h.1]
theorem KV.repl {kvs : List (κ × V)} {vs : List (κ × Value)} (r : KV kvs vs) (k : κ) {y : V} {u : Value} (ry : RelV y u) :
    KV (kvs.map fun kv => if kv.1 = k then (kv.1, y) else kv) (vs.map fun kv => if kv.1 = k then (kv.1, u) else kv) := by
  unfold KV at r ⊢
  induction r with
  | nil => exact .nil
  | @cons p q ps qs h t ih =>
    rw [List.map_cons, List.map_cons]
    refine .cons ?_ ih
    obtain ⟨h1, h2⟩ := h
    by_cases e : p.1 = k
    · rw [if_pos e, if_pos (h1.symm.trans e)]; exact ⟨h1, ry⟩
    · rw [if_neg e, if_neg (fun z => e (h1.trans z))]; exact ⟨h1, h2⟩
theorem KV.put {kvs : List (κ × V)} {vs : List (κ × Value)} (r : KV kvs vs) (k : κ) {y : V} {u : Value} (ry : RelV y u) : KV (putK kvs k y) (stored vs k u) := by
  unfold putK stored
  rw [r.any k]
  by_cases e : (vs.any fun kv => decide (kv.1 = k)) = true
  · rw [if_pos e, if_pos e]; exact r.repl k ry
  · rw [if_neg e, if_neg e]; exact Paired.snoc r ⟨rfl, ry⟩
theorem KV.keys {kvs : List (κ × V)} {vs : List (κ × Value)} (r : KV kvs vs) : kvs.map (·.1) = vs.map (·.1) := by
  unfold KV at r
  induction r with
  | nil => rfl
  | cons h t ih => rw [List.map_cons, List.map_cons, ih, h.1]
theorem KV.length {kvs : List (κ × V)} {vs : List (κ × Value)} (r : KV kvs vs) : kvs.length = vs.length := Paired.length r
end


theorem kV_is {P : Program} {w : World} {k : Key} {u : Value} (r : RelV (kV k) u) : (mixKind P w).is k u = true := by
  cases k with
  | inl i => obtain ⟨t, e⟩ := (show ∃ t, u = Value.int i t from r); subst e; exact mixKind_int P w i t
  | inr x => obtain ⟨t, e⟩ := (show ∃ t, u = Value.str x t from r); subst e; exact mixKind_str P w x t
theorem items_are {P : Program} {w : World} : ∀ {ks : List Key} {us : List Value}, Vals (ks.map kV) us → ItemsAre (mixKind P w) ks us
  | [], _, r => by rw [List.map_nil] at r; cases r; exact .nil
  | k :: ks, _, r => by
    rw [List.map_cons] at r
    cases r with
    | cons h t => exact .cons (kV_is h) (items_are t)

/-- raw entries of a dict with tuple keys -/
abbrev KT (H : Hp) : List (List Key × V) → List (List Key × Addr × Value) → Prop := Paired fun p q => p.1 = q.1 ∧ H q.2.1 = some (.tup (p.1.map kV)) ∧ RelV p.2 q.2.2
theorem KT.val {H : Hp} {kvs : List (List Key × V)} {xs : List (List Key × Addr × Value)} (r : KT H kvs xs) (k : List Key) : RelO (valV kvs k) ((atKey xs k).map (·.2)) := by
  induction r with
  | nil => exact True.intro
  | @cons p q ps qs h t ih =>
    obtain ⟨h1, _, h2⟩ := h
    by_cases e : p.1 = k
    · have e' : q.1 = k := h1.symm.trans e
      have b : atKey (q :: qs) k = some q.2 := by simp [atKey, List.find?_cons, e']
      rw [valV_pos e, b]; exact h2
    · have e' : ¬ q.1 = k := fun z => e (h1.trans z)
      have b : atKey (q :: qs) k = atKey qs k := by simp [atKey, List.find?_cons, e']
      rw [valV_neg e, b]; exact ih
theorem KT.repl {H : Hp} {kvs : List (List Key × V)} {xs : List (List Key × Addr × Value)} (r : KT H kvs xs) (k : List Key) {y : V} {u : Value} (ry : RelV y u) :
    KT H (kvs.map fun kv => if kv.1 = k then (kv.1, y) else kv) (xs.map (putAt k u)) := by
  induction r with
  | nil => exact .nil
  | @cons p q ps qs h t ih =>
    rw [List.map_cons, List.map_cons]
    refine .cons ?_ ih
    obtain ⟨h1, h2, h3⟩ := h
    unfold putAt
    by_cases e : p.1 = k
    · rw [if_pos e, if_pos (h1.symm.trans e)]; exact ⟨h1, h2, ry⟩
    · rw [if_neg e, if_neg (fun z => e (h1.trans z))]; exact ⟨h1, h2, h3⟩
theorem KT.put {H : Hp} {kvs : List (List Key × V)} {xs : List (List Key × Addr × Value)} (r : KT H kvs xs) (k : List Key) {b : Addr} {y : V} {u : Value} (hb : H b = some (.tup (k.map kV))) (ry : RelV y u) :
    KT H (putK kvs k y) (storedH xs k b u) := by
  have e : (kvs.any fun kv => decide (kv.1 = k)) = (atKey xs k).isSome := by
    rw [valV_any, (r.val k).isSome_eq, Option.isSome_map]
  unfold putK storedH
  rw [e]
  by_cases q : (atKey xs k).isSome = true
  · rw [if_pos q, if_pos q]; exact r.repl k ry
  · rw [if_neg q, if_neg q]; exact Paired.snoc r ⟨rfl, hb, ry⟩
theorem KT.keeps {H H' : Hp} {kvs : List (List Key × V)} {xs : List (List Key × Addr × Value)} (r : KT H kvs xs) (ht : ∀ b ys, H b = some (.tup ys) → H' b = some (.tup ys)) : KT H' kvs xs :=
  Paired.mapP r fun _ _ z => ⟨z.1, ht _ _ z.2.1, z.2.2⟩

section
variable {P : Program} {w : World} {H : Hp} {h : Heap} {a : Addr}
theorem rd_of {u : HO} (ok : HOk P w H h) (e : Rd H a u) : ObjOk P w H h a u := e.ok ok
theorem dk_rd {kvs : List (Key × V)} (ok : HOk P w H h) (e : Rd H a (.dK kvs)) : kvs.length ≤ sizeLine ∧ (a == sysModules) = false ∧ ∃ vs, KV kvs vs ∧ h.DictOf (mixKind P w) a vs :=
  show ObjOk P w H h a (.dK kvs) from rd_of ok e
theorem dk_of {kvs : List (Key × V)} (ok : HOk P w H h) (e : H a = some (.dK kvs)) : kvs.length ≤ sizeLine ∧ (a == sysModules) = false ∧ ∃ vs, KV kvs vs ∧ h.DictOf (mixKind P w) a vs := dk_rd ok (.inl e)
/-- a tracked tuple of ints and texts is a key -/
theorem key_of {ks : List Key} (ok : HOk P w H h) (e : H a = some (.tup (ks.map kV))) : (tupleKind (mixKind P w)).is h ks a := by
  obtain ⟨_, its, r, o, h1, h2, n, h3⟩ := (show ObjOk P w H h a (.tup (ks.map kV)) from ok a _ e)
  exact ⟨o, its.toArray, n, h1, h2, h3, by simpa using items_are r⟩
theorem dt_rd {kvs : List (List Key × V)} (ok : HOk P w H h) (e : Rd H a (.dT kvs)) : kvs.length ≤ sizeLine ∧ (a == sysModules) = false ∧
    ∃ xs, KT H kvs xs ∧ h.DictOfH (tupleKind (mixKind P w)) a xs := by
  obtain ⟨z, y, xs, r, o, es, ep, h1, h2, h3, h4, h5⟩ := (show ObjOk P w H h a (.dT kvs) from rd_of ok e)
  refine ⟨z, y, xs, r, o, es, ep, h1, h2, h3, h4, fun x hx => ?_, h5⟩
  have all : ∀ {l : List (List Key × V)} {m : List (List Key × Addr × Value)}, KT H l m → ∀ x ∈ m, (tupleKind (mixKind P w)).is h x.1 x.2.1 := by
    intro l m q
    induction q with
    | nil => intro x hx; exact nomatch hx
    | @cons p q ps qs hq t ih =>
      intro x hx
      rcases List.mem_cons.mp hx with e | hx
      · subst e
        exact key_of ok (by rw [← hq.1]; exact hq.2.1)
      · exact ih x hx
  exact all r x hx
theorem dt_of {kvs : List (List Key × V)} (ok : HOk P w H h) (e : H a = some (.dT kvs)) : kvs.length ≤ sizeLine ∧ (a == sysModules) = false ∧
    ∃ xs, KT H kvs xs ∧ h.DictOfH (tupleKind (mixKind P w)) a xs := dt_rd ok (.inl e)
end

/-- the heap behind a[y] = v -/
def DPut (H : Hp) (a : Addr) (y v : V) (H' : Hp) : Prop :=
  (∃ kvs k, H a = some (.dK kvs) ∧ y = kV k ∧ kvs.length < sizeLine ∧ H' = upd H a (.dK (putK kvs k v))) ∨
  ∃ kvs k b, H a = some (.dT kvs) ∧ y = .ref b ∧ H b = some (.tup (k.map kV)) ∧ kvs.length < sizeLine ∧ H' = upd H a (.dT (putK kvs k v))
theorem DPut.k {H : Hp} {a : Addr} {kvs : List (Key × V)} {k : Key} {v : V} (e : H a = some (.dK kvs)) (hl : kvs.length < sizeLine) : DPut H a (kV k) v (upd H a (.dK (putK kvs k v))) := .inl ⟨kvs, k, e, rfl, hl, rfl⟩
section
variable {X : Cx} {pins : List (Addr × Obj)} {σ : St} {H : Hp} {s : Shared} {a : Addr} {y v : V} {u r : Value} {o : Option V} {A : Around} {E : Value → Shared → Prop}

theorem Inv.big (I : Inv X pins σ H s) : sysModules < s.heap.objs.size := by
  have h : mainGlobals < s.heap.objs.size := (I.mod.glob.keeps I.bk).lt
  exact Nat.lt_trans (by decide) h

/-- a dict's object is replaced -/
theorem d_write {h' : Heap} {t' : Nat} {ob : HO} (I : Inv X pins σ H s) (mu : Mut (H a)) (hs : Heap.SameBut a s.heap h') (he : ∃ q, h'.get? a = some q) (new : ObjOk X.prog X.w (upd H a ob) h' a ob) :
    Inv X pins σ (upd H a ob) { s with heap := h', toks := t' } :=
  I.write (x := a) (e := a) mu (.inl rfl) (fun b q hb z => (hs.2 b hb).trans z) he new
theorem dk_new {P : Program} {w : World} {H' : Hp} {h' : Heap} {kvs : List (Key × V)} {vs : List (Key × Value)} (z : kvs.length ≤ sizeLine) (hd : (a == sysModules) = false) (rel : KV kvs vs) (dd : h'.DictOf (mixKind P w) a vs) :
    ObjOk P w H' h' a (.dK kvs) := ⟨z, hd, vs, rel, dd⟩
/-- d[y] = v -/
theorem d_setItem {H' : Hp} {Q : Unit → Shared → Prop} (hu : A.units + 1 < cLine) (I : Inv X pins σ H s) (g : DPut H a y v H') (ry : RelV y u) (rv : RelV v r) (h : ∀ s', Inv X pins σ H' s' → Q () s') :
    wpAny (model X.prog X.w) A (setItem (.ref a) u r) Q E s := by
  rcases g with ⟨kvs, k, e, ey, l, eH⟩ | ⟨kvs, k, b, e, ey, eb, l, eH⟩
  · subst ey eH
    obtain ⟨z, hd, vs, rel, dd⟩ := dk_of I.hok e
    have hz : vs.length ≤ sizeLine := by rw [← rel.length]; exact z
    have hl : (putK kvs k v).length ≤ sizeLine := by have := length_putK kvs k v; omega
    refine wpAny_setItem_pairs (hsz := hz) (kV_is ry) dd fun h' dd' hs => h _ ?_
    have he : ∃ q, h'.get? a = some q := let ⟨q, _, _, hq, _⟩ := dd'; ⟨q, hq⟩
    exact d_write I (by rw [e]; exact True.intro) hs he (dk_new hl hd (rel.put k rv) dd')
  · subst ey eH
    cases (show u = Value.ref b from ry)
    obtain ⟨z, hd, xs, rel, dd⟩ := dt_of I.hok e
    have hz : xs.length ≤ sizeLine := by rw [← Paired.length rel]; exact z
    have hl : (putK kvs k v).length ≤ sizeLine := by have := length_putK kvs k v; omega
    refine wpAny_setItem_heap (hsz := hz) (tupleKind_room_in1 hu) (key_of I.hok eb) dd fun h' dd' hs => h _ ?_
    obtain ⟨q, es, ep, hq, h2, h3, h4, _, h5⟩ := dd'
    refine d_write I (by rw [e]; exact True.intro) hs ⟨q, hq⟩ ⟨hl, hd, _, (rel.put k eb rv).keeps fun c ys ec => ?_, q, es, ep, hq, h2, h3, h4, h5⟩
    rw [upd_ne (ne_of ec e (fun z => nomatch z))]
    exact ec
end

section
variable {X : Cx} {pins : List (Addr × Obj)} {σ : St} {H : Hp} {s : Shared} {a : Addr} {kvs : List (Key × V)} {k : Key} {u : Value} {A : Around} {E : Value → Shared → Prop}
/-- len(d) -/
theorem d_len {Q : Value → Shared → Prop} (I : Inv X pins σ H s) (e : Rd H a (.dK kvs)) (h : ∀ t s', Inv X pins σ H s' → Q (.int kvs.length t) s') : wpAny (model X.prog X.w) A (call (.builtin "len") [.ref a]) Q E s := by
  obtain ⟨z, hd, vs, rel, dd⟩ := dk_rd I.hok e
  refine call_len_dict hd dd (by rw [← rel.length]; rw [sizeLine_eq] at z; omega) ?_
  rw [← rel.length]
  exact h _ _ (I.tok _)
end


/-- the element of a subscription, not a slice -/
def NoSl (i : Expr) : Prop := ∀ ov iv, subscripted i false ov iv = operate [ov, iv] (getItem ov iv)
theorem subD_of {prog : Program} {w : World} {A : Around} {E : Value → Shared → Prop} {s : Shared} {env : Env} {value slice : Expr} {pos : Pos} {T id : String} {Q : Value → Shared → Prop}
    (hl : typeLookup (.type T) "__getitem__" = pure (some (.builtin id))) (hs : NoSl slice)
    (h : wpAny (model prog w) A (eval value env) (fun o s₁ => wpAny (model prog w) A (eval slice env) (fun i s₂ => s₂.TypeIs o T ∧ wpAny (model prog w) A (getItem o i) Q E s₂) E s₁) E s) :
    wpAny (model prog w) A (eval (.Subscript value slice pos) env) Q E s := by
  refine Subscript_ (wpAny_mono h (fun o s₁ h₁ => wpAny_mono h₁ (fun i s₂ h₂ => ?_) fun _ _ x => x) fun _ _ x => x)
  obtain ⟨hT, h₂⟩ := h₂
  unfold subscriptTail
  refine wpAny_bind ?_
  rw [getitemInPython_of_ne hT.not_modules]
  refine wpAny_bind (wpAny_specialOf hT hl ?_)
  have fin : wpAny (model prog w) A (subscripted slice false o i) (fun r s₃ => wpAny (model prog w) A (letTemporaryGo value o r >>= fun _ => pure r) Q E s₃) E s₂ := by
    rw [hs o i]
    exact wpAny_operating (wpAny_mono h₂ (fun r s₃ h₃ => wpAny_bind (wpAny_letTemporaryGo (wpAny_pure h₃))) fun _ _ x => x)
  first
    | exact wpAny_pure (wpAny_bind fin)
    | exact wpAny_bind (wpAny_pure (wpAny_bind fin))
    | exact wpAny_bind fin

/-- d[y] = v -/
def sDPut (td ty tv : TE) : TS := fun D σ H => tv σ H fun v H1 => td σ H1 fun x H2 => ty σ H2 fun y H3 => ∃ a H4, x = .ref a ∧ DPut H3 a y v H4 ∧ D.nx σ H4
section
variable {X : Cx} {o i e value : Expr} {pos pos' tpos : Pos} {td ty tv : TE}
theorem ps_dput (hu : X.A.units + 1 < cLine) (ho : PE X o td) (hi : PE X i ty) (hv : PE X value tv) (hs : swapsWith value (some (.Subscript o i pos')) pos.line X.env = pure false) :
    PS X (.Assign [.Subscript o i pos'] value pos) (sDPut td ty tv) := by
  intro pins s σ H D I h
  refine wpAny_Assign_Subscript (thn (hv pins s σ H _ I h) fun r s1 ⟨v, H1, I1, rv, q1⟩ => thn (ho pins s1 σ H1 _ I1 q1) fun u s2 ⟨x, H2, I2, rx, q2⟩ => thn (hi pins s2 σ H2 _ I2 q2) fun iv s3 ⟨y, H3, I3, ry, a, H4, ex, g, q3⟩ => ?_) hs
  subst ex
  obtain rfl : u = Value.ref a := rx
  exact d_setItem hu I3 g ry rv fun s4 I4 => ⟨σ, H4, I4, q3⟩
end


theorem dk_empty {P : Program} {w : World} {H : Hp} (h : Heap) (hb : sysModules < h.objs.size) : ObjOk P w H (h.push { cls := .type "dict", data := .dict #[] }) h.objs.size (.dK []) :=
  ⟨Nat.zero_le _, beq_eq_false_iff_ne.mpr (Ne.symm (Nat.ne_of_lt hb)), [], .nil, Heap.DictOf.new h⟩
/-- {}, to be a dict of the kind that is wanted -/
def tDNewK : TE := fun _ H Q => ∀ p, H p = none → Q (.ref p) (upd H p (.dK []))
section
variable {X : Cx} {pos : Pos}
theorem pe_dnewK : PE X (.Dict [] [] pos) tDNewK := fun pins s σ H Q I h =>
  wpAny_Dict_empty ⟨.ref s.heap.objs.size, _, I.laid (a := s.heap.objs.size) (o := .dK []) (t' := s.toks) (fun _ _ q => Heap.get?_push_of_some _ q) (Nat.le_refl _) (dk_empty s.heap I.big), rfl, h _ (I.hok.fresh (Nat.le_refl _))⟩
end

section
variable {X : Cx} {pins : List (Addr × Obj)} {σ : St} {H : Hp} {s : Shared} {a : Addr} {y d : V} {u r : Value} {o : Option V} {A : Around} {E : Value → Shared → Prop}
end

section
variable {X : Cx} {o e f : Expr} {apos cpos : Pos} {td ty tx : TE}
end

section
variable {X : Cx} {pins : List (Addr × Obj)} {σ : St} {H : Hp} {s : Shared} {a : Addr} {kvs : List (Key × V)} {A : Around} {E : Value → Shared → Prop}
end


section
variable {X : Cx} {pins : List (Addr × Obj)} {σ : St} {H : Hp} {s : Shared} {a : Addr} {y : V} {u : Value} {A : Around} {E : Value → Shared → Prop}
end
end L2

namespace Att
open PySem PySem.W PySem.Calls PyProof.Rows

theorem ints_of_wellAll {P : Params} {h : Heap} : ∀ (ns : List Int) (vs : List Value), WellAll P h vs (ns.map WData.int) → IntsAre vs ns := by
  intro ns
  induction ns with
  | nil =>
    intro vs w
    rw [List.map_nil] at w
    cases w
    exact .nil
  | cons n ns ih =>
    intro vs w
    rw [List.map_cons] at w
    cases w with
    | cons a b =>
      cases a
      exact .cons _ _ (ih _ b)

theorem script_of {l : OpenLaw} {n : Nat} (hn : l.most = some n) {P : Params} {h : Heap} {args : List WData} {vals : List Value}
    (hpre : l.row.toRowW.claim.pre args = true) (hwl : WellAll P h vals args) :
    ∃ a vs ns, vals = [Value.ref a] ∧ args = [WData.list (ns.map WData.int)] ∧ h.get? a = some { cls := .type "list", data := .seq vs.toArray } ∧ IntsAre vs ns ∧ ns.length ≤ n := by
  have hsh : WShape.hasAll [] args [.list .int] = true := (pre_splitW hpre).1
  have hc : l.pre.holds [] { args := args } = true := (pre_splitW hpre).2
  obtain ⟨d, r, rfl, h1, h2⟩ := hasAllW_cons hsh
  obtain rfl := hasAllW_nil h2
  obtain ⟨xs, rfl, h3⟩ := hasW_list h1
  obtain ⟨ns, rfl⟩ := items_int h3
  have hlen : ns.length ≤ n := by
    unfold OpenLaw.pre at hc
    have h4 : (WTm.not (.lt (.lit (.int (n : Int))) (.len (.arg 0)))).holds [] { args := [.list (ns.map .int)] } = true := by
      have h4 := (holds_andW hc).1
      rw [hn] at h4
      exact h4
    have h5 := condW_of h4 (w_not (w_lt w_lit (w_len_list (w_arg rfl))))
    rw [List.length_map] at h5
    refine Nat.le_of_not_lt fun q => ?_
    have q' : (n : Int) < ((ns.length : Nat) : Int) := by omega
    first
      | (rw [decide_eq_true q'] at h5; exact absurd h5 (by decide))
      | (simp at h5; omega)
  cases hwl with
  | cons w1 w2 =>
    cases w2
    cases w1 with
    | list ho hall => exact ⟨_, _, ns, rfl, rfl, ho, ints_of_wellAll ns _ hall, hlen⟩

theorem post_true (l : OpenLaw) (args : List WData) : l.row.toRowW.claim.post args (.bool true) args = true :=
  postW_of (r := l.row.toRowW) (X := (true == true))
    (show WShape.has [] (.bool true) .bool = true by first | rfl | decide | simp [WShape.has, WShape.arms, WShape.armsAll])
    (show (WTm.eq .res (.lit (.bool true))).value [] { args := args, res := some (.bool true), after := args } = some (.bool (true == true)) from w_eq_bool (w_res rfl) w_lit) rfl

/-- the same from a codeAny of the CALL (for a layer whose function contracts speak of calls) -/
theorem attach_call {l : OpenLaw} {n : Nat} {q : Program} {loose : List Str} {XP : (Str → Option Value) → Heap → Prop} {YP : World → Heap → Prop} {d : DefRec}
    (hn : l.most = some n) (hdf : d.params.defaults = [])
    (call : ∀ (w : World) (s₀ s₁ : Shared) (mg mb : Str → Option Value) (fa : Addr) (o : Obj) (pm cd doc : Value) (a : Addr) (vs : List Value) (ns : List Int),
      Ground q loose [] XP w s₀ mg mb s₁.heap → YP w s₁.heap →
      s₁.heap.get? fa = some o → o.data = .func (docDef d.name d.params d.body d.scope pm cd doc) → s₁.heap.CodeRec cd d.name → mg d.name = some (.ref fa) →
      s₁.heap.get? a = some { cls := .type "list", data := .seq vs.toArray } → IntsAre vs ns → ns.length ≤ n → s₁.gens = #[] →
      codeAny (model l.prog w) callerA (.call (.ref fa) ⟨[.ref a], []⟩) (fun r s' => r = .ok (.ret (.bool true)) ∧ OldK s₁.heap s'.heap ∧ s'.os = s₁.os ∧ AllBare s'.gens) s₁) :
    WalkO q loose XP YP l.row.toRowW d [] (fun f vs => PySem.call f vs) := by
  intro w s₀ s₁ mg mb G Y fa o pm cd doc dV kV ho hd hcd hD hmg hg args vals as hpre hlay hrd hwl hlo
  obtain rfl : dV = .none := Dflts.none hD hdf
  obtain rfl : kV = .none := Dflts.noKw hD
  obtain ⟨a, vs, ns, rfl, rfl, hobj, hints, hlen⟩ := script_of hn hpre hwl
  refine enter_call (codeAny_mono (call w s₀ s₁ mg mb fa o pm cd doc a vs ns G Y ho (fd_plain hd) hcd hmg hobj hints hlen hg) fun r s' hq => ?_)
  obtain ⟨rfl, h2, h3, h4⟩ := hq
  exact ⟨.inl ⟨.bool true, .bool true, [], rfl, fun _ => rfl, .bool true, post_true l _, fun _ => ⟨List.Pairwise.nil, fun _ hm => (nomatch hm)⟩⟩, h2, h3, h4⟩

section
variable {prog : Program} {w : World} {A : Around} {E : Value → Shared → Prop} {s : Shared} {K : Frag}

end
end Att

namespace L2
open PySem PySem.Spec PyProof.Rows

theorem vals_ints : ∀ {vs : List Value} {ns : List Int}, IntsAre vs ns → Vals (ns.map V.int) vs
  | _, _, .nil => .nil
  | _, _, .cons n t h => .cons ⟨t, rfl⟩ (vals_ints h)

/-- nothing is tracked but the script, known to the object (or it is an object of the module) -/
def Only (H : Hp) : Prop := ∀ b, H b = none ∨ ∃ o xs, H b = some (.frz o (.lst xs))

/-- THE HEAD: the law's promise, at the heap behind the top. F, the promise of the law's def, may use that base is part of the heap (so K.In base, base.Ns mainGlobals mg stand in Mod) -/
theorem law_call {P : Program} {w : World} {K : PySem.W.Frag} {mg mb : Str → Option Value} {CX : CXT} {k : Nat} {fa a : Addr} {fd : FuncData} {x : Str} {sp : Sp} {s₁ : Shared} {vs : List Value} {ns : List Int}
    (KX : K.In s₁.heap) (hns : s₁.heap.Ns mainGlobals mg) (hb : s₁.heap.Ns builtinsNs mb) (hbb : ∀ x : Str, x ≠ "__name__" → mb x = bootBuiltins x) (hlim : s₁.heap.NoLimit) (hg : s₁.gens = #[])
    (ha : s₁.heap.get? a = some { cls := .type "list", data := .seq vs.toArray }) (hi : IntsAre vs ns) (hl : ns.length ≤ sizeLine) (hr : Room k callerA)
    (F : ∀ base : Heap, K.In base → base.Ns mainGlobals mg → FnOk P w K mg base CX k fa fd [x] sp) (hbind : ∀ (s : Shared) (u : Value), BindsTo s fd ⟨[u], []⟩ [(x, u)])
    (hsp : ∀ H : Hp, Only H → SqL K H a (ns.map V.int) → sp [.ref a] H (fun v _ => v = .bl true) fun _ _ _ => False)
    (hCX : ∀ H e s', CX [] H s₁ (fun _ _ _ => False) e s' → False) :
    codeAny (model P w) callerA (.call (.ref fa) ⟨[.ref a], []⟩) (fun r s' => r = .ok (.ret (.bool true)) ∧ OldK s₁.heap s'.heap ∧ s'.os = s₁.os ∧ AllBare s'.gens) s₁ := by
  have rv := vals_ints hi
  have lenV := hi.length
  -- from an abstract heap in which nothing but the script may be tracked
  have core : ∀ H : Hp, Only H → SqL K H a (ns.map V.int) → HOk P w H s₁.heap → (∀ b, H b ≠ none → b = a) → (H a ≠ none → K.lookup a = none) →
      codeAny (model P w) callerA (.call (.ref fa) ⟨[.ref a], []⟩) (fun r s' => r = .ok (.ret (.bool true)) ∧ OldK s₁.heap s'.heap ∧ s'.os = s₁.os ∧ AllBare s'.gens) s₁ := by
    intro H hO hS hok hA hK
    have base_of : ∀ {b : Addr} {o : Obj}, s₁.heap.get? b = some o → H b = none → (hidT s₁.heap H).get? b = some o := fun e n => hidT_get e n
    have noA : ∀ {b : Addr} {o : Obj} {es : Array DictEntry} {ep : Nat}, s₁.heap.get? b = some o → o.data = .dict es ep → H b = none := fun {b o es ep} e d => by
      cases q : H b with
      | none => rfl
      | some u =>
        have e' : b = a := hA b (by rw [q]; simp)
        subst e'
        rw [ha] at e; cases e
        have d' : Data.seq vs.toArray _ = Data.dict es ep := d
        cases d'
    have nsK : ∀ {b : Addr} {m : Str → Option Value}, s₁.heap.Ns b m → (hidT s₁.heap H).Ns b m := fun {b m} ⟨o, es, ep, e, d, r⟩ => ⟨o, es, ep, base_of e (noA e d), d, r⟩
    have hKb : K.In (hidT s₁.heap H) := fun b o e => base_of (KX b o e) (by
      cases q : H b with
      | none => rfl
      | some u =>
        have e' : b = a := hA b (by rw [q]; simp)
        subst e'
        rw [hK (by rw [q]; simp)] at e; cases e)
    have hM : Mod K mg (hidT s₁.heap H) := ⟨hKb, nsK hns, ⟨mb, nsK hb, hbb⟩, let ⟨mc, h1, h2⟩ := hlim; ⟨mc, nsK h1, h2⟩⟩
    have e0 : Env0 P w K mg (hidT s₁.heap H) callerA [] s₁ H := ⟨rfl, hM, fun b o e => of_hidT e, Nat.le_of_eq (hidT_size _ _), trivial, fun b hb => absurd (show b ∈ ([] : List Addr) from hb) (by simp), hok, .of_eq hg⟩
    refine codeAny_mono ((F _ hKb (nsK hns)).run callerA [] s₁ H ⟨[.ref a], []⟩ [.ref a] [.ref a] _ _ hr e0 (hbind s₁ (.ref a)) (.cons rfl .nil) (hsp H hO hS)) fun r s' h => ?_
    cases r with
    | error e => exact (hCX H e s' h).elim
    | ok fl =>
      cases fl with
      | next => exact False.elim h
      | brk => exact False.elim h
      | cont => exact False.elim h
      | ret u =>
        obtain ⟨v, H', os, bare, un, hok', r', q⟩ := h
        have q' : v = .bl true := q
        subst q'
        obtain rfl : u = Value.bool true := r'
        refine ⟨rfl, OldK.of_keep fun b o e => ?_, os, bare⟩
        cases q : H b with
        | none => exact un.keep b o e q (by intro z; exact absurd (show b ∈ ([] : List Addr) from z) (by simp)) (by simp)
        | some u =>
          rcases hO b with z | ⟨ob, xs, z⟩
          · rw [q] at z; cases z
          · have z2 := un.frzs b ob _ z
            obtain ⟨e1, _⟩ := hok b _ z
            obtain ⟨e2, _⟩ := hok' b _ z2
            rw [e] at e1; cases e1
            exact e2
  cases hk : K.lookup a with
  | some o =>
    -- the script is one of the module's own objects
    have e := KX a o hk
    rw [ha] at e
    cases e
    refine core (fun _ => none) (fun _ => .inl rfl) (.inr ⟨_, vs.toArray, _, hk, rfl, rfl, rfl, by rw [List.size_toArray, lenV]; exact hl, by simpa using rv⟩) (fun b u z => by have z' : (none : Option HO) = some u := z; cases z') (fun b z => absurd rfl z) fun z => absurd rfl z
  | none =>
    refine core (fun b => if b = a then some (.frz { cls := .type "list", data := .seq vs.toArray } (.lst (ns.map V.int))) else none) (fun b => ?_) (.inl (.inr ⟨{ cls := .type "list", data := .seq vs.toArray }, if_pos rfl⟩)) (fun b u z => ?_) (fun b z => ?_) fun _ => hk
    · by_cases hb : b = a
      · exact .inr ⟨_, _, if_pos hb⟩
      · exact .inl (if_neg hb)
    · by_cases hb : b = a
      · have z' := (if_pos hb).symm.trans z
        cases z'
        subst hb
        exact ⟨ha, by rw [List.length_map]; exact hl, vs, _, rv, ha⟩
      · have z' := (if_neg hb).symm.trans z
        cases z'
    · by_cases hb : b = a
      · exact hb
      · exact absurd (if_neg hb) z
end L2

namespace L2
open PySem PySem.Spec PyProof.Rows

abbrev KOf {K : PySem.W.Frag} {h : Heap} (_ : K.In h) : PySem.W.Frag := K

/-- the goal that k_head leaves (case hc), from the law's promise. F gives the function object fd (K's own) once, then the promise over every base -/
theorem walk_of {l : PySem.W.OpenLaw} {n k : Nat} {q : Program} {loose : List Str} {XP : (Str → Option Value) → Heap → Prop} {YP : World → Heap → Prop} {d : DefRec} {K : Params → PySem.W.Frag} {CX : World → CXT} {sp : World → Sp} {x : Str}
    (hn : l.most = some n) (hn2 : n ≤ sizeLine) (hdf : d.params.defaults = []) (hr : Room k callerA)
    (hY : ∀ (w : World) (h : Heap), YP w h → (K w.params).In h)
    (F : ∀ (w : World) (mg : Str → Option Value) (fa : Addr) (h : Heap), (K w.params).In h → h.Ns mainGlobals mg → mg d.name = some (.ref fa) →
      ∃ fd : FuncData, (∀ (s : Shared) (u : Value), BindsTo s fd ⟨[u], []⟩ [(x, u)]) ∧
        ∀ base : Heap, (K w.params).In base → base.Ns mainGlobals mg → FnOk l.prog w (K w.params) mg base (CX w) k fa fd [x] (sp w))
    (hsp : ∀ (w : World) (H : Hp) (a : Addr) (ns : List Int), ns.length ≤ n → Only H → SqL (K w.params) H a (ns.map V.int) → sp w [.ref a] H (fun v _ => v = .bl true) fun _ _ _ => False)
    (hCX : ∀ (w : World) (H : Hp) (s : Shared) (e : Value) (s' : Shared), CX w [] H s (fun _ _ _ => False) e s' → False) :
    PySem.W.WalkO q loose XP YP l.row.toRowW d [] (fun f vs => PySem.call f vs) := by
  refine Att.attach_call hn hdf fun w s₀ s₁ mg mb fa o pm cd doc a vs ns G Y ho hd hcd hmg hobj hints hlen hg => ?_
  have KX := hY w _ Y
  obtain ⟨fd, hb, hF⟩ := F w mg fa _ KX G.T.g hmg
  exact law_call KX G.T.g G.T.b G.T.builtins G.T.nolimit hg hobj hints (Nat.le_trans hlen hn2) hr hF hb (fun H hO hS => hsp w H a ns hlen hO hS) fun H e s' => hCX w H s₁ e s'
end L2


namespace L2
open PySem PySem.Spec PyProof.Rows

def defArgs (s : Stmt) : Arguments := match s with
  | .FunctionDef _ a _ _ _ _ _ _ _ _ => a
  | _ => { posonlyargs := [], args := [], vararg := none, kwonlyargs := [], kw_defaults := [], kwarg := none, defaults := [] }
def defBody (s : Stmt) : List Stmt := match s with
  | .FunctionDef _ _ b _ _ _ _ _ _ _ => b
  | _ => []
def defScope (s : Stmt) : Scope := match s with
  | .FunctionDef _ _ _ _ _ _ sc _ _ _ => sc
  | _ => { kind := .function, names := [], isGenerator := false, isCoroutine := false }

abbrev CX0 : CXT := fun _ _ _ _ _ _ => False
abbrev E0 : XK := fun _ _ _ => False
theorem pass0 {X : Cx} : Passes CX0 X E0 := fun _ _ _ _ _ _ _ h => h.elim

structure Fun (K : PySem.W.Frag) (x qual : Str) (st : Stmt) (f : Addr) (fd : FuncData) : Prop where
  ex : ∃ (oc : Value) (od : Option Addr) (kV doc pm : Value) (an : Option Addr) (cdv ct : Value) (osl : Array (Option Value)),
    fd = PySem.W.fnOf x qual (defArgs st) (defBody st) (defScope st) .none kV doc pm an cdv ct ∧ K.lookup f = some ⟨oc, od, .func fd, osl⟩ ∧ PySem.W.codeIn K cdv qual = true
  kp : PySem.W.keepIn K (.ref f) = true
section
variable {P : Program} {w : World} {K : PySem.W.Frag} {mg : Str → Option Value} {base : Heap}
/-- THE RULE for a def: its body as a term of rules, and the reading of that term -/
theorem Fun.ok {x qual : Str} {st : Stmt} {f : Addr} {fd : FuncData} {N ps : List Str} {k : Nat} {sp : Sp} (F : Fun K x qual st f fd) (S : FnScope N ps (defScope st)) (len : ∀ vs H Q E, sp vs H Q E → vs.length = ps.length)
    (hbody : ∀ (cdv : Value) (A : Around) (outer : List Env) (s : Shared) (H : Hp) (vs : List V) (Q : VK) (E : XK), Room k (A.deeper (envOfC qual (defScope st) s.heap.objs.size f cdv)) → sp vs H Q E →
      ∃ t, PSs (cxOf CX0 P w K mg base N qual (defScope st) f cdv A outer s H E).nox (defBody st) t ∧ t { nx := fun _ H' => Q .non H', rt := Q } (start N vs) H) : FnOk P w K mg base CX0 (k + 1) f fd ps sp := by
  obtain ⟨oc, od, kV, doc, pm, an, cdv, ct, osl, rfl, lk, hcd⟩ := F.ex
  refine fn_of lk hcd S len fun A outer s H vs Q E hr hsp => ?_
  obtain ⟨t, h, q⟩ := hbody cdv A outer s H vs Q E hr hsp
  exact ⟨t, h.nox, q⟩
/-- how its arguments bind (no defaults): h is «fun _ _ _ _ _ _ us hl => match us, hl with | [_, _], _ => rfl», one _ a parameter -/
theorem Fun.binds {x qual : Str} {st : Stmt} {f : Addr} {fd : FuncData} {ps : List Str} (F : Fun K x qual st f fd)
    (h : ∀ (kV doc pm : Value) (an : Option Addr) (cdv ct : Value) (us : List Value), us.length = ps.length → bindArgs (PySem.W.fnOf x qual (defArgs st) (defBody st) (defScope st) .none kV doc pm an cdv ct) ⟨us, []⟩ = pure (ps.zip us)) : Binds K fd ps [] := by
  obtain ⟨oc, od, kV, doc, pm, an, cdv, ct, osl, rfl, lk, hcd⟩ := F.ex
  exact .all (h kV doc pm an cdv ct)
theorem fun_mk {x qual : Str} {st : Stmt} {f : Addr} {oc : Value} {od an : Option Addr} {osl : Array (Option Value)} {kV doc pm cdv ct : Value} (l : K.lookup f = some ⟨oc, od, .func (PySem.W.fnOf x qual (defArgs st) (defBody st) (defScope st) .none kV doc pm an cdv ct), osl⟩)
    (c : PySem.W.codeIn K cdv qual = true) (k : PySem.W.keepIn K (.ref f) = true) : Fun K x qual st f (PySem.W.fnOf x qual (defArgs st) (defBody st) (defScope st) .none kV doc pm an cdv ct) := ⟨⟨oc, od, kV, doc, pm, an, cdv, ct, osl, rfl, l, c⟩, k⟩
end
theorem hu_of {A : Around} {k : Nat} (hr : Room k A) : A.units + 1 < cLine := Nat.lt_of_le_of_lt (Nat.add_le_add_left (by decide : 1 ≤ 64) _) hr.units
theorem small1000 {n : Nat} (h : n ≤ 1000) : n < sizeLine := Nat.lt_of_le_of_lt h (by decide)

section
variable {X : Cx}
theorem pv (i : Nat) {x : Str} {pos : Pos} (hN : X.N[i]? = some x := by rfl) (hv : Vis X.env.scope x := by first | exact Or.inl rfl | exact Or.inr (Or.inl rfl) | exact Or.inr (Or.inr rfl)) (hd : (x == ("__debug__" : Str)) = false := by decide)
    (hcd : (x == ("__classdict__" : Str)) = false := by decide) : PE X (.Name x pos) (tVar i) := pe_var hN hv hd hcd
end

theorem iteF {A B : Prop} (h : B) : if false = true then A else B := by
  rw [if_neg Bool.false_ne_true]
  exact h
theorem iteT {A B : Prop} (h : A) : if true = true then A else B := by
  rw [if_pos rfl]
  exact h
theorem ite2 {c A B : Prop} [Decidable c] (h1 : c → A) (h2 : ¬ c → B) : if c then A else B := by
  by_cases h : c
  · rw [if_pos h]
    exact h1 h
  · rw [if_neg h]
    exact h2 h
theorem iteNS {c A B : Prop} [Decidable c] (hc : c) (h : B) : if (!decide c) = true then A else B := by
  rw [decide_eq_true hc]
  exact iteF h

/-- all that was tracked is as it was -/
def Same (H H' : Hp) : Prop := ∀ b o, H b = some o → H' b = some o
theorem Same.refl (H : Hp) : Same H H := fun _ _ h => h
theorem Same.trans {H H1 H2 : Hp} (a : Same H H1) (b : Same H1 H2) : Same H H2 := fun c o h => b c o (a c o h)
theorem Same.free {H H' : Hp} (e : Same H H') {l : Addr} (h : H' l = Option.none) : H l = Option.none := by
  cases q : H l with
  | none => rfl
  | some o =>
    rw [e l o q] at h
    cases h
theorem Same.seq {K : PySem.W.Frag} {H H' : Hp} {a : Addr} {xs : List V} (e : Same H H') (h : SqL K H a xs) : SqL K H' a xs := by
  rcases h with (h | ⟨o, h⟩) | h
  · exact .inl (.inl (e _ _ h))
  · exact .inl (.inr ⟨o, e _ _ h⟩)
  · exact .inr h

end L2

namespace L2
open PySem PySem.Spec PyProof.Rows
section
variable {X : Cx}
/-- len of a dict -/
theorem call_lenD : CallR X (.builtin "len") (fun xs H Q => ∃ a kvs, xs = [V.ref a] ∧ H a = some (.dK kvs) ∧ Q (.int kvs.length) H) := by
  intro pins s σ H xs us Q I r h
  obtain ⟨a, kvs, rfl, ha, q⟩ := h
  obtain ⟨u, rfl, ru⟩ := vals1 r
  cases ru
  exact d_len I (.inl ha) fun t s' I' => ⟨.int kvs.length, H, I', ⟨t, rfl⟩, q⟩
end
section
variable {κ : Type} [DecidableEq κ]
theorem valV_in {kvs : List (κ × V)} {k : κ} {v : V} (h : valV kvs k = some v) : k ∈ kvs.map (·.1) := by
  have q : (kvs.any fun kv => decide (kv.1 = k)) = true := by
    rw [valV_any, h]
    all_goals rfl
  obtain ⟨p, hp, e⟩ := List.any_eq_true.mp q
  exact List.mem_map.mpr ⟨p, hp, of_decide_eq_true e⟩
end
end L2
namespace L2
open PySem PySem.Spec PyProof.Rows

theorem comp_turn {prog : Program} {w : World} {A : Around} {R : Result → Shared → Prop} {s : Shared} {elt target iter : Expr} {scope : Scope} {pos : Pos} {it acc : Value} {env : Env} (I : Nat → Shared → Prop)
    (turn : ∀ n s, I n s → wpAny (model prog w) A (pyNext it) (fun r s₁ => match r with
      | none => R (.ok .next) s₁
      | some v => wpAny (model prog w) A (letOwnedTupleGo target it v) (fun _ s₀ => wpAny (model prog w) A (assign target env v) (fun _ s₂ =>
          wpAny (model prog w) A (eval elt env) (fun x s₄ =>
              wpAny (model prog w) A (call (.builtin "list.append") [acc, x]) (fun _ s₅ => ∃ m, m < n ∧ I m s₅) (notedBy (model prog w) A env fun e s' => R (.error e) s') s₄) (notedBy (model prog w) A env fun e s' => R (.error e) s') s₂)
          (notedBy (model prog w) A env fun e s' => R (.error e) s') s₀) (notedBy (model prog w) A env fun e s' => R (.error e) s') s₁) (notedBy (model prog w) A env fun e s' => R (.error e) s') s)
    (n : Nat) (h : I n s) :
    codeAny (model prog w) A (.compLoop (.ListComp elt [⟨target, iter, [], 0⟩] scope pos) 0 it acc env) R s := by
  refine codeAny_loop rfl I (fun n s hI => ?_) n h
  show wpAny _ A ((compTurn (.ListComp elt [⟨target, iter, [], 0⟩] scope pos) 0 it acc env).onRaise (fun x => do noteFrame x env; theTreesLotGoes x)) _ _ s
  refine wpAny_noted ?_
  rw [compTurn_list]
  refine wpAny_bind (wpAny_standAt (wpAny_bind (wpAny_mono (turn n s hI) (fun r s₁ h₁ => ?_) fun _ _ h' => h')))
  cases r with
  | none => exact wpAny_pure h₁
  | some v =>
    refine wpAny_bind (wpAny_mono h₁ (fun _ s₀ h₀ => ?_) fun _ _ h' => h')
    refine wpAny_bind (wpAny_mono h₀ (fun _ s₂ h₂ => wpAny_bind (wpAny_tests_nil ?_)) fun _ _ h' => h')
    exact wpAny_bind (wpAny_bind (wpAny_mono h₂ (fun x s₄ h₄ => wpAny_bind (wpAny_mono h₄ (fun _ s₅ h₅ => wpAny_pure (wpAny_pure ⟨rfl, h₅⟩)) fun _ _ h' => h')) fun _ _ h' => h'))

theorem closureFor_is {env : Env} : ∀ (names : List (Str × NameKind)) (cs : List (Str × Addr)), (∀ y ∈ names, y.2 = .free → ∃ c, env.cells.lookup y.1 = some c) → (∀ x c, cs.lookup x = some c → env.cells.lookup x = some c) →
    ∃ cl, (forIn names cs (fun (x : Str × NameKind) (r : List (Str × Addr)) => if (x.2 == NameKind.free) = true then do let c ← cellOf env x.1; pure (ForInStep.yield ((x.1, c) :: r)) else pure (ForInStep.yield r)) : Sem (List (Str × Addr))) = pure cl ∧
      (∀ x c, cl.lookup x = some c → env.cells.lookup x = some c) ∧ (∀ x c, cs.lookup x = some c → cl.lookup x = some c) ∧ ∀ y ∈ names, y.2 = .free → ∃ c, cl.lookup y.1 = some c
  | [], cs, _, hcs => ⟨cs, by simp, hcs, fun _ _ h => h, fun y hy => nomatch hy⟩
  | (n, k) :: r, cs, h, hcs => by
    by_cases hk : k = .free
    · subst hk
      obtain ⟨c, hc⟩ := h (n, .free) List.mem_cons_self rfl
      have hcs' : ∀ x d, ((n, c) :: cs).lookup x = some d → env.cells.lookup x = some d := fun x d e => by
        rw [List.lookup_cons] at e
        split at e
        · rename_i q
          have q' : x = n := by simpa using q
          cases e; rw [q']; exact hc
        · exact hcs x d e
      obtain ⟨cl, e, h1, h2, h3⟩ := closureFor_is r ((n, c) :: cs) (fun y hy => h y (List.mem_cons_of_mem _ hy)) hcs'
      refine ⟨cl, ?_, h1, fun x d hd => ?_, fun y hy hy2 => ?_⟩
      · rw [List.forIn_cons]
        simp only [cellOf, hc, beq_self_eq_true, if_true, pure_bind]
        exact e
      · refine h2 x d ?_
        rw [List.lookup_cons]
        split
        · rename_i q
          have q' : x = n := by simpa using q
          have := hcs x d hd
          rw [q', hc] at this
          exact this
        · exact hd
      · rcases List.mem_cons.mp hy with rfl | hy
        · exact ⟨c, h2 n c (by simp [List.lookup_cons])⟩
        · exact h3 y hy hy2
    · obtain ⟨cl, e, h1, h2, h3⟩ := closureFor_is r cs (fun y hy => h y (List.mem_cons_of_mem _ hy)) hcs
      refine ⟨cl, ?_, h1, h2, fun y hy hy2 => ?_⟩
      · have hk' : (k == NameKind.free) = false := by simpa using hk
        rw [List.forIn_cons]
        simp only [hk', Bool.false_eq_true, if_false, pure_bind]
        exact e
      · rcases List.mem_cons.mp hy with rfl | hy
        · exact absurd hy2 hk
        · exact h3 y hy hy2
theorem closureFor_eq (scope : Scope) (env : Env) : closureFor scope env = (forIn scope.names [] (fun (x : Str × NameKind) (r : List (Str × Addr)) => if (x.2 == NameKind.free) = true then do let c ← cellOf env x.1; pure (ForInStep.yield ((x.1, c) :: r)) else pure (ForInStep.yield r)) : Sem (List (Str × Addr))) := by
  unfold closureFor
  simp
theorem lookup_relabel_free {env : Env} (hk : env.scope.kind = .function) : ∀ {names : List (Str × NameKind)} {x : Str}, names.lookup x = some .free → env.kindOf x = some .cell →
    (names.map fun (n, k) => if (k == NameKind.free && env.scope.kind == .function && env.kindOf n == some .cell) then (n, NameKind.cell) else (n, k)).lookup x = some .cell
  | [], _, h, _ => by simp at h
  | (n, k) :: r, x, h, hc => by
    have ih := @lookup_relabel_free env hk r x
    show List.lookup x ((if (k == NameKind.free && env.scope.kind == .function && env.kindOf n == some .cell) = true then (n, NameKind.cell) else (n, k)) :: _) = _
    cases hx : x == n with
    | true =>
      simp only [List.lookup_cons, hx] at h
      cases h
      have e : x = n := by simpa using hx
      subst e
      simp [List.lookup_cons, hk, hc]
    | false =>
      simp only [List.lookup_cons, hx] at h
      by_cases hc' : (k == NameKind.free && env.scope.kind == .function && env.kindOf n == some .cell) = true
      · rw [if_pos hc']; simp only [List.lookup_cons, hx]; exact ih h hc
      · rw [if_neg hc']; simp only [List.lookup_cons, hx]; exact ih h hc
/-- a name that is a cell or free in the block was free -/
theorem relabel_was {env : Env} : ∀ {names : List (Str × NameKind)} {x : Str}, (∀ y ∈ names, y.2 ≠ .cell) →
    ((names.map fun (n, k) => if (k == NameKind.free && env.scope.kind == .function && env.kindOf n == some .cell) then (n, NameKind.cell) else (n, k)).lookup x = some .cell ∨
     (names.map fun (n, k) => if (k == NameKind.free && env.scope.kind == .function && env.kindOf n == some .cell) then (n, NameKind.cell) else (n, k)).lookup x = some .free) → (x, NameKind.free) ∈ names
  | [], _, _, h => by simp at h
  | (n, k) :: r, x, hn, h => by
    have ih := @relabel_was env r x fun y hy => hn y (List.mem_cons_of_mem _ hy)
    have hk : k ≠ .cell := hn (n, k) List.mem_cons_self
    cases hx : x == n with
    | true =>
      have e : x = n := by simpa using hx
      subst e
      by_cases hf : k = .free
      · subst hf; exact List.mem_cons_self
      · have hf' : ¬ (k == NameKind.free && env.scope.kind == .function && env.kindOf x == some .cell) = true := by simp [hf]
        simp only [List.map_cons, if_neg hf', List.lookup_cons, beq_self_eq_true] at h
        rcases h with h | h
        · exact absurd (Option.some.inj h) hk
        · exact absurd (Option.some.inj h) hf
    | false =>
      refine List.mem_cons_of_mem _ (ih ?_)
      by_cases hc' : (k == NameKind.free && env.scope.kind == .function && env.kindOf n == some .cell) = true
      · simpa only [List.map_cons, if_pos hc', List.lookup_cons, hx] using h
      · simpa only [List.map_cons, if_neg hc', List.lookup_cons, hx] using h

def blk (X : Cx) (sc : Scope) (cl : List (Str × Addr)) (C : Addr) (N' : List Str) (s₂ : Shared) (H₁ : Hp) (fp : List Addr) (pins : List (Addr × Obj)) : Cx where
  prog := X.prog
  w := X.w
  K := X.K
  mg := X.mg
  base := X.base
  A := X.A
  N := N'
  s₀ := s₂
  H₀ := H₁
  env := compEnvC sc cl C X.env
  outer := X.stack
  stack := X.stack
  ex := fp
  fn := fun _ => false
  calm := X.calm
  pn := X.pn ++ pins
  xe := fun _ _ => False

/-- N, names: the slots and names around; N': the block's slots, k of its own, then those at pull of N (caught) -/
structure BScope (N : List Str) (names : List (Str × NameKind)) (N' : List Str) (k : Nat) (pull : List Nat) (sc : Scope) : Prop where
  kind : sc.kind = .function
  nocell : ∀ y ∈ sc.names, y.2 ≠ .cell
  loc : ∀ y ∈ sc.names, y.2 = .local → sc.names.lookup y.1 = some .local
  len : N'.length = k + pull.length
  cap : ∀ i ∈ List.range pull.length, N'[k + i]? = N[pull.getD i 0]? ∧ ∀ x ∈ (N'[k + i]?).toList, sc.names.lookup x = some .free
  fre : ∀ y ∈ sc.names, y.2 = .free → names.lookup y.1 = some .cell

def bst (k : Nat) (pull : List Nat) (σ : St) : St := List.replicate k none ++ pull.map fun j => σ.getD j none

theorem HOk.but {P : Program} {w : World} {H : Hp} {h h' : Heap} {C : Addr} (x : HOk P w H h) (hn : H C = none) (k : ∀ b o, b ≠ C → h.get? b = some o → h'.get? b = some o) : HOk P w H h' := fun b u e => by
  have nit : ∀ b u, H b = some u → b ≠ C := fun b u e z => by rw [z, hn] at e; cases e
  refine (x b u e).stay (fun c v hc q => k c v ?_ q) (fun _ q => q) fun _ _ q => q
  rcases hc with z | z
  · rw [z]; exact nit b u e
  · exact nit c _ z

def tComp (wi : TI) (k : Nat) (pull : List Nat) (g : TG) (te : TE) : TE := fun σ H Q => wi σ H fun J H1 => ∀ d, H1 d = none →
  ∃ W : Nat → Nat → St → Hp → Prop, (∃ m, W 0 m (bst k pull σ) (upd H1 d (.lst []))) ∧ ∀ i m σ' H', W i m σ' H' →
    (J.stop i H' ∧ Q (.ref d) H') ∨
    (J.go i H' ∧ ∀ x H2, J.yld i H' x H2 → g x σ' H2 fun σ3 H3 => te σ3 H3 fun y H4 => ∃ xs, H4 d = some (.lst xs) ∧ xs.length < sizeLine ∧ ∃ m', m' < m ∧ W (i + 1) m' σ3 (upd H4 d (.lst (xs ++ [y]))))

section
variable {X : Cx} {elt tg iter : Expr} {sc : Scope} {pos : Pos} {wi : TI} {g : TG} {te : TE} {N : List Str} {names : List (Str × NameKind)} {N' : List Str} {k : Nat} {pull : List Nat}

theorem blk_start {pins : List (Addr × Obj)} {σ : St} {H1 : Hp} {s2 : Shared} {fp : List Addr} {cl : List (Str × Addr)} {h₁ : Heap} {tk : Nat} (B : BScope N names N' k pull sc) (hN : X.N = N) (hnm : X.env.scope.names = names)
    (I2 : Inv X pins σ H1 s2) (f2 : ∀ b ∈ fp, FpOk X pins H1 b) (ho : ∀ b ∈ fp, ∃ o, s2.heap.get? b = some o)
    (c1 : ∀ x c, cl.lookup x = some c → X.env.cells.lookup x = some c) (c3 : ∀ y ∈ sc.names, y.2 = .free → ∃ c, cl.lookup y.1 = some c)
    (hns : h₁.Ns (s2.heap.objs.size + 1) (fun x => ([] : List (Str × Value)).reverse.lookup x))
    (hk : ∀ b o, s2.heap.get? b = some o → h₁.get? b = some o) (hd : h₁.get? s2.heap.objs.size = some { cls := .type "list", data := .seq ([] : List Value).toArray }) :
    Inv (blk X sc cl (s2.heap.objs.size + 1) N' s2 H1 fp pins) [] (bst k pull σ) (upd H1 s2.heap.objs.size (.lst [])) { s2 with heap := h₁, toks := tk } := by
  have hfd : H1 s2.heap.objs.size = none := I2.hok.fresh (Nat.le_refl _)
  have hfC : (upd H1 s2.heap.objs.size (.lst [])) (s2.heap.objs.size + 1) = none := by
    rw [upd_ne (Nat.succ_ne_self _)]; exact I2.hok.fresh (Nat.le_succ _)
  have hlook : ∀ x, (compEnvC sc cl (s2.heap.objs.size + 1) X.env).kindOf x = some .cell ∨ (compEnvC sc cl (s2.heap.objs.size + 1) X.env).kindOf x = some .free → (x, NameKind.free) ∈ sc.names := fun x hx =>
    relabel_was (env := X.env) B.nocell hx
  have cellKind : ∀ y ∈ sc.names, y.2 = .free → X.env.kindOf y.1 = some .cell := fun y hy hf => by
    show X.env.scope.names.lookup y.1 = _
    rw [hnm]; exact B.fre y hy hf
  refine ⟨⟨I2.ok.mod, B.kind, I2.ok.glob, I2.ok.blt, Nat.le_succ _, fun x y c e1 e2 => I2.ok.inj x y c (c1 x c e1) (c1 y c e2), fun x hx => c3 _ (hlook x hx) rfl, (fun x c h _ => nomatch h), I2.ok.hd, I2.ok.frames, .inl rfl, fun b hb => ⟨?_, fun x c e => ?_⟩, I2.bs, Nat.le_trans I2.ok.bsz I2.sz, fun b o e hb => ?_, fun b hb hs => ?_, I2.stack, I2.stkFree⟩,
    rfl, I2.bare, Un.laid hk (Nat.le_refl _) hfd, ⟨_, hns, fun i x v e1 e2 e3 => ?_⟩, fun x c e => ?_, hfC, fun x c e => ?_, fun p hp => ?_, I2.hok.laid hk (Nat.le_refl _) ⟨Nat.zero_le _, [], 0, .nil, hd⟩, ?_⟩
  · obtain ⟨o, e⟩ := ho b hb
    exact Nat.ne_of_lt (Nat.lt_succ_of_lt (Heap.lt_size e))
  · exact (f2 b hb).2.2.2.2.1 x c (c1 x c e)
  · rcases (f2 b hb).2.2.2.1 with z | z
    · exact I2.ok.noex b o e z
    · exact absurd (Nat.lt_of_lt_of_le (Heap.lt_size e) (Nat.le_trans I2.ok.bsz z)) (Nat.lt_irrefl _)
  · rcases List.mem_cons.mp (I2.stkSub b hs) with z | z
    · exact (f2 b hb).2.1 z
    · exact (f2 b hb).2.2.1 z
  · -- a slot that is set is a caught name
    have e2 : (bst k pull σ)[i]? = some (some v) := e2
    unfold bst at e2
    by_cases hi : i < k
    · rw [List.getElem?_append_left (by simpa using hi), List.getElem?_replicate, if_pos hi] at e2
      cases e2
    · rw [List.getElem?_append_right (by simpa using hi), List.length_replicate, List.getElem?_map] at e2
      cases ej : pull[i - k]? with
      | none => rw [ej] at e2; cases e2
      | some j =>
        rw [ej] at e2
        have e2 : σ.getD j none = some v := Option.some.inj e2
        have hj : σ[j]? = some (some v) := by
          rw [List.getD_eq_getElem?_getD] at e2
          cases q : σ[j]? with
          | none => rw [q] at e2; cases e2
          | some z => rw [q] at e2; simpa using e2
        have hil : i - k < pull.length := (List.getElem?_eq_some_iff.mp ej).1
        obtain ⟨q1, q2⟩ := B.cap (i - k) (List.mem_range.mpr hil)
        have ei : k + (i - k) = i := by omega
        have ep : pull.getD (i - k) 0 = j := by rw [List.getD_eq_getElem?_getD, ej]; rfl
        have e1 : N'[i]? = some x := e1
        rw [ei, ep, e1] at q1
        rw [ei, e1] at q2
        have hf := q2 x (by simp)
        have hmem := PySem.mem_of_lookup hf
        have hc := cellKind (x, .free) hmem rfl
        obtain ⟨m, hn, hl⟩ := I2.loc
        obtain ⟨u, r, l⟩ := hl j x v (by rw [hN]; exact q1.symm) hj (.inr (.inl hc))
        refine ⟨u, r, .inr ⟨.inl (lookup_relabel_free I2.ok.kind hf hc), ?_⟩⟩
        rcases l with ⟨hloc, _⟩ | ⟨_, c, ec, hcell⟩
        · rw [hc] at hloc; cases hloc
        · obtain ⟨c', ec'⟩ := c3 (x, .free) hmem rfl
          have := c1 x c' ec'
          rw [ec] at this
          cases this
          obtain ⟨o, h1, h2⟩ := hcell
          exact ⟨c, ec', o, hk c o h1, h2⟩
  · obtain ⟨v, o, h1, h2⟩ := I2.cell x c (c1 x c e)
    exact ⟨v, o, hk c o h1, h2⟩
  · obtain ⟨v, o, h1, h2⟩ := I2.cell x c (c1 x c e)
    rw [upd_ne (Nat.ne_of_lt (Heap.lt_size h1))]
    exact I2.freeC x c (c1 x c e)
  · have hp : p ∈ X.pn ++ pins := by simpa [blk] using hp
    obtain ⟨a1, a2, a3, a4, a5⟩ := I2.pin p hp
    have hlt := Heap.lt_size a1
    refine ⟨hk _ _ a1, by rw [upd_ne (Nat.ne_of_lt hlt)]; exact a2, ?_, fun hs => ?_, a5⟩
    · exact Nat.ne_of_lt (Nat.lt_succ_of_lt hlt)
    · rcases List.mem_cons.mp (I2.stkSub p.1 hs) with z | z
      · exact a3 z
      · exact a4 z
  · show (bst k pull σ).length = N'.length
    unfold bst
    rw [List.length_append, List.length_replicate, List.length_map, B.len]

theorem pe_comp (hc : X.calm = true) (B : BScope N names N' k pull sc) (hN : X.N = N) (hnm : X.env.scope.names = names) (hi : PI X tg iter wi)
    (hg : ∀ cl C s₂ H₁ fp pins, PG (blk X sc cl C N' s₂ H₁ fp pins) tg g) (he : ∀ cl C s₂ H₁ fp pins, PE (blk X sc cl C N' s₂ H₁ fp pins) elt te)
    (hs : ∀ x, foldedSetIterable iter X.env x = pure x := by intro _; rfl) : PE X (.ListComp elt [⟨tg, iter, [], 0⟩] sc pos) (tComp wi k pull g te) := by
  intro pins s σ H Q I h
  rw [eval_ListComp]
  have hcells : ∀ y ∈ sc.names, y.2 = .free → ∃ c, X.env.cells.lookup y.1 = some c := fun y hy hf => I.ok.has y.1 (.inl (by
    show X.env.scope.names.lookup y.1 = _
    rw [hnm]; exact B.fre y hy hf))
  obtain ⟨cl, ecl, c1, _, c3⟩ := closureFor_is (env := X.env) sc.names [] hcells (fun x c e => nomatch e)
  rw [← closureFor_eq] at ecl
  refine wpAny_comprehension_free (use := none) rfl hs ecl B.kind B.loc (thn (hi pins s σ H _ I h) fun xv s1 h1 => thn h1 fun itv s2 h2 => ?_)
  obtain ⟨it, fp, tn, J, H1, e, I2, T, st2, f2, hW⟩ := h2
  subst e
  have ho : ∀ b ∈ fp, ∃ o, s2.heap.get? b = some o := fun b hb => let ⟨o, e, _⟩ := T.obj _ _ st2 b hb; ⟨o, e⟩
  refine wpAny_newObj_type (wpAny_newFunctionEnv B.nocell (by intro y hy; simp at hy) (fun h₁ hns₁ hsb₁ => ?_) B.kind)
  dsimp only at hns₁ hsb₁ ⊢
  rw [Heap.size_push] at hns₁ hsb₁ ⊢
  have old : ∀ b o, s2.heap.get? b = some o → h₁.get? b = some o := fun b o e => by
    have hlt := Heap.lt_size e
    exact (hsb₁.2 b (Nat.ne_of_lt (Nat.lt_succ_of_lt hlt))).trans (Heap.get?_push_of_some _ (Heap.get?_push_of_some _ e))
  have hd : h₁.get? s2.heap.objs.size = some { cls := .type "list", data := .seq ([] : List Value).toArray } :=
    (hsb₁.2 _ (Nat.ne_of_lt (Nat.lt_succ_self _))).trans (Heap.get?_push_of_some _ (Heap.get?_push_size _ rfl))
  have I4 := blk_start (tk := s2.toks + ([] : List (Str × Value)).length) B hN hnm I2 f2 ho c1 c3 hns₁ old hd
  have st4 : tn 0 h₁ := T.keep _ _ _ st2 fun b _ o e => old b o e
  obtain ⟨W, ⟨m0, w0⟩, turn⟩ := hW s2.heap.objs.size (I2.hok.fresh (Nat.le_refl _))
  have fr4 : ∀ b ∈ fp, (upd H1 s2.heap.objs.size (.lst [])) b = none := fun b hb => by
    obtain ⟨o, e⟩ := ho b hb
    rw [upd_ne (Nat.ne_of_lt (Heap.lt_size e))]
    exact (f2 b hb).1
  -- what stays true of the iterator's objects
  have stat : ∀ {H' : Hp}, (∀ b ∈ fp, H' b = none) → ∀ b ∈ fp, FpOk (blk X sc cl (s2.heap.objs.size + 1) N' s2 H1 fp pins) [] H' b := fun hn b hb => by
    refine ⟨hn b hb, (I4.ok.exf b hb).1, I4.ok.exfs b hb, .inl hb, (I4.ok.exf b hb).2, fun p hp => ?_⟩
    have hp : p ∈ X.pn ++ pins := by simpa [blk] using hp
    exact (f2 b hb).2.2.2.2.2 p hp
  have loop : ∀ s₃ : Shared, s₃ = { s2 with heap := h₁, toks := s2.toks + ([] : List (Str × Value)).length } →
      codeAny (model X.prog X.w) X.A (.compLoop (.ListComp elt [⟨tg, iter, [], 0⟩] sc pos) 0 (.ref it) (.ref s2.heap.objs.size) (compEnvC sc cl (s2.heap.objs.size + 1) X.env))
        (compPost (model X.prog X.w) X.A X.xe none (EP X pins σ Q) (.ref s2.heap.objs.size) (s2.heap.objs.size + 1)) s₃ := by
    rintro s₃ rfl
    refine comp_turn (fun n s' => ∃ i σ' H', Inv (blk X sc cl (s2.heap.objs.size + 1) N' s2 H1 fp pins) [] σ' H' s' ∧ tn i s'.heap ∧ (∀ b ∈ fp, H' b = none) ∧ W i n σ' H') ?_ m0 ⟨0, _, _, I4, st4, fr4, w0⟩
    rintro n s3 ⟨i, σ3, H3, I3, st3, fr3, w3⟩
    rcases turn i n σ3 H3 w3 with ⟨stop, q⟩ | ⟨go, step⟩
    · refine thn (T.done (blk X sc cl (s2.heap.objs.size + 1) N' s2 H1 fp pins) rfl rfl rfl hc i [] s3 σ3 H3 _ I3 (stat fr3) st3 stop) fun r s4 ⟨hr, I5⟩ => ?_
      subst hr
      obtain ⟨m, hn, _⟩ := id I5.loc
      refine ⟨m, hn, fun h' hs' => ?_⟩
      have ne : ∀ b o, s2.heap.get? b = some o → b ≠ s2.heap.objs.size + 1 := fun b o e => Nat.ne_of_lt (Nat.lt_succ_of_lt (Heap.lt_size e))
      have U : Un (frs X.stack) fp H1 H3 s2.heap s4.heap := I5.base
      have U' : Un (frs X.stack) fp H1 H3 s2.heap h' := ⟨fun b o e n hb hx => (hs'.2 b (ne b o e)).trans (U.keep b o e n hb hx), fun b o e n hb hx => by
          obtain ⟨sl, z⟩ := U.slot b o e n hb hx
          exact ⟨sl, (hs'.2 b (ne b o e)).trans z⟩, U.free, fun b o e hx => by
          obtain ⟨o', z⟩ := U.there b o e hx
          exact ⟨o', (hs'.2 b (ne b o e)).trans z⟩, U.tups, U.frzs, U.tbls⟩
      have hok : HOk X.prog X.w H3 h' := HOk.but (C := s2.heap.objs.size + 1) I5.hok I5.free fun b o hb e => (hs'.2 b hb).trans e
      refine ⟨.ref s2.heap.objs.size, H3, I2.call' (s' := { s4 with heap := h' }) I5.os U' hok I5.bare fun b hb => ?_, rfl, q⟩
      exact ⟨(f2 b hb).2.2.2.1, (f2 b hb).2.1, (f2 b hb).2.2.2.2.1, (f2 b hb).2.2.2.2.2⟩
    · refine thn (T.item (blk X sc cl (s2.heap.objs.size + 1) N' s2 H1 fp pins) rfl rfl rfl hc i [] s3 σ3 H3 _ I3 (stat fr3) st3 go) fun r s4 ⟨u, hr, h4⟩ => ?_
      subst hr
      refine thn h4 fun _ s5 ⟨x, H5, I5, r5, y5, st5, fr5⟩ => ?_
      have I5' := I5.pinned (stat fr5) (T.obj _ _ st5)
      refine wpAny_mono (hg _ _ _ _ _ _ _ s5 σ3 H5 x u _ I5' r5 (step x H5 y5)) (fun _ s6 ⟨σ6, H6, I6, q6⟩ => ?_) fun _ _ z => z.elim
      refine wpAny_mono (he _ _ _ _ _ _ _ s6 σ6 H6 _ I6 q6) (fun y s7 ⟨z, H7, I7, r7, xs, hx7, hz7, m', hm, w7⟩ => ?_) fun _ _ z => z.elim
      refine wpAny_mono (mt_append (X := blk X sc cl (s2.heap.objs.size + 1) N' s2 H1 fp pins) _ s7 σ6 H7 (.ref s2.heap.objs.size) [z] (.ref s2.heap.objs.size) [y] (fun _ H8 => H8 = upd H7 s2.heap.objs.size (.lst (xs ++ [z]))) I7 rfl (.cons r7 .nil) ⟨_, xs, z, rfl, rfl, hx7, hz7, rfl⟩) (fun _ s8 ⟨_, H8, I8, _, e8⟩ => ?_) fun _ _ z => z.elim
      subst e8
      refine ⟨m', hm, i + 1, σ6, _, I8.unpinned, T.keep _ _ _ st5 fun b hb o e => (I8.pin (b, o) (List.mem_append_right _ (List.mem_append_right _ (mem_pinsAt hb e)))).1, fun b hb => ?_, w7⟩
      obtain ⟨o, e, _⟩ := T.obj _ _ st5 b hb
      exact (I8.pin (b, o) (List.mem_append_right _ (List.mem_append_right _ (mem_pinsAt hb e)))).2.1
  exact codeAny_compStart_list (loop _ rfl) (T.self _ 0 _ _ _ st4 (loop _ rfl))
end
end L2
namespace L2
open PySem
open AutoSeq1 (wpAny_loadPart')
section
variable {prog : Program} {w : World} {A : Around} {E : Value → Shared → Prop} {s : Shared}
theorem nextOf_tuple_item {it l : Addr} {i : Nat} {items} {x : Value} {Q : Value → Shared → Prop} (hit : s.heap.IsTupleIter it l i)
    (hl : s.heap.IsTuple l items) (hx : items[i]? = some x)
    (hQ : ∀ h', h'.IsTupleIter it l (i + 1) → Heap.SameBut it s.heap h' → Q x { s with heap := h' }) :
    wpAny (model prog w) A (Builtin.SmallTypes.nextOf (.ref it)) Q E s := by
  obtain ⟨o, ho, hc, hd⟩ := id hit
  obtain ⟨ol, hol, _, nl, hdl⟩ := hl
  unfold Builtin.SmallTypes.nextOf
  refine wpAny_bind (wpAny_callSpecial?_slot (name := Str.ofString "__next__") hit.typeIs F.slot_tuple_iterator_next
    (wpAny_call_entry F.slot_tuple_iterator_next hit.typeIs F.entry_tuple_iterator_next ?_ (F.args_tuple_iterator_next_1 _)))
  show wpAny _ _ (field (.ref it) 0 >>= _) _ _ s
  refine wpAny_bind (wpAny_field ho hd (x := .ref l) rfl ?_)
  show wpAny _ _ (if (Value.ref l == Value.none) = true then _ else _) _ _ s
  rw [if_neg (show ¬ ((Value.ref l == Value.none) = true) from Bool.false_ne_true)]
  show wpAny _ _ (field (.ref it) 1 >>= _) _ _ s
  refine wpAny_bind (wpAny_field ho hd (x := .int i 0) rfl ?_)
  show wpAny _ _ (seqItems? (.ref l) >>= _) _ _ s
  refine wpAny_bind (wpAny_seqItems hol hdl ?_)
  simp only [Int.toNat_natCast, hx]
  refine wpAny_bind (wpAny_setField ho hd (by simp) (wpAny_pure ⟨x, rfl, wpAny_pure (hQ _ ?_ (Heap.SameBut.update ..))⟩))
  exact ⟨_, Heap.get?_update_self _ ho (Obj.isFreed_of_fields (Obj.data_mapFields hd _)), (Obj.cls_mapFields ..).trans hc, by
    rw [Obj.data_mapFields hd]; simp [rawInt]⟩
theorem nextOf_tuple_end {it l : Addr} {i : Nat} {items} {Q : Value → Shared → Prop} (hh : A.handled = none)
    (hit : s.heap.IsTupleIter it l i) (hl : s.heap.IsTuple l items) (hx : items[i]? = none)
    (hE : ∀ h' e, Heap.ExtBut it s.heap h' → (∃ o, h'.get? e = some o ∧ o.cls = .type "StopIteration") → E (.ref e) { s with heap := h' }) :
    wpAny (model prog w) A (Builtin.SmallTypes.nextOf (.ref it)) Q E s := by
  obtain ⟨o, ho, hc, hd⟩ := id hit
  obtain ⟨ol, hol, _, nl, hdl⟩ := hl
  unfold Builtin.SmallTypes.nextOf
  refine wpAny_bind (wpAny_callSpecial?_slot (name := Str.ofString "__next__") hit.typeIs F.slot_tuple_iterator_next
    (wpAny_call_entry F.slot_tuple_iterator_next hit.typeIs F.entry_tuple_iterator_next ?_ (F.args_tuple_iterator_next_1 _)))
  show wpAny _ _ (field (.ref it) 0 >>= _) _ _ s
  refine wpAny_bind (wpAny_field ho hd (x := .ref l) rfl ?_)
  show wpAny _ _ (if (Value.ref l == Value.none) = true then _ else _) _ _ s
  rw [if_neg (show ¬ ((Value.ref l == Value.none) = true) from Bool.false_ne_true)]
  show wpAny _ _ (field (.ref it) 1 >>= _) _ _ s
  refine wpAny_bind (wpAny_field ho hd (x := .int i 0) rfl ?_)
  show wpAny _ _ (seqItems? (.ref l) >>= _) _ _ s
  refine wpAny_bind (wpAny_seqItems hol hdl ?_)
  simp only [Int.toNat_natCast, hx]
  refine wpAny_bind (wpAny_rule (wpAny_bind (wpAny_setField ho hd (by simp) ?_)))
  show wpAny _ _ (newExc (.type "StopIteration") [] >>= _) _ _ _
  refine wpAny_bind ?_
  simp only [newExc, newTuple]
  refine wpAny_bind (wpAny_newObj_type ?_ (by size_fits))
  refine wpAny_bind (m := firstArgMember _ _) (wpAny_of_eq (a := Value.none) (by first | rfl | (simp only [firstArgMember]; rfl)) ?_)
  refine wpAny_newObj_type ?_ (by size_fits)
  simp only [raiseNew]
  refine wpAny_bind (wpAny_handled ?_)
  first | rw [show A.in1.handled = none from hh] | rw [hh]
  refine wpAny_bind (wpAny_pure (wpAny_throw ?_))
  exact hE _ _ (((Heap.SameBut.update ..).extBut.push _).push _) ⟨_, Heap.get?_push_size _ rfl, rfl⟩
end
theorem Draws_tuple {prog : Program} {w : World} {A : Around} (hh : A.handled = none) (it l : Addr) (hne : l ≠ it) (items : Array Value) :
    Draws prog w A it [it, l] items.size (fun i v => items[i]? = some v) (fun i h => h.IsTupleIter it l i ∧ h.IsTuple l items) where
  live := fun _ _ st => let ⟨⟨o, ho, _⟩, _⟩ := st; ⟨o, ho⟩
  frame := fun _ _ _ st hk => ⟨let ⟨o, ho, r⟩ := st.1; ⟨o, hk it (by simp) o ho, r⟩, let ⟨o, ho, r⟩ := st.2; ⟨o, hk l (by simp) o ho, r⟩⟩
  item := fun i s Q E hi st hQ => by
    refine nextOf_tuple_item st.1 st.2 (x := items[i]) (by simp [hi]) fun h' hit' hs' => ?_
    exact hQ _ h' s.toks (by simp [hi]) ⟨hit', let ⟨o, ho, r⟩ := st.2; ⟨o, (hs'.2 l hne).trans ho, r⟩⟩ hs'
  done := fun s Q E st hE => nextOf_tuple_end hh st.1 st.2 (by simp) hE

theorem meets_enumerate_newT (l : Addr) (items : Array Value) (o : Obj) (hc : o.cls = .type "tuple") (n : Nat) (hd : o.data = .seq items n) :
    Meets (Builtin.«enumerate.__new__» ⟨[.type "enumerate", .ref l], []⟩) (fun _ R s => s.heap.get? l = some o ∧
      R (.ok (.ret (.ref (s.heap.push { cls := .type "tuple_iterator", data := .fields #[.ref l, .int 0 0] }).objs.size)))
        { s with heap := (s.heap.push { cls := .type "tuple_iterator", data := .fields #[.ref l, .int 0 0] }).push { cls := .type "enumerate", data := .fields #[.none, .bool false, .ref s.heap.objs.size, rawInt 0, .none, .none] } }) :=
  .of_wp fun prog w A R s h => by
    obtain ⟨hp, g, d, tk, os⟩ := s; obtain ⟨hl, h⟩ := h
    have hsub := sub_enumerate
    have hL : Heap.IsTuple (Shared.heap ⟨hp, g, d, tk, os⟩) l items := ⟨_, hl, hc, n, hd⟩
    wp_walk using wpAny_loadPart' hl
    refine wpAny_stack_any fun st => wpAny_pure ?_
    split
    · rename_i c _ _ _ _ _
      cases (c == Value.type "enumerate")
      · wp_walk using wpAny_loadPart' hl, wpAny_pyIter_tuple hL
        exact ⟨_, rfl, h⟩
      · wp_walk using wpAny_loadPart' hl, wpAny_pyIter_tuple hL
        exact ⟨_, rfl, h⟩
    · wp_walk using wpAny_loadPart' hl, wpAny_pyIter_tuple hL
      exact ⟨_, rfl, h⟩
theorem call_enumerate_tuple {prog : Program} {w : World} {A : Around} {E : Value → Shared → Prop} {s : Shared} {l : Addr} {items : Array Value} {Q : Value → Shared → Prop} (hL : s.heap.IsTuple l items)
    (h : ∀ h', IsEnum h' (s.heap.objs.size + 1) s.heap.objs.size 0 .none → h'.IsTupleIter s.heap.objs.size l 0 → h'.objs.size = s.heap.objs.size + 2 →
      (∀ b o, s.heap.get? b = some o → h'.get? b = some o) → Q (.ref (s.heap.objs.size + 1)) { s with heap := h' }) :
    wpAny (model prog w) A (call (.type "enumerate") [.ref l]) Q E s := by
  obtain ⟨o, hl, hc, n, hd⟩ := hL
  refine callType_new F.called_enumerate (by decide) (F.typeCall_enumerate_1 _) (F.newCall_enumerate_1 _) (fun obj => F.args_object_init_2 obj _) F.entry_enumerate_new
    (meets_enumerate_newT l items o hc n hd) ⟨hl, ?_⟩
  have hz : (s.heap.push { cls := .type "tuple_iterator", data := .fields #[.ref l, .int 0 0] }).objs.size = s.heap.objs.size + 1 := Heap.size_push ..
  show _ ∧ _
  rw [hz]
  have he : IsEnum ((s.heap.push { cls := .type "tuple_iterator", data := .fields #[.ref l, .int 0 0] }).push
      { cls := .type "enumerate", data := .fields #[.none, .bool false, .ref s.heap.objs.size, rawInt 0, .none, .none] }) (s.heap.objs.size + 1) s.heap.objs.size 0 .none := by
    have := Heap.get?_push_size (s.heap.push { cls := .type "tuple_iterator", data := .fields #[.ref l, .int 0 0] })
      (o := { cls := .type "enumerate", data := .fields #[.none, .bool false, .ref s.heap.objs.size, rawInt 0, .none, .none] }) rfl
    rw [hz] at this; exact this
  refine ⟨⟨_, he, rfl⟩, h _ he ⟨_, Heap.get?_push_of_some _ (Heap.get?_push_size _ rfl), rfl, rfl⟩ (by rw [Heap.size_push, hz]) fun b o x => Heap.get?_push_of_some _ (Heap.get?_push_of_some _ x)⟩
end L2
namespace L2
open PySem PySem.Spec PyProof.Rows

section
variable {X : Cx}
theorem call_isinst : CallR X (.builtin "isinstance") (fun xs H Q => ∃ x c t b, xs = [x, .ty c] ∧ TyOf X.K H x t ∧ PySem.W.kitOne X.K t (.type c) = some b ∧ Q (.bl b) H) := by
  intro pins s σ H xs us Q I r h
  obtain ⟨x, c, t, b, rfl, ty, e, q⟩ := h
  obtain ⟨u, w', rfl, ru, rc⟩ := vals2 r
  obtain rfl : w' = Value.type c := rc
  exact isinst_ok I ru ty e fun tk => ⟨.bl b, H, I.tok _, rfl, q⟩
end
theorem kit_int_int (K : PySem.W.Frag) : PySem.W.kitOne K (.type "int") (.type "int") = some true := by kernel_rfl
theorem kit_int_bool (K : PySem.W.Frag) : PySem.W.kitOne K (.type "int") (.type "bool") = some false := by kernel_rfl
theorem kit_tup_tup (K : PySem.W.Frag) : PySem.W.kitOne K (.type "tuple") (.type "tuple") = some true := by kernel_rfl
theorem kit_list_list (K : PySem.W.Frag) : PySem.W.kitOne K (.type "list") (.type "list") = some true := by kernel_rfl

mutual
inductive Dt (K : PySem.W.Frag) (H : Hp) : V → PyData → Prop
  | non : Dt K H .non .none
  | bl (b : Bool) : Dt K H (.bl b) (.bool b)
  | int (i : Int) : Dt K H (.int i) (.int i)
  | str (x : Str) : Dt K H (.str x) (.str x)
  | lst {a : Addr} {xs : List V} {ds : List PyData} : SqL K H a xs → DtAll K H xs ds → Dt K H (.ref a) (.list ds)
  | tup {a : Addr} {xs : List V} {ds : List PyData} : SqT K H a xs → DtAll K H xs ds → Dt K H (.ref a) (.tuple ds)
inductive DtAll (K : PySem.W.Frag) (H : Hp) : List V → List PyData → Prop
  | nil : DtAll K H [] []
  | cons {x : V} {d : PyData} {xs : List V} {ds : List PyData} : Dt K H x d → DtAll K H xs ds → DtAll K H (x :: xs) (d :: ds)
end
section
variable {X : Cx} {pins : List (Addr × Obj)} {σ : St} {H : Hp} {s : Shared}
mutual
theorem Dt.reads (I : Inv X pins σ H s) : ∀ {x : V} {d : PyData} {u : Value}, Dt X.K H x d → RelV x u → ∃ as, Reads s.heap u d as
  | _, _, _, .non, r => by obtain rfl := (show _ = Value.none from r); exact ⟨_, .none⟩
  | _, _, _, .bl b, r => by obtain rfl := (show _ = Value.bool b from r); exact ⟨_, .bool b⟩
  | _, _, _, .int i, r => by obtain ⟨t, rfl⟩ := r; exact ⟨_, .int i t⟩
  | _, _, _, .str x, r => by obtain ⟨t, rfl⟩ := r; exact ⟨_, .str x t⟩
  | _, _, _, @Dt.lst _ _ a xs ds hq ha, r => by
    obtain rfl := (show _ = Value.ref a from r)
    obtain ⟨its, rv, ⟨o, n, h1, h2, h3, h4⟩, hz⟩ := I.list hq
    obtain ⟨as, ra⟩ := DtAll.reads I ha rv
    exact ⟨_, .list h1 h2 h4 (by simpa using ra)⟩
  | _, _, _, @Dt.tup _ _ a xs ds hq ha, r => by
    obtain rfl := (show _ = Value.ref a from r)
    obtain ⟨its, rv, ⟨o, h1, h2, n, h3⟩, hz⟩ := I.tuple hq
    obtain ⟨as, ra⟩ := DtAll.reads I ha rv
    exact ⟨_, .tuple h1 h2 h3 (by simpa using ra)⟩
theorem DtAll.reads (I : Inv X pins σ H s) : ∀ {xs : List V} {ds : List PyData} {us : List Value}, DtAll X.K H xs ds → Vals xs us → ∃ as, ReadsAll s.heap us ds as
  | _, _, _, .nil, r => by cases r; exact ⟨_, .nil⟩
  | _, _, _, .cons h t, r => by
    cases r with
    | cons r rr =>
      obtain ⟨a1, h1⟩ := Dt.reads I h r
      obtain ⟨a2, h2⟩ := DtAll.reads I t rr
      exact ⟨_, .cons h1 h2⟩
end
def rEqD (K : PySem.W.Frag) (A : Around) (neg : Bool) : R2 := fun x y H Q => ∃ d e, Dt K H x d ∧ Dt K H y e ∧ d.canLay0 = true ∧ e.canLay0 = true ∧ A.units + min d.depth e.depth < cLine ∧ Q (.bl (if neg then !PyData.eqv d e else PyData.eqv d e)) H
theorem op_eqD : OpR X (compareOp .Eq) (rEqD X.K X.A false) := by
  intro pins s σ H x y v u Q I rx ry h
  obtain ⟨d, e, hd, he, c1, c2, hu, q⟩ := h
  obtain ⟨as, ra⟩ := Dt.reads I hd rx
  obtain ⟨bs, rb⟩ := Dt.reads I he ry
  exact SeqAt.compareEq_reads ra rb c1 c2 hu ⟨.bl _, H, I, rfl, q⟩
theorem op_neD : OpR X (compareOp .NotEq) (rEqD X.K X.A true) := by
  intro pins s σ H x y v u Q I rx ry h
  obtain ⟨d, e, hd, he, c1, c2, hu, q⟩ := h
  obtain ⟨as, ra⟩ := Dt.reads I hd rx
  obtain ⟨bs, rb⟩ := Dt.reads I he ry
  exact SeqAt.compareNe_reads ra rb c1 c2 hu ⟨.bl _, H, I, rfl, q⟩
end
/-- rows of squares as values, as data -/
def nv (xs : List Nat) : List V := xs.map fun (n : Nat) => V.int (n : Int)
def nd (xs : List Nat) : List PyData := xs.map fun (n : Nat) => PyData.int (n : Int)
theorem nv_len (xs : List Nat) : (nv xs).length = xs.length := by simp [nv]
theorem nv_get {xs : List Nat} {i : Nat} {x : Nat} (h : xs[i]? = some x) : (nv xs)[i]? = some (.int (x : Int)) := by simp [nv, h]
theorem nv_get' {xs : List Nat} {i : Nat} {v : V} (h : (nv xs)[i]? = some v) : ∃ x, xs[i]? = some x ∧ v = .int (x : Int) := by
  rw [nv, List.getElem?_map] at h
  cases e : xs[i]? with
  | none => rw [e] at h; cases h
  | some x => rw [e] at h; exact ⟨x, rfl, (Option.some.inj h).symm⟩
theorem nv_snoc (xs : List Nat) (x : Nat) : nv xs ++ [.int (x : Int)] = nv (xs ++ [x]) := by simp [nv]
theorem nd_all {K : PySem.W.Frag} {H : Hp} : ∀ xs : List Nat, DtAll K H (nv xs) (nd xs)
  | [] => .nil
  | x :: xs => .cons (.int _) (nd_all xs)
theorem nd_lay : ∀ xs : List Nat, PyData.canLayAll0 (nd xs) = true
  | [] => rfl
  | x :: xs => by show (PyData.canLay0 (PyData.int _) && PyData.canLayAll0 (nd xs)) = true; rw [nd_lay xs]; rfl
theorem nd_eqv : ∀ xs ys : List Nat, PyData.eqvAll (nd xs) (nd ys) = decide (xs = ys)
  | [], [] => rfl
  | [], y :: ys => rfl
  | x :: xs, [] => rfl
  | x :: xs, y :: ys => by
    show (((x : Int) == (y : Int)) && PyData.eqvAll (nd xs) (nd ys)) = _
    rw [nd_eqv xs ys]
    by_cases e : x = y
    · subst e
      by_cases e' : xs = ys <;> simp [e']
    · have : ((x : Int) == (y : Int)) = false := by simpa using fun h : (x : Int) = y => e (by omega)
      simp [this, e]
/-- the sheet at a: a tuple of two tuples -/
def ShAt (H : Hp) (a : Addr) (r u : List Nat) : Prop := ∃ p q, H a = some (.tup [.ref p, .ref q]) ∧ H p = some (.tup (nv r)) ∧ H q = some (.tup (nv u))
theorem ShAt.same {H H' : Hp} {a : Addr} {r u : List Nat} (e : Same H H') (h : ShAt H a r u) : ShAt H' a r u := by
  obtain ⟨p, q, h1, h2, h3⟩ := h
  exact ⟨p, q, e _ _ h1, e _ _ h2, e _ _ h3⟩
end L2
namespace L2
open PySem PySem.Spec PyProof.Rows
section
variable {prog : Program} {w : World} {A : Around} {E : Value → Shared → Prop} {s : Shared}
end
end L2
namespace L2
open PySem PySem.Spec PyProof.Rows
section
variable {prog : Program} {w : World} {A : Around} {E : Value → Shared → Prop} {s : Shared}
theorem collect_tup {l : Addr} {vs : List Value} {Q : List Value → Shared → Prop} (hl : s.heap.IsTuple l vs.toArray) (hz : vs.length ≤ sizeLine)
    (h : ∀ h', (∀ b o, s.heap.get? b = some o → h'.get? b = some o) → Q vs { s with heap := h' }) : wpAny (model prog w) A (collect (.ref l)) Q E s := by
  obtain ⟨o, ho, hc, n, hd⟩ := hl
  unfold collect
  refine wpAny_bind (wpAny_runValue (codeAny_builtin entry_proto_collect' ?_))
  show wpAny _ _ (do again (.builtin "list.__iadd__" ⟨[← newList [], .ref l], []⟩)) _ _ s
  refine wpAny_bind (wpAny_newList (wpAny_pure ⟨Code.quiet_builtin _ (by decide +kernel), codeAny_builtin entry_list_iadd' ?_⟩))
  have ho' : (s.heap.push (seqObj "list" #[] 0)).get? l = some o := Heap.get?_push_of_some _ ho
  show wpAny _ _ (Builtin.List.listExtendWith (.ref s.heap.objs.size) (.ref l) (.ref s.heap.objs.size)) _ _ { s with heap := s.heap.push (seqObj "list" #[] 0) }
  unfold Builtin.List.listExtendWith
  refine wpAny_bind (wpAny_typeOf (T := "tuple") ⟨o, ho', hc⟩ ?_)
  rw [if_pos (show (Builtin.List.listSameRef (.ref s.heap.objs.size) (.ref l) || Value.type "tuple" == Value.type "list" || Value.type "tuple" == Value.type "tuple") = true by
    rw [show (Value.type "tuple" == Value.type "tuple") = true from rfl, Bool.or_true])]
  refine wpAny_bind (listItems_at ho' hd (wpAny_bind (listItems_at (xs := #[]) (n := 0) (Heap.get?_push_size _ rfl) rfl ?_)))
  rw [if_neg (by simp)]
  refine wpAny_bind (listUpdate_at (xs := #[]) (n := 0) (Heap.get?_push_size _ rfl) rfl ?_ (Nat.zero_le _) (by show (#[] ++ vs.toArray).size ≤ sizeLine + 1; simp; omega))
  refine wpAny_pure ?_
  refine wpAny_bind (wpAny_load (get?_update_seq (Heap.get?_push_size _ rfl) _) ?_)
  show wpAny _ _ (pure ((#[] : Array Value) ++ vs.toArray).toList) Q E _
  rw [show ((#[] : Array Value) ++ vs.toArray).toList = vs by simp]
  exact wpAny_pure (h _ fun b o e => (Heap.get?_update_other _ _ (Nat.ne_of_gt (Heap.lt_size e))).trans (Heap.get?_push_of_some _ e))
/-- sorted(x), by what collect tells of x -/
theorem sorted_by {x : Value} {vs : List Value} {ns : List Int} {Q : Value → Shared → Prop} (hI : IntsAre vs ns) (h64 : vs.length < 64)
    (hcol : ∀ (A : Around) (R : List Value → Shared → Prop), A.handled = none → (∀ vs ns' h' tk, IntsAre vs ns' → ns' = ns → (∀ b o, s.heap.get? b = some o → h'.get? b = some o) → R vs { s with heap := h', toks := tk }) → wpAny (model prog w) A (collect x) R E s)
    (hh : A.handled = none)
    (h : ∀ (h1 h2 : Heap) (tk e : Nat) (out : Array Value) (ns' : List Int), IntsAre out.toList ns' → ns'.Perm ns → ns'.Pairwise (· ≤ ·) → (∀ b o, s.heap.get? b = some o → h1.get? b = some o) → h2.get? h1.objs.size = some (seqObj "list" out e) →
      (∀ b o, h1.get? b = some o → h2.get? b = some o) → Q (.ref h1.objs.size) { s with heap := h2, toks := tk }) :
    wpAny (model prog w) A (call (.builtin "sorted") [x]) Q E s := by
  refine Calls.call_function_entry kind_sorted plain_sorted entry_sorted (args_sorted1 _) ?_
  unfold Builtin.«sorted»
  refine wpAny_bind (m := checkCount "sorted" 1 1 _) (wpAny_pure ?_)
  refine wpAny_bind (hcol _ _ (by simp [hh]) fun vs ms h' tk hI' e hk => ?_)
  subst e
  have hl : vs.length < 64 := by rw [hI'.length, ← hI.length]; exact h64
  refine wpAny_bind (wpAny_newList ?_)
  refine wpAny_bind (wpAny_holding (wpAny_call_entry slot_list_sort ⟨_, Heap.get?_push_size _ rfl, rfl⟩ entry_list_sort (list_sort_tree (Heap.get?_push_size _ rfl) hI' hl fun out ns' a1 a2 a3 => ⟨_, rfl, ?_⟩) (args_list_sort _)))
  obtain ⟨e, he⟩ := sortedHeap_at (out := out) (n := 0) (show (h'.push (seqObj "list" vs.toArray 0)).get? h'.objs.size = some (seqObj "list" vs.toArray 0) from Heap.get?_push_size _ rfl)
  have old : ∀ b o, h'.get? b = some o → (sortedHeap (h'.push (seqObj "list" vs.toArray 0)) h'.objs.size vs out).get? b = some o := fun b o q1 => by
    have q2 := Heap.lt_size q1
    rw [sortedHeap_old (Nat.ne_of_lt q2) (by rw [Heap.size_push]; exact Nat.lt_succ_of_lt q2)]
    exact Heap.get?_push_of_some _ q1
  exact wpAny_pure ⟨_, rfl, h _ _ _ _ out ns' a1 a2 a3 hk he old⟩
end
end L2
namespace L2
open PySem PySem.Spec PyProof.Rows
section
variable {prog : Program} {w : World} {A : Around} {E : Value → Shared → Prop} {s : Shared}
end
end L2
namespace L2
open PySem PySem.Spec PyProof.Rows

section
variable {X : Cx} {pins : List (Addr × Obj)} {σ : St} {H : Hp} {s : Shared}
/-- records of ours at fp have turned, a new object T is laid and tracked -/
theorem Inv.turnLaid {fp : List Addr} {T : Addr} {o : HO} {h' : Heap} {t' : Nat} (I : Inv X pins σ H s) (hf : ∀ b ∈ fp, FpOk X pins H b) (hT : s.heap.objs.size ≤ T)
    (k : ∀ b ob, b ∉ fp → s.heap.get? b = some ob → h'.get? b = some ob) (new : ObjOk X.prog X.w (upd H T o) h' T o) : Inv X pins σ (upd H T o) { s with heap := h', toks := t' } := by
  have hn : H T = none := I.hok.fresh hT
  have neT : ∀ b ob, s.heap.get? b = some ob → b ≠ T := fun b ob e => Nat.ne_of_lt (Nat.lt_of_lt_of_le (Heap.lt_size e) hT)
  have nfp : ∀ b u, H b = some u → b ∉ fp := fun b u e hb => by rw [(hf b hb).1] at e; cases e
  refine I.step (g' := s.gens) (d' := s.drawn) (ch := fp) (fun b hb => ⟨(hf b hb).2.2.2.1, (hf b hb).2.1, (hf b hb).2.2.2.2.1, (hf b hb).2.2.2.2.2⟩) (fun b ob _ _ hc e _ => k b ob hc e) (fun b ob _ _ hc e _ => ⟨ob.slots, k b ob hc e⟩)
    (fun b ob _ e n => by rw [upd_ne (neT b ob e)]; exact n) (fun b ob hc e => ⟨ob, k b ob hc e⟩) (fun b xs e => by rw [upd_ne (ne_of_none e hn)]; exact e) (fun b ob u e => by rw [upd_ne (ne_of_none e hn)]; exact e)
    (fun b ps e => ⟨#[], by rw [upd_ne (ne_of_none e hn), e]; simp⟩) (fun m hm => ?_) (fun b u e => ?_) I.bare
  · obtain ⟨ob, es, ep, ho, r⟩ := hm
    exact ⟨ob, es, ep, k _ ob (fun hb => (hf _ hb).2.1 rfl) ho, r⟩
  · by_cases hb : b = T
    · subst hb; rw [upd_same] at e; cases e; exact new
    · rw [upd_ne hb] at e
      refine (I.hok b u e).stay (fun c v hc q => k c v ?_ q) (fun c q => by rw [upd_ne (ne_of_none q hn)]; exact q) fun c xs q => by rw [upd_ne (ne_of_none q hn)]; exact q
      rcases hc with z | z
      · rw [z]; exact nfp b u e
      · exact nfp c _ z
/-- records of ours at fp have turned -/
theorem Inv.turnedL {fp : List Addr} {h' : Heap} {t' : Nat} (I : Inv X pins σ H s) (hf : ∀ b ∈ fp, FpOk X pins H b) (k : ∀ b ob, b ∉ fp → s.heap.get? b = some ob → h'.get? b = some ob) : Inv X pins σ H { s with heap := h', toks := t' } := by
  have nfp : ∀ b u, H b = some u → b ∉ fp := fun b u e hb => by rw [(hf b hb).1] at e; cases e
  refine I.step (g' := s.gens) (d' := s.drawn) (ch := fp) (fun b hb => ⟨(hf b hb).2.2.2.1, (hf b hb).2.1, (hf b hb).2.2.2.2.1, (hf b hb).2.2.2.2.2⟩) (fun b ob _ _ hc e _ => k b ob hc e) (fun b ob _ _ hc e _ => ⟨ob.slots, k b ob hc e⟩)
    (fun _ _ _ _ n => n) (fun b ob hc e => ⟨ob, k b ob hc e⟩) (fun _ _ e => e) (fun _ _ _ e => e) (fun b ps e => ⟨#[], by rw [e]; simp⟩) (fun m hm => ?_) (fun b u e => ?_) I.bare
  · obtain ⟨ob, es, ep, ho, r⟩ := hm
    exact ⟨ob, es, ep, k _ ob (fun hb => (hf _ hb).2.1 rfl) ho, r⟩
  · refine (I.hok b u e).stay (fun c v hc q => k c v ?_ q) (fun _ q => q) fun _ _ q => q
    rcases hc with z | z
    · rw [z]; exact nfp b u e
    · exact nfp c _ z
end

/-- enumerate's own pair: a tuple, nothing said of a dict -/
def tupE (T : Addr) (xs : List V) : HO := .ext fun h => xs.length ≤ sizeLine ∧ ∃ its : List Value, Vals xs its ∧ IsTup h T its.toArray
theorem tupE_ok {P : Program} {w : World} {H : Hp} {h : Heap} {T : Addr} {xs : List V} (q : xs.length ≤ sizeLine ∧ ∃ its : List Value, Vals xs its ∧ IsTup h T its.toArray) : ObjOk P w H h T (tupE T xs) := by
  obtain ⟨z, its, r, o, e, c⟩ := id q
  exact ⟨q, ⟨o, e⟩, fun h1 h2 ⟨z', its', r', o', e', c'⟩ k => ⟨z', its', r', o', k _ e', c'⟩⟩
def gTupE (n : Nat) (t : TGs) : TG := fun v σ H Q => ∃ a xs, v = .ref a ∧ H a = some (tupE a xs) ∧ xs.length = n ∧ t xs σ H Q
theorem pg_tupE {es : List Expr} {k : Nat} {t : TGs} {n : Nat} {pos : Pos} (hc : X.calm = true) (h : PGs X es t)
    (hn : (assignEach es X.env).length = n := by rfl) (hst : (assignEach es X.env).findIdx? (·.1) = none := by rfl) : PG X (.Tuple es k pos) (gTupE n t) := by
  intro pins s σ H v u Q I r hw
  obtain ⟨a, xs, e1, hq, hl, hw⟩ := hw
  subst e1
  cases r
  obtain ⟨⟨hz, its, rv, ht⟩, _⟩ := I.hok a _ hq
  refine assign_Tuple_tuple (I.ok.hd hc) ht (by simp [hn, ← hl, rv.length]) hst fun h' hx => ?_
  have I1 : Inv X pins σ H { s with heap := h' } := I.kept (t' := s.toks) fun b o e => hx b o (Nat.ne_of_lt (Heap.lt_size e)) e
  exact h pins _ σ H xs _ Q I1 (by simpa using rv) hw
def Iten (sq : Hp → List V → Prop) : It :=
  ⟨fun i H => ∃ xs x, sq H xs ∧ xs[i]? = some x, fun i H x H' => ∃ T y, H T = none ∧ x = .ref T ∧ (∀ xs, sq H xs → xs[i]? = some y) ∧ H' = upd H T (tupE T [.int (i : Int), y]), fun i H => ∃ xs, sq H xs ∧ xs.length = i⟩

theorem ne_cls {h : Heap} {a b : Addr} {o u : Obj} (h1 : h.get? a = some o) (h2 : h.get? b = some u) (d : o.cls ≠ u.cls) : a ≠ b := by
  intro e; subst e; rw [h1] at h2; cases h2; exact d rfl

theorem turn_enum {P : Program} {w : World} {K : PySem.W.Frag} {elts : List Expr} {k : Nat} {pos : Pos} (sq : Hp → List V → Prop) (isq : Heap → Array Value → Prop) (isit : Nat → Heap → Prop) (e it : Addr)
    (obj : ∀ i h, isit i h → ∃ o, h.get? it = some o ∧ ∀ v, o.data ≠ .cell v) (keep : ∀ i h h', isit i h → (∀ o, h.get? it = some o → h'.get? it = some o) → isit i h')
    (rd : ∀ (X : Cx) (pins : List (Addr × Obj)) (σ : St) (H : Hp) (s : Shared) (xs : List V), X.K = K → Inv X pins σ H s → sq H xs → (∃ its : List Value, Vals xs its ∧ isq s.heap its.toArray) ∧ ∀ ys, sq H ys → ys = xs)
    (W : ∀ (A : Around) (items : Array Value) (h : Heap) (i : Nat), A.handled = none → isq h items → isit i h → (∃ old, IsEnum h e it i old) → ∃ fp Mid, WalksT P w A e fp [e, it] items.size (fun i vals => ∃ t x, items[i]? = some x ∧ vals = #[.int (i : Int) t, x])
      (fun i h => (∃ old, IsEnum h e it i old) ∧ isit i h ∧ isq h items) Mid) :
    Turn P w K (.Tuple elts k pos) (Iten sq) [e, it] e (fun i h => (∃ old, IsEnum h e it i old) ∧ isit i h) where
  mem := by simp
  obj := fun i h st b hb => by
    obtain ⟨⟨old, he⟩, q⟩ := st
    rcases List.mem_cons.mp hb with rfl | hb
    · exact ⟨_, he, fun v z => nomatch z⟩
    · rw [List.mem_singleton.mp hb]; exact obj i h q
  keep := fun i h h' st kp => ⟨let ⟨old, he⟩ := st.1; ⟨old, kp e (by simp) _ he⟩, keep i h h' st.2 fun o q => kp it (by simp) o q⟩
  item := by
    intro X hP hw hK hc i pins s σ H E I hf st hg
    subst hP hw
    obtain ⟨xs, x, hq, hx⟩ := hg
    obtain ⟨⟨its, rv, hL⟩, inj⟩ := rd X pins σ H s xs hK I hq
    obtain ⟨old, he⟩ := id st.1
    obtain ⟨oi, hoi, _⟩ := obj _ _ st.2
    have hlt : i < its.toArray.size := by
      have := (List.getElem?_eq_some_iff.mp hx).1
      rw [rv.length] at this; simpa using this
    obtain ⟨fp, Mid, W⟩ := W X.A its.toArray s.heap i (I.ok.hd hc) hL st.2 st.1
    refine W.item i s _ E hlt ⟨st.1, st.2, hL⟩ fun T vals h' tk hPt hT htup hMid hk => ⟨.ref T, rfl, ?_⟩
    refine W.go elts k pos i T _ _ E hMid fun h'' hSt hk2 => ?_
    obtain ⟨t, y', hy', rfl⟩ := hPt
    obtain ⟨u, hu, ry⟩ := rv.get hx
    have e1 : y' = u := by
      have : its[i]? = some y' := by simpa using hy'
      rw [hu] at this; exact (Option.some.inj this).symm
    subst e1
    have htup2 : IsTup h'' T #[.int (i : Int) t, y'] := by
      obtain ⟨o, q1, q2⟩ := htup
      exact ⟨o, hk2 T o (W.apart _ _ _ hMid) q1, q2⟩
    refine ⟨.ref T, upd H T (tupE T [.int (i : Int), x]), ?_, rfl, ⟨T, x, I.hok.fresh hT, rfl, fun zs hzs => by rw [inj zs hzs]; exact hx, rfl⟩, ⟨hSt.1, hSt.2.1⟩, fun b hb => ?_⟩
    · exact I.turnLaid (s := s) (h' := h'') (t' := tk) hf hT (fun b ob hb q => hk2 b ob hb (hk b ob hb q)) (tupE_ok ⟨by show 2 ≤ sizeLine; decide, [.int (i : Int) t, y'], .cons ⟨t, rfl⟩ (.cons ry .nil), htup2⟩)
    · have hbT : b ≠ T := fun z => by
        have : b < s.heap.objs.size := by
          rcases List.mem_cons.mp hb with rfl | hb
          · exact Heap.lt_size he
          · rw [List.mem_singleton.mp hb]; exact Heap.lt_size hoi
        exact absurd (Nat.lt_of_lt_of_le this hT) (by rw [z]; exact Nat.lt_irrefl _)
      rw [upd_ne hbT]; exact (hf b hb).1
  done := by
    intro X hP hw hK hc i pins s σ H E I hf st hs
    subst hP hw
    obtain ⟨xs, hq, hle⟩ := hs
    obtain ⟨⟨its, rv, hL⟩, inj⟩ := rd X pins σ H s xs hK I hq
    obtain ⟨fp, Mid, W⟩ := W X.A its.toArray s.heap i (I.ok.hd hc) hL st.2 st.1
    have hi : i = its.toArray.size := by rw [← hle, rv.length]; simp
    refine W.done s _ E (by rw [← hi]; exact ⟨st.1, st.2, hL⟩) fun h' tk hk => ⟨rfl, ?_⟩
    exact I.turnedL hf hk
  self := fun A i s Q E st h => by obtain ⟨⟨old, he⟩, _⟩ := st; exact wpAny_pyIter_enum he h

section
variable {X : Cx} {elts : List Expr} {k : Nat} {tpos : Pos}
def iEnumT (K : PySem.W.Frag) (ta : TA) : TI := fun σ H R => ta σ H fun vs H1 => ∃ a, vs = [.ref a] ∧ (∃ xs, SqT K H1 a xs) ∧ R (Iten fun H xs => SqT K H a xs) H1
theorem boot_enum : bootBuiltins "enumerate" = some (.type "enumerate") := by decide +kernel
theorem pi_enumT {l : Expr} {ta : TA} {p pos : Pos} (hg : Gl X "enumerate") (hm : X.mg "enumerate" = none) (ha : PA X [l] ta) (hs : starEach [l] X.env = [(false, eval l X.env)] := by rfl) :
    PI X (.Tuple elts k tpos) (.Call (.Name "enumerate" p) [l] [] pos) (iEnumT X.K ta) := by
  intro pins s σ H R I h
  refine Call_ (ld_blt I hg hm boot_enum (PyProof.Rows.callWith_type1 (thn (ha pos pins s σ H _ I h) fun us s1 ⟨vs, H1, I1, r1, q1⟩ => ?_) hs rfl))
  obtain ⟨a, rfl, ⟨xs, hq⟩, q⟩ := q1
  obtain ⟨u, rfl, ru⟩ := vals1 r1
  obtain rfl : u = Value.ref a := ru
  obtain ⟨its, rv, p, hz⟩ := I1.tuple hq
  refine call_enumerate_tuple (show s1.heap.IsTuple a its.toArray from p) fun h' he hit hsz hk => ?_
  refine wpAny_pyIter_enum he ?_
  have I2 : Inv X pins σ H1 { s1 with heap := h' } := I1.kept (t' := s1.toks) hk
  refine ⟨s1.heap.objs.size + 1, [s1.heap.objs.size + 1, s1.heap.objs.size], _, _, H1, rfl, I2, turn_enum (fun H xs => SqT X.K H a xs) (fun h its => h.IsTuple a its) (fun i h => h.IsTupleIter s1.heap.objs.size a i) (s1.heap.objs.size + 1) s1.heap.objs.size ?_ ?_ ?_ ?_, ⟨⟨_, he⟩, hit⟩, fun b hb => ?_, q⟩
  · rintro i h ⟨o, q1, q2, q3⟩
    exact ⟨o, q1, fun v z => by rw [q3] at z; cases z⟩
  · rintro i h h' ⟨o, q1, q2⟩ kp
    exact ⟨o, kp o q1, q2⟩
  · intro X' pins' σ' H' s' ys hK I' hq'
    rw [← hK] at hq'
    obtain ⟨its', rv', p', _⟩ := I'.tuple hq'
    exact ⟨⟨its', rv', p'⟩, fun zs hz => I'.tuple_inj (by rw [hK]; exact hz) hq'⟩
  · intro A items h i hh hL hI hE
    obtain ⟨old, hE⟩ := hE
    obtain ⟨ol, hol, hcl, _⟩ := id hL
    obtain ⟨oi, hoi, hci, _⟩ := id hI
    have hne : a ≠ s1.heap.objs.size := ne_cls hol hoi (by rw [hcl, hci]; decide)
    have hne2 : a ≠ s1.heap.objs.size + 1 := ne_cls hol hE (by rw [hcl]; show Value.type "tuple" ≠ Value.type "enumerate"; decide)
    exact ⟨_, _, WalksT.enumerateD (Draws_tuple (A := A.in1) hh s1.heap.objs.size a hne items) (s1.heap.objs.size + 1) (Nat.succ_ne_self _) (fun hm => (List.mem_cons.mp hm).elim (Nat.succ_ne_self _) fun hm => hne2 (List.mem_singleton.mp hm).symm) (by simp)⟩
  · rcases List.mem_cons.mp hb with rfl | hb
    · exact I1.fpOk (Nat.le_succ _) (I1.hok.fresh (Nat.le_succ _))
    · rw [List.mem_singleton.mp hb]; exact I1.fpOk (Nat.le_refl _) (I1.hok.fresh (Nat.le_refl _))
end
end L2
namespace L2
open PySem PySem.Spec PyProof.Rows

theorem rel_of_kind {P : Program} {w : World} {k : Key} {u : Value} (h : (mixKind P w).is k u = true) : RelV (kV k) u := by
  rcases keyIs_shape (show keyIs k u = true from h) with ⟨i, t, rfl, rfl⟩ | ⟨x, t, rfl, rfl⟩
  · exact ⟨t, rfl⟩
  · exact ⟨t, rfl⟩
section
variable {X : Cx} {elts : List Expr} {k : Nat} {tpos : Pos}
end

section
variable {X : Cx}
theorem call_all_bools (hc : X.calm = true) : CallR X (.builtin "all") (fun xs H Q => ∃ (p : Addr) (bs : List Bool), xs = [.ref p] ∧ SqL X.K H p (bs.map V.bl) ∧ Q (.bl (bs.all id)) H) := by
  intro pins s σ H xs us Q I r h
  obtain ⟨p, bs, rfl, hq, q⟩ := h
  obtain ⟨u, rfl, ru⟩ := vals1 r
  obtain rfl : u = Value.ref p := ru
  obtain ⟨its, rv, pl, hz⟩ := I.list hq
  have hL := pl.isList
  have hlt : p < s.heap.objs.size := by obtain ⟨o, ho, _⟩ := id hL; exact Heap.lt_size ho
  have hlen : its.length = bs.length := by rw [← rv.length]; simp
  refine call_all_walkS (wpAny_pyIter_list hL ⟨s.heap.objs.size, _, _, _, its.toArray.size, _, _, fun i => bs.getD i true, rfl, (Walks.list (A := X.A.in1) (I.ok.hd hc) s.heap.objs.size p (Nat.ne_of_lt hlt) its.toArray).toS, ⟨⟨_, Heap.get?_push_size _ rfl, rfl, rfl⟩, hL.push _⟩, ?_, fun s' hm => ?_⟩)
  · intro i v s2 Q2 E2 hP hQ
    have hv : its[i]? = some v := by simpa using hP
    have hi : i < bs.length := by rw [← hlen]; exact (List.getElem?_eq_some_iff.mp hv).1
    have hb : (bs.map V.bl)[i]? = some (.bl bs[i]) := by simp [hi]
    obtain ⟨u, hu, ru⟩ := rv.get hb
    rw [hv] at hu; cases hu
    obtain rfl : v = Value.bool bs[i] := ru
    have e : bs.getD i true = bs[i] := by simp [List.getD_eq_getElem?_getD, hi]
    simp only [e] at hQ
    exact wpAny_truthy_bool hQ
  · rw [Moved.eq_with hm]
    refine ⟨.bl _, H, I.kept (h' := s'.heap) (t' := s'.toks) fun b o e => hm.heap b o (fun z => ?_) (Heap.get?_push_of_some _ e), rfl, ?_⟩
    · exact absurd (Heap.lt_size e) (by rw [List.mem_singleton.mp z]; exact Nat.lt_irrefl _)
    · have e : (List.range its.toArray.size).all (fun i => bs.getD i true) = bs.all id := by
        have : its.toArray.size = bs.length := by simpa using hlen
        rw [this]
        apply Bool.eq_iff_iff.mpr
        simp only [List.all_eq_true, List.mem_range, id]
        constructor
        · intro h b hb
          obtain ⟨i, hi, rfl⟩ := List.mem_iff_getElem.mp hb
          have := h i hi
          simpa [List.getD_eq_getElem?_getD, hi] using this
        · intro h i hi
          have := h bs[i] (List.getElem_mem hi)
          simpa [List.getD_eq_getElem?_getD, hi] using this
      rw [e]; exact q
theorem call_range1 : CallR X (.type "range") (fun xs H Q => ∃ j : Int, xs = [.int j] ∧ ∀ r, H r = none → Q (.ref r) (upd H r (.rng 0 j))) := by
  intro pins s σ H xs us Q I r h
  obtain ⟨j, rfl, q⟩ := h
  obtain ⟨u, rfl, t, rfl⟩ := vals1 r
  refine call_range_1 ⟨.ref s.heap.objs.size, _, I.laid (a := s.heap.objs.size) (o := .rng 0 j) (fun _ _ e => Heap.get?_push_of_some _ e) (Nat.le_refl _) ⟨_, _, _, Heap.get?_push_size _ rfl⟩, rfl, q _ (I.hok.fresh (Nat.le_refl _))⟩
theorem call_list_rng (hc : X.calm = true) : CallR X (.type "list") (fun xs H Q => ∃ (r : Addr) (n : Nat), xs = [.ref r] ∧ H r = some (.rng 0 (n : Int)) ∧ n ≤ 1000 ∧ ∀ l, H l = none → Q (.ref l) (upd H l (.lst (nv (List.range n))))) := by
  intro pins s σ H xs us Q I r h
  obtain ⟨a, n, rfl, ha, hn, q⟩ := h
  obtain ⟨u, rfl, ru⟩ := vals1 r
  obtain rfl : u = Value.ref a := ru
  obtain ⟨t, u', v', e⟩ := (show ObjOk X.prog X.w H s.heap a (.rng 0 (n : Int)) from I.hok a _ ha)
  refine call_list_range (n := n) (I.ok.hd hc) (show IsRange s.heap a 0 (n : Int) 1 t u' v' from e) (small_one (by decide) (by decide) (by omega) (by omega)) (by rw [rangeSize_one]; split <;> omega) (by omega) fun h' tk acc c hk hacc hI => ?_
  refine ⟨.ref s.heap.objs.size, _, I.laid (a := s.heap.objs.size) (o := .lst (nv (List.range n))) (h' := h') (t' := tk) hk (Nat.le_refl _) ⟨?_, acc.toList, c, ?_, by simpa using hacc⟩, rfl, q _ (I.hok.fresh (Nat.le_refl _))⟩
  · rw [nv_len, List.length_range]; exact Nat.le_of_lt (small1000 hn)
  · obtain ⟨hsz, hi⟩ := hI
    have key : ∀ (m : Nat) (l : List Value), l.length = m → (∀ (j : Nat) (v : Value), l[j]? = some v → ∃ t, v = Value.int ((0 : Int) + (j : Nat) * 1) t) → Vals (nv (List.range m)) l := by
      intro m
      induction m with
      | zero => intro l hl _; rw [List.length_eq_zero_iff.mp hl]; exact .nil
      | succ m ih =>
        intro l hl hv
        have hne : l ≠ [] := by intro e; rw [e] at hl; simp at hl
        rw [← List.dropLast_concat_getLast hne, List.range_succ]
        have e1 : nv (List.range m ++ [m]) = nv (List.range m) ++ nv [m] := by simp [nv]
        rw [e1]
        refine Vals.append (ih l.dropLast (by simp [hl]) fun j v hj => ?_) (.cons ?_ .nil)
        · have hjl : j < l.dropLast.length := (List.getElem?_eq_some_iff.mp hj).1
          refine hv j v ?_
          rw [List.getElem?_dropLast] at hj
          split at hj
          · exact hj
          · cases hj
        · obtain ⟨t, e⟩ := hv m (l.getLast hne) (by rw [List.getLast_eq_getElem, ← List.getElem?_eq_getElem]; congr 1; omega)
          exact ⟨t, by rw [e]; congr 1; omega⟩
    exact key n acc.toList (by simpa using hsz) fun j v hj => hi j v (by simpa using hj)

/-- what may be sorted: a list, a tuple, the keys of a dict -/
def SortSrc (K : PySem.W.Frag) (H : Hp) (p : Addr) (r : List Nat) : Prop := SqL K H p (nv r) ∨ SqT K H p (nv r) ∨ ∃ kvs, H p = some (.dK kvs) ∧ kvs.map (·.1) = r.map fun (n : Nat) => Sum.inl (n : Int)
theorem ints_nv : ∀ {r : List Nat} {us : List Value}, Vals (nv r) us → IntsAre us (r.map fun (n : Nat) => (n : Int)) := fun {r us} h => intsAre_of (by rw [List.map_map]; exact h)
theorem nats_of {ms : List Int} {r : List Nat} (p : ms.Perm (r.map fun (n : Nat) => (n : Int))) (so : ms.Pairwise (· ≤ ·)) : ∃ S : List Nat, ms = S.map (fun (n : Nat) => (n : Int)) ∧ S.Perm r ∧ S.Pairwise (· ≤ ·) := by
  have hn : ∀ m ∈ ms, 0 ≤ m := fun m hm => by
    obtain ⟨n, _, rfl⟩ := List.mem_map.mp (p.mem_iff.mp hm)
    exact Int.natCast_nonneg n
  have e : ms = (ms.map Int.toNat).map fun (n : Nat) => (n : Int) := by
    rw [List.map_map]
    conv => lhs; rw [← List.map_id ms]
    exact List.map_congr_left fun m hm => by simp [Int.toNat_of_nonneg (hn m hm)]
  refine ⟨ms.map Int.toNat, e, ?_, ?_⟩
  · have := p.map Int.toNat
    rw [List.map_map] at this
    have e2 : r.map (Int.toNat ∘ fun (n : Nat) => (n : Int)) = r := by
      conv => rhs; rw [← List.map_id r]
      exact List.map_congr_left fun m _ => by simp
    rw [e2] at this; exact this
  · exact List.pairwise_map.mpr (so.imp_of_mem fun ha hb h => by have := hn _ ha; have := hn _ hb; omega)
theorem vals_of_ints {us : List Value} {S : List Nat} (h : IntsAre us (S.map fun (n : Nat) => (n : Int))) : Vals (nv S) us := by
  have := vals_ints h
  rw [List.map_map] at this
  exact this
def rSorted (K : PySem.W.Frag) : List V → Hp → VK → Prop := fun xs H Q => ∃ (p : Addr) (r : List Nat), xs = [.ref p] ∧ SortSrc K H p r ∧ r.length < 64 ∧ ∀ l S, H l = none → S.Perm r → S.Pairwise (· ≤ ·) → Q (.ref l) (upd H l (.lst (nv S)))
theorem call_sorted (hc : X.calm = true) : CallR X (.builtin "sorted") (rSorted X.K) := by
  intro pins s σ H xs us Q I rr h
  obtain ⟨p, r, rfl, src, h64, q⟩ := h
  obtain ⟨u, rfl, ru⟩ := vals1 rr
  obtain rfl : u = Value.ref p := ru
  have hh := I.ok.hd hc
  have fin : ∀ (vs : List Value), IntsAre vs (r.map fun (n : Nat) => (n : Int)) →
      (∀ (A : Around) (R : List Value → Shared → Prop), A.handled = none → (∀ vs ns' h' tk, IntsAre vs ns' → ns' = (r.map fun (n : Nat) => (n : Int)) → (∀ b o, s.heap.get? b = some o → h'.get? b = some o) → R vs { s with heap := h', toks := tk }) → wpAny (model X.prog X.w) A (collect (.ref p)) R X.xe s) →
      wpAny (model X.prog X.w) X.A (call (.builtin "sorted") [.ref p]) (EP X pins σ Q) X.xe s := by
    intro vs hI hcol
    refine sorted_by hI (by rw [hI.length, List.length_map]; exact h64) hcol hh fun h1 h2 tk e out ns' a1 a2 a3 hk ho hk2 => ?_
    obtain ⟨S, rfl, pS, sS⟩ := nats_of a2 a3
    have I1 : Inv X pins σ H { s with heap := h1, toks := tk } := I.kept hk
    have hlen : S.length < 64 := by rw [pS.length_eq]; exact h64
    refine ⟨.ref h1.objs.size, _, I1.laid (a := h1.objs.size) (o := .lst (nv S)) (h' := h2) (t' := tk) hk2 (Nat.le_refl _) ⟨?_, out.toList, e, vals_of_ints a1, by simpa using ho⟩, rfl, q _ S (I1.hok.fresh (Nat.le_refl _)) pS sS⟩
    rw [nv_len]; exact Nat.le_of_lt (small1000 (by omega))
  rcases src with hq | hq | ⟨kvs, hd, hkeys⟩
  · obtain ⟨its, rv, pl, hz⟩ := I.list hq
    refine fin its (ints_nv rv) fun A R hA hR => ?_
    refine collect_list pl.isList (hR its _ _ s.toks (ints_nv rv) rfl fun b o e => ?_) (by rw [← rv.length]; exact hz)
    exact (Heap.get?_update_other _ _ (Nat.ne_of_gt (Heap.lt_size e))).trans (Heap.get?_push_of_some _ e)
  · obtain ⟨its, rv, pl, hz⟩ := I.tuple hq
    refine fin its (ints_nv rv) fun A R hA hR => ?_
    exact collect_tup (show s.heap.IsTuple p its.toArray from pl) (by rw [← rv.length]; exact hz) fun h' hk => hR its _ _ s.toks (ints_nv rv) rfl hk
  · obtain ⟨z, hs, vs, rv, dd⟩ := dk_of I.hok hd
    obtain ⟨ep, da⟩ := dd.dictAt
    have hks : vs.map (·.1) = r.map fun (n : Nat) => Sum.inl (n : Int) := by rw [← rv.keys]; exact hkeys
    have key : ∀ (l : List Value), l.length = vs.length → (∀ (j : Nat) (v : Value), l[j]? = some v → ∃ k x, vs[j]? = some (k, x) ∧ (mixKind X.prog X.w).is k v = true) → IntsAre l (r.map fun (n : Nat) => (n : Int)) := by
      intro l hl hj
      refine ints_nv ?_
      have hlr : l.length = r.length := by rw [hl]; simpa using congrArg List.length hks
      have : ∀ (r' : List Nat) (l' : List Value), l'.length = r'.length → (∀ (j : Nat) (v : Value), l'[j]? = some v → ∃ n, r'[j]? = some n ∧ ∃ t, v = Value.int (n : Int) t) → Vals (nv r') l' := by
        intro r'
        induction r' with
        | nil => intro l' hl _; rw [List.length_eq_zero_iff.mp hl]; exact .nil
        | cons n r' ih =>
          intro l' hl hj
          cases l' with
          | nil => simp at hl
          | cons v l' =>
            obtain ⟨m, em, t, ev⟩ := hj 0 v rfl
            simp at em
            subst em
            exact .cons ⟨t, ev⟩ (ih l' (by simpa using hl) fun j v hv => by simpa using hj (j + 1) v (by simpa using hv))
      refine this r l hlr fun j v hv => ?_
      obtain ⟨k, x, e1, e2⟩ := hj j v hv
      have e3 : (r.map fun (n : Nat) => (Sum.inl (n : Int) : Key))[j]? = some k := by rw [← hks, List.getElem?_map, e1]; rfl
      rw [List.getElem?_map] at e3
      cases en : r[j]? with
      | none => rw [en] at e3; cases e3
      | some n =>
        rw [en] at e3
        have e4 : (Sum.inl (n : Int) : Key) = k := Option.some.inj e3
        subst e4
        obtain ⟨t, et⟩ := (show ∃ t, v = Value.int (n : Int) t from rel_of_kind e2)
        exact ⟨n, rfl, t, et⟩
    obtain ⟨l0, hl0, hj0⟩ : ∃ l : List Value, l.length = vs.length ∧ ∀ (j : Nat) (v : Value), l[j]? = some v → ∃ k x, vs[j]? = some (k, x) ∧ (mixKind X.prog X.w).is k v = true := by
      refine ⟨vs.map fun kv => match kv.1 with | Sum.inl i => Value.int i 0 | Sum.inr x => Value.str x 0, by simp, fun j v hv => ?_⟩
      rw [List.getElem?_map] at hv
      cases e : vs[j]? with
      | none => rw [e] at hv; cases hv
      | some kv =>
        rw [e] at hv
        obtain ⟨k, x⟩ := kv
        refine ⟨k, x, rfl, ?_⟩
        cases k with
        | inl i => cases hv; exact mixKind_int _ _ i 0
        | inr x => cases hv; exact mixKind_str _ _ x 0
    refine fin l0 (key l0 hl0 hj0) fun A R hA hR => ?_
    refine PySem.W.kdu_collect (PySem.W.kdl_dict (knd := mixKind X.prog X.w) (kvs := vs) (ep := ep) hs) hA da (by rw [← rv.length]; exact z) fun h' tk acc hk hacc => ?_
    exact hR acc.toList _ h' tk (key acc.toList (by simpa using hacc.1) fun j v hv => hacc.2 j v (by simpa using hv)) rfl hk

end
end L2
namespace L2
open PySem PySem.Spec PyProof.Rows
/-- for i, x in enumerate(xs), xs left as it is -/
theorem for_en {sq : Hp → List V → Prop} {xs : List V} {g : TG} {tb : TS} {D : Ends} {σ : St} {H : Hp} (Pv : Nat → St → Hp → Prop) (h0 : Pv 0 σ H) (hl : ∀ i σ H, i ≤ xs.length → Pv i σ H → sq H xs)
    (hs : ∀ i x σ H T, xs[i]? = some x → H T = none → Pv i σ H → g (.ref T) σ (upd H T (tupE T [.int (i : Int), x])) fun σ2 H2 => tb { D with nx := Pv (i + 1), ct := Pv (i + 1), bk := D.nx } σ2 H2) (hd : ∀ σ H, Pv xs.length σ H → D.nx σ H) :
    ∃ W : Nat → Nat → St → Hp → Prop, (∃ m, W 0 m σ H) ∧ ∀ i m σ H, W i m σ H →
      ((Iten sq).stop i H ∧ D.nx σ H) ∨ ((Iten sq).go i H ∧ ∃ N : St → Hp → Prop, (∀ σ' H', N σ' H' → ∃ m', m' < m ∧ W (i + 1) m' σ' H') ∧ ∀ x H', (Iten sq).yld i H x H' → g x σ H' fun σ2 H2 => tb { D with nx := N, ct := N, bk := D.nx } σ2 H2) := by
  refine ⟨fun i m σ H => m = xs.length - i ∧ i ≤ xs.length ∧ Pv i σ H, ⟨xs.length, by simp, Nat.zero_le _, h0⟩, ?_⟩
  rintro i m σ H ⟨rfl, hi, p⟩
  have q := hl i σ H hi p
  by_cases hlt : i < xs.length
  · refine .inr ⟨⟨xs, xs[i], q, by simp [hlt]⟩, Pv (i + 1), fun σ' H' p' => ⟨xs.length - (i + 1), by omega, rfl, hlt, p'⟩, fun x H' y => ?_⟩
    obtain ⟨T, z, hT, rfl, hz, rfl⟩ := y
    exact hs i z σ H T (hz xs q) hT p
  · have e : i = xs.length := by omega
    subst e
    exact .inl ⟨⟨xs, q, rfl⟩, hd σ H p⟩
/-- behind an element of a comprehension: n in all, ys the list that comes -/
def CPost (n : Nat) (ys : List V) (Pv : Nat → St → Hp → Prop) (d : Addr) (i : Nat) (σ3 : St) (y : V) (H4 : Hp) : Prop :=
  ∃ xs, H4 d = some (.lst xs) ∧ xs.length < sizeLine ∧ ∃ m', m' < n - i ∧ m' = n - (i + 1) ∧ i + 1 ≤ n ∧ Pv (i + 1) σ3 (upd H4 d (.lst (xs ++ [y]))) ∧ (upd H4 d (.lst (xs ++ [y]))) d = some (.lst (ys.take (i + 1)))
theorem cpost {n : Nat} {ys : List V} {Pv : Nat → St → Hp → Prop} {d : Addr} {i : Nat} {σ3 : St} {y : V} {H4 : Hp} (hi : i < n) (hn : n ≤ 1000) (hd : H4 d = some (.lst (ys.take i))) (hy : ys[i]? = some y) (hp : Pv (i + 1) σ3 (upd H4 d (.lst (ys.take (i + 1))))) :
    CPost n ys Pv d i σ3 y H4 := by
  have e : ys.take (i + 1) = ys.take i ++ [y] := by rw [List.take_add_one, hy]; rfl
  refine ⟨_, hd, ?_, n - (i + 1), by omega, rfl, hi, by rw [← e]; exact hp, by rw [upd_same, e]⟩
  have : (ys.take i).length ≤ i := by rw [List.length_take]; exact Nat.min_le_left _ _
  exact small1000 (by omega)
theorem comp_by {J : It} {g : TG} {te : TE} {d : Addr} {σ0 : St} {H1 : Hp} {Q : Addr → Hp → Prop} (n : Nat) (ys : List V) (hy : ys.length = n) (Pv : Nat → St → Hp → Prop) (h0 : Pv 0 σ0 (upd H1 d (.lst [])))
    (go : ∀ i σ H, i < n → Pv i σ H → H d = some (.lst (ys.take i)) → J.go i H ∧ ∀ x H2, J.yld i H x H2 → g x σ H2 fun σ3 H3 => te σ3 H3 fun y H4 => CPost n ys Pv d i σ3 y H4)
    (stop : ∀ σ H, Pv n σ H → H d = some (.lst ys) → J.stop n H ∧ Q d H) :
    ∃ W : Nat → Nat → St → Hp → Prop, (∃ m, W 0 m σ0 (upd H1 d (.lst []))) ∧ ∀ i m σ' H', W i m σ' H' →
      (J.stop i H' ∧ Q d H') ∨ (J.go i H' ∧ ∀ x H2, J.yld i H' x H2 → g x σ' H2 fun σ3 H3 => te σ3 H3 fun y H4 => ∃ xs, H4 d = some (.lst xs) ∧ xs.length < sizeLine ∧ ∃ m', m' < m ∧ W (i + 1) m' σ3 (upd H4 d (.lst (xs ++ [y])))) := by
  refine ⟨fun i m σ H => m = n - i ∧ i ≤ n ∧ Pv i σ H ∧ H d = some (.lst (ys.take i)), ⟨n, by simp, Nat.zero_le _, h0, upd_same⟩, ?_⟩
  rintro i m σ H ⟨rfl, hi, p, hd⟩
  by_cases hlt : i < n
  · exact .inr (go i σ H hlt p hd)
  · have e : i = n := by omega
    subst e
    rw [List.take_of_length_le (by omega)] at hd
    exact .inl (stop σ H p hd)
end L2
namespace Sq

theorem sub_len {α : Type} [DecidableEq α] : ∀ (l l' : List α), l.Nodup → (∀ x ∈ l, x ∈ l') → l.length ≤ l'.length
  | [], _, _, _ => Nat.zero_le _
  | a :: l, l', nd, h => by
    have nd' := List.nodup_cons.mp nd
    have ha : a ∈ l' := h a List.mem_cons_self
    have := sub_len l (l'.erase a) nd'.2 fun x hx => by
      have hne : x ≠ a := fun e => nd'.1 (e ▸ hx)
      exact (List.mem_erase_of_ne hne).mpr (h x (List.mem_cons_of_mem _ hx))
    rw [List.length_erase_of_mem ha] at this
    have := List.length_pos_of_mem ha
    simp only [List.length_cons]; omega

theorem full {α : Type} [DecidableEq α] {l l' : List α} (nd : l.Nodup) (h : ∀ x ∈ l, x ∈ l') (hl : l'.length ≤ l.length) : ∀ x ∈ l', x ∈ l := fun x hx => by
  refine Classical.byContradiction fun hn => ?_
  have h1 : (x :: l).Nodup := List.nodup_cons.mpr ⟨hn, nd⟩
  have h2 := sub_len (x :: l) l' h1 fun y hy => by
    rcases List.mem_cons.mp hy with rfl | hy
    · exact hx
    · exact h y hy
  simp only [List.length_cons] at h2; omega

theorem nd_inj {α : Type} {l : List α} (nd : l.Nodup) {i j : Nat} (hi : i < l.length) (hj : j < l.length) (e : l[i] = l[j]) : i = j := by
  have h := List.pairwise_iff_getElem.mp nd
  rcases Nat.lt_trichotomy i j with c | c | c
  · exact absurd e (h i j hi hj c)
  · exact c
  · exact absurd e.symm (h j i hj hi c)

/-- a row of n squares: each stands once -/
structure Row (n : Nat) (r : List Nat) : Prop where
  len : r.length = n
  nd : r.Nodup
  lt : ∀ x ∈ r, x < n

abbrev nx (r : List Nat) (x : Nat) : Nat := r.getD x 0

section
variable {n : Nat} {r : List Nat}
theorem Row.get (h : Row n r) {i : Nat} (hi : i < n) : r[i]? = some (nx r i) := by
  have : i < r.length := by rw [h.len]; exact hi
  simp [nx, List.getD, List.getElem?_eq_getElem this]
theorem Row.mem (h : Row n r) {i : Nat} (hi : i < n) : nx r i ∈ r := List.mem_of_getElem? (h.get hi)
theorem Row.nlt (h : Row n r) {i : Nat} (hi : i < n) : nx r i < n := h.lt _ (h.mem hi)
theorem Row.has (h : Row n r) {x : Nat} (hx : x < n) : x ∈ r := by
  refine full h.nd (l' := List.range n) (fun y hy => List.mem_range.mpr (h.lt y hy)) (by simp [h.len]) x (List.mem_range.mpr hx)
theorem Row.inj (h : Row n r) {i j : Nat} (hi : i < n) (hj : j < n) (e : nx r i = nx r j) : i = j := by
  have h1 : i < r.length := by rw [h.len]; exact hi
  have h2 : j < r.length := by rw [h.len]; exact hj
  have e' : r[i] = r[j] := by simpa [nx, List.getD, List.getElem?_eq_getElem h1, List.getElem?_eq_getElem h2] using e
  exact nd_inj h.nd h1 h2 e'
theorem Row.onto (h : Row n r) {x : Nat} (hx : x < n) : ∃ i, i < n ∧ nx r i = x := by
  obtain ⟨i, hi, e⟩ := List.mem_iff_getElem.mp (h.has hx)
  exact ⟨i, by rw [← h.len]; exact hi, by simp [nx, List.getD, List.getElem?_eq_getElem hi, e]⟩
theorem Row.idx_lt (h : Row n r) {x : Nat} (hx : x < n) : r.idxOf x < n := by
  have := List.idxOf_lt_length_of_mem (h.has hx)
  rwa [h.len] at this
theorem Row.nx_idx (h : Row n r) {x : Nat} (hx : x < n) : nx r (r.idxOf x) = x := by
  have h1 := List.idxOf_lt_length_of_mem (h.has hx)
  simp [nx, List.getD, List.getElem?_eq_getElem h1]
theorem Row.idx_nx (h : Row n r) {i : Nat} (hi : i < n) : r.idxOf (nx r i) = i :=
  h.inj (h.idx_lt (h.nlt hi)) hi (h.nx_idx (h.nlt hi))
theorem Row.of_perm {l : List Nat} (p : l.Perm (List.range n)) : Row n l where
  len := by simpa using p.length_eq
  nd := p.nodup_iff.mpr List.nodup_range
  lt := fun x hx => List.mem_range.mp (p.mem_iff.mp hx)
end

/-- the row turned round -/
def back (r : List Nat) : List Nat := (List.range r.length).map fun x => r.idxOf x
theorem back_len (r : List Nat) : (back r).length = r.length := by simp [back]
theorem back_nx {n : Nat} {r : List Nat} (h : Row n r) {x : Nat} (hx : x < n) : nx (back r) x = r.idxOf x := by
  have : x < r.length := by rw [h.len]; exact hx
  simp [nx, back, List.getD, this]
theorem Row.back {n : Nat} {r : List Nat} (h : Row n r) : Row n (back r) where
  len := by rw [back_len, h.len]
  nd := by
    refine List.pairwise_map.mpr (List.Pairwise.imp_of_mem (fun {a b} ha hb hne e => hne ?_) (List.nodup_range (n := r.length)))
    rw [h.len] at ha hb
    have ha := List.mem_range.mp ha
    have hb := List.mem_range.mp hb
    rw [← h.nx_idx ha, e, h.nx_idx hb]
  lt := fun x hx => by
    obtain ⟨y, hy, rfl⟩ := List.mem_map.mp hx
    rw [h.len] at hy
    exact h.idx_lt (List.mem_range.mp hy)

/-- a set of squares that right and up do not leave -/
def Shut (n : Nat) (r u : List Nat) (T : Nat → Prop) : Prop := ∀ x, x < n → T x → T (nx r x) ∧ T (nx u x)

/-- a sheet -/
structure Sheet (n : Nat) (r u : List Nat) : Prop where
  pos : 1 ≤ n
  most : n ≤ 36
  row : Row n r
  col : Row n u
  conn : ∀ T : Nat → Prop, T 0 → Shut n r u T → ∀ x, x < n → T x

theorem pop_perm {n : Nat} {line left : List Nat} {k : Nat} {y : Nat} (p : (line ++ left).Perm (List.range n)) (e : left[k]? = some y) :
    ((line ++ [y]) ++ left.eraseIdx k).Perm (List.range n) := by
  refine List.Perm.trans ?_ p
  rw [List.append_assoc]
  refine List.Perm.append_left _ ?_
  have hk : k < left.length := (List.getElem?_eq_some_iff.mp e).1
  have hy : left[k] = y := (List.getElem?_eq_some_iff.mp e).2
  have h1 : left = left.take k ++ left[k] :: left.drop (k + 1) := by
    rw [← List.drop_eq_getElem_cons hk, List.take_append_drop]
  rw [List.eraseIdx_eq_take_drop_succ]
  conv => rhs; rw [h1, hy]
  exact (List.perm_middle (a := y) (l₁ := left.take k) (l₂ := left.drop (k + 1))).symm

structure Met (n : Nat) (r u : List Nat) (first : Nat) (M : List Nat) (k : Nat) : Prop where
  nd : M.Nodup
  hd : first ∈ M
  lt : ∀ x ∈ M, x < n
  kle : k ≤ M.length
  shut : ∀ i x, i < k → M[i]? = some x → nx r x ∈ M ∧ nx u x ∈ M
  least : ∀ T : Nat → Prop, T first → Shut n r u T → ∀ x ∈ M, T x
theorem Met.len {n : Nat} {r u : List Nat} {first : Nat} {M : List Nat} {k : Nat} (h : Met n r u first M k) : M.length ≤ n := by
  have := sub_len M (List.range n) h.nd fun x hx => List.mem_range.mpr (h.lt x hx)
  simpa using this
theorem Met.start {n : Nat} {r u : List Nat} {first : Nat} (h : first < n) : Met n r u first [first] 0 where
  nd := by simp
  hd := by simp
  lt := fun x hx => by rw [List.mem_singleton.mp hx]; exact h
  kle := Nat.zero_le _
  shut := fun i x hi => absurd hi (Nat.not_lt_zero _)
  least := fun T h0 _ x hx => by rw [List.mem_singleton.mp hx]; exact h0
/-- put at the end where it is not there yet -/
def put (M : List Nat) (y : Nat) : List Nat := if y ∈ M then M else M ++ [y]
theorem mem_put {M : List Nat} {y x : Nat} : x ∈ put M y ↔ x ∈ M ∨ x = y := by
  unfold put; split
  · rename_i h; exact ⟨.inl, fun q => q.elim id fun e => e ▸ h⟩
  · simp
theorem put_get {M : List Nat} {y x : Nat} {i : Nat} (h : M[i]? = some x) : (put M y)[i]? = some x := by
  unfold put; split
  · exact h
  · rw [List.getElem?_append_left (List.getElem?_eq_some_iff.mp h).1]; exact h
theorem put_len {M : List Nat} {y : Nat} : M.length ≤ (put M y).length := by
  unfold put; split <;> simp
theorem put_nd {M : List Nat} {y : Nat} (h : M.Nodup) : (put M y).Nodup := by
  unfold put; split
  · exact h
  · rename_i hy; exact List.nodup_append.mpr ⟨h, by simp, fun a ha b hb e => hy (by rw [List.mem_singleton.mp hb] at e; exact e ▸ ha)⟩
theorem Met.step {n : Nat} {r u : List Nat} {first : Nat} {M : List Nat} {k x : Nat} (h : Met n r u first M k) (hr : Row n r) (hu : Row n u) (hx : M[k]? = some x) :
    Met n r u first (put (put M (nx r x)) (nx u x)) (k + 1) where
  nd := put_nd (put_nd h.nd)
  hd := mem_put.mpr (.inl (mem_put.mpr (.inl h.hd)))
  lt := fun y hy => by
    have hxn := h.lt x (List.mem_of_getElem? hx)
    rcases mem_put.mp hy with hy | rfl
    · rcases mem_put.mp hy with hy | rfl
      · exact h.lt y hy
      · exact hr.nlt hxn
    · exact hu.nlt hxn
  kle := by
    have := (List.getElem?_eq_some_iff.mp hx).1
    have h1 := put_len (M := M) (y := nx r x)
    have h2 := put_len (M := put M (nx r x)) (y := nx u x)
    omega
  shut := fun i y hi hy => by
    have hk := (List.getElem?_eq_some_iff.mp hx).1
    have hi' : i < M.length := by omega
    have e : M[i]? = some M[i] := List.getElem?_eq_getElem hi'
    have e2 := put_get (y := nx u x) (put_get (y := nx r x) e)
    rw [hy] at e2
    have e3 : y = M[i] := Option.some.inj e2
    rw [← e3] at e
    rcases Nat.lt_or_ge i k with hlt | hge
    · obtain ⟨a, b⟩ := h.shut i y hlt e
      exact ⟨mem_put.mpr (.inl (mem_put.mpr (.inl a))), mem_put.mpr (.inl (mem_put.mpr (.inl b)))⟩
    · have : i = k := by omega
      subst this
      rw [hx] at e
      cases e
      exact ⟨mem_put.mpr (.inl (mem_put.mpr (.inr rfl))), mem_put.mpr (.inr rfl)⟩
  least := fun T h0 hs y hy => by
    have hxM := List.mem_of_getElem? hx
    have hxn := h.lt x hxM
    have hT := h.least T h0 hs x hxM
    rcases mem_put.mp hy with hy | rfl
    · rcases mem_put.mp hy with hy | rfl
      · exact h.least T h0 hs y hy
      · exact (hs x hxn hT).1
    · exact (hs x hxn hT).2
/-- all that is met -/
structure MetAll (n : Nat) (r u : List Nat) (first : Nat) (M : List Nat) : Prop where
  nd : M.Nodup
  hd : first ∈ M
  lt : ∀ x ∈ M, x < n
  shut : ∀ x ∈ M, nx r x ∈ M ∧ nx u x ∈ M
  least : ∀ T : Nat → Prop, T first → Shut n r u T → ∀ x ∈ M, T x
theorem Met.all {n : Nat} {r u : List Nat} {first : Nat} {M : List Nat} {k : Nat} (h : Met n r u first M k) (hk : M.length ≤ k) : MetAll n r u first M where
  nd := h.nd
  hd := h.hd
  lt := h.lt
  shut := fun x hx => by
    obtain ⟨i, hi, e⟩ := List.mem_iff_getElem.mp hx
    exact h.shut i x (by omega) (by rw [List.getElem?_eq_getElem hi, e])
  least := h.least
theorem MetAll.perm {n : Nat} {r u : List Nat} {first : Nat} {M S : List Nat} (h : MetAll n r u first M) (p : S.Perm M) : MetAll n r u first S where
  nd := p.nodup_iff.mpr h.nd
  hd := p.mem_iff.mpr h.hd
  lt := fun x hx => h.lt x (p.mem_iff.mp hx)
  shut := fun x hx => ⟨p.mem_iff.mpr (h.shut x (p.mem_iff.mp hx)).1, p.mem_iff.mpr (h.shut x (p.mem_iff.mp hx)).2⟩
  least := fun T h0 hs x hx => h.least T h0 hs x (p.mem_iff.mp hx)
def among (r S : List Nat) : List Nat := S.map fun x => S.idxOf (nx r x)
theorem among_len (r S : List Nat) : (among r S).length = S.length := by simp [among]
theorem among_nx {r S : List Nat} {i : Nat} {x : Nat} (h : S[i]? = some x) : nx (among r S) i = S.idxOf (nx r x) := by
  simp [nx, among, List.getD, h]
theorem idx_get {S : List Nat} (nd : S.Nodup) {i x : Nat} (h : S[i]? = some x) : S.idxOf x = i := by
  obtain ⟨hi, e⟩ := List.getElem?_eq_some_iff.mp h
  have hm : x ∈ S := List.mem_of_getElem? h
  have h1 := List.idxOf_lt_length_of_mem hm
  have e1 : S[S.idxOf x] = x := List.getElem_idxOf h1
  exact nd_inj nd h1 hi (e1.trans e.symm)
theorem get_idx {S : List Nat} {x : Nat} (h : x ∈ S) : S[S.idxOf x]? = some x := by
  have h1 := List.idxOf_lt_length_of_mem h
  rw [List.getElem?_eq_getElem h1, List.getElem_idxOf h1]
theorem among_row {n : Nat} {r S : List Nat} (hr : Row n r) (nd : S.Nodup) (lt : ∀ x ∈ S, x < n) (cl : ∀ x ∈ S, nx r x ∈ S) : Row S.length (among r S) where
  len := among_len r S
  nd := by
    refine List.pairwise_map.mpr (List.Pairwise.imp_of_mem (fun {a b} ha hb hne e => hne ?_) nd)
    have h1 := get_idx (cl a ha)
    rw [e, get_idx (cl b hb)] at h1
    exact hr.inj (lt a ha) (lt b hb) (Option.some.inj h1).symm
  lt := fun x hx => by
    obtain ⟨y, hy, rfl⟩ := List.mem_map.mp hx
    exact List.idxOf_lt_length_of_mem (cl y hy)
theorem among_sheet {n : Nat} {r u S : List Nat} (hn : n ≤ 36) (hr : Row n r) (hu : Row n u) (h : MetAll n r u 0 S) (so : S.Pairwise (· ≤ ·)) : Sheet S.length (among r S) (among u S) where
  pos := List.length_pos_of_mem h.hd
  most := by
    have := sub_len S (List.range n) h.nd fun x hx => List.mem_range.mpr (h.lt x hx)
    simp only [List.length_range] at this; omega
  row := among_row hr h.nd h.lt fun x hx => (h.shut x hx).1
  col := among_row hu h.nd h.lt fun x hx => (h.shut x hx).2
  conn := fun T h0 hs i hi => by
    have z : S[0]? = some 0 := by
      cases S with
      | nil => exact absurd h.hd (by simp)
      | cons a S =>
        rcases List.mem_cons.mp h.hd with e | hm
        · simp [← e]
        · have := (List.pairwise_cons.mp so).1 0 hm
          have : a = 0 := by omega
          simp [this]
    have key := h.least (fun x => x ∈ S ∧ T (S.idxOf x)) ⟨h.hd, by rw [idx_get h.nd z]; exact h0⟩ fun x _ ⟨hx, t⟩ => by
      have hlt := List.idxOf_lt_length_of_mem hx
      have := hs (S.idxOf x) hlt t
      rw [among_nx (get_idx hx), among_nx (get_idx hx)] at this
      exact ⟨⟨(h.shut x hx).1, this.1⟩, (h.shut x hx).2, this.2⟩
    have e : S[i]? = some S[i] := List.getElem?_eq_getElem hi
    have := (key S[i] (List.getElem_mem hi)).2
    rwa [idx_get h.nd e] at this

theorem sorted_unique : ∀ {l l' : List Nat}, l.Perm l' → l.Pairwise (· ≤ ·) → l'.Pairwise (· ≤ ·) → l = l'
  | [], l', p, _, _ => (List.nil_perm.mp p).symm
  | a :: l, [], p, _, _ => absurd p.length_eq (by simp)
  | a :: l, b :: l', p, h, h' => by
    have ha := List.pairwise_cons.mp h
    have hb := List.pairwise_cons.mp h'
    have e : a = b := by
      have h1 : a ∈ b :: l' := p.mem_iff.mp List.mem_cons_self
      have h2 : b ∈ a :: l := p.mem_iff.mpr List.mem_cons_self
      rcases List.mem_cons.mp h1 with e | h1
      · exact e
      · rcases List.mem_cons.mp h2 with e | h2
        · exact e.symm
        · have := hb.1 a h1
          have := ha.1 b h2
          omega
    subst e
    rw [sorted_unique (List.Perm.cons_inv p) ha.2 hb.2]
theorem range_sorted (n : Nat) : (List.range n).Pairwise (· ≤ ·) := List.Pairwise.imp (fun h => Nat.le_of_lt h) List.pairwise_lt_range
end Sq
namespace Sq
variable {n : Nat} {r u : List Nat} {first : Nat} {F : List Nat} {P : List (List Nat)} {k j : Nat}
end Sq
namespace K1
open PySem L2
def top (i : Nat) : Stmt := PySem.Challenge.pw_squaresheet_k64_whole_bands_moved.main.body.getD i (.Pass ⟨0, 0, 0, 0⟩)
abbrev sBackRow : Stmt := top 6
abbrev sIsWhole : Stmt := top 7
abbrev sCycleFrom : Stmt := top 8
abbrev sCycles : Stmt := top 9
abbrev sCorners : Stmt := top 11
abbrev sTurnRow : Stmt := top 12
abbrev sRoughSquares : Stmt := top 13
abbrev sRows : Stmt := top 15
abbrev sBorders : Stmt := top 16
abbrev sBands : Stmt := top 17
abbrev sHasSome : Stmt := top 18
abbrev sBandFrom : Stmt := top 19
abbrev sAboveAll : Stmt := top 20
abbrev sHasShift : Stmt := top 21
abbrev sCommonDivisor : Stmt := top 23
abbrev sProduct : Stmt := top 28
abbrev sBackTable : Stmt := top 29
abbrev sWordOf : Stmt := top 30
abbrev sNeedWord : Stmt := top 31
abbrev sNeedTable : Stmt := top 32
abbrev sIsTable : Stmt := top 33
abbrev sShears : Stmt := top 34
abbrev sNeedWay : Stmt := top 37
abbrev sNeedStraightWay : Stmt := top 38
abbrev sSheared : Stmt := top 40
abbrev sTurned : Stmt := top 41
abbrev sMoved : Stmt := top 42
abbrev sMovedOnce : Stmt := top 43
abbrev sToLevel : Stmt := top 45
abbrev sBandsAlong : Stmt := top 46
abbrev sWeightsToOne : Stmt := top 47
abbrev sLCellAt : Stmt := top 49
abbrev sWhole : Stmt := top 50
abbrev sLSpread : Stmt := top 51
abbrev sLRow : Stmt := top 52
abbrev sLTogether : Stmt := top 53
abbrev sSheet : Stmt := top 54
abbrev sLRowBy : Stmt := top 55
abbrev sLSheetBy : Stmt := top 56
abbrev sLWordBy : Stmt := top 57
abbrev sLGcd : Stmt := top 58
abbrev sLWay : Stmt := top 59
abbrev sLBandsAre : Stmt := top 60
abbrev sLWord : Stmt := top 61
abbrev sLContrary : Stmt := top 62
abbrev sLaw : Stmt := top 63
end K1
namespace K1
open PySem L2 Sq
/-- the builtins' names are not taken by the text -/
structure Bi (mg : Str → Option Value) : Prop where
  len : mg "len" = none
  range : mg "range" = none
  list : mg "list" = none
  tuple : mg "tuple" = none
  isin : mg "isinstance" = none
  int : mg "int" = none
  bool : mg "bool" = none
  all : mg "all" = none
  set : mg "set" = none
  sorted : mg "sorted" = none
  enum : mg "enumerate" = none
/-- a def of the text -/
structure Fn (K : PySem.W.Frag) (mg : Str → Option Value) (x : Str) (st : Stmt) (ps : List Str) (f : Addr) (fd : FuncData) : Prop where
  F : Fun K x x st f fd
  b : Binds K fd ps []
  m : mg x = some (.ref f)

def RowAt (K : PySem.W.Frag) (H : Hp) (p : Addr) (r : List Nat) : Prop := SqL K H p (nv r) ∨ SqT K H p (nv r)

def spWhole : Sp := fun vs H Q _ => ∃ i : Int, vs = [.int i] ∧ Q (.bl true) H
theorem boot_isin : bootBuiltins "isinstance" = some (.builtin "isinstance") := by decide +kernel
theorem boot_int : bootBuiltins "int" = some (.type "int") := by decide +kernel
theorem boot_bool : bootBuiltins "bool" = some (.type "bool") := by decide +kernel
theorem boot_tuple : bootBuiltins "tuple" = some (.type "tuple") := by decide +kernel
theorem boot_list : bootBuiltins "list" = some (.type "list") := by decide +kernel
theorem boot_all : bootBuiltins "all" = some (.builtin "all") := by decide +kernel
theorem boot_sorted : bootBuiltins "sorted" = some (.builtin "sorted") := by decide +kernel
theorem nv_erase (xs : List Nat) (k : Nat) : (nv xs).eraseIdx k = nv (xs.eraseIdx k) := by
  unfold nv
  induction xs generalizing k with
  | nil => rfl
  | cons x xs ih => cases k with
    | zero => rfl
    | succ k => simp only [List.map_cons, List.eraseIdx_cons_succ, ih]
theorem same_upd {H H' : Hp} {l : Addr} {o : HO} (e : Same H H') (h : H l = none) : Same H (upd H' l o) := fun b u q => by
  rw [upd_ne (ne_of_none q h)]; exact e b u q
/-- a square is drawn out of those that are left -/
theorem popDraw {H : Hp} {lf : Addr} {left : List Nat} {x : Int} {Q : VK} (h : H lf = some (.lst (nv left))) (h0 : 0 < left.length) (h1 : left.length ≤ 36)
    (q : ∀ (k y : Nat), left[k]? = some y → Q (.int (y : Int)) (upd H lf (.lst (nv (left.eraseIdx k))))) : rPopAt (.ref lf) [.int (x % ((nv left).length : Int))] H Q := by
  have hl := nv_len left
  have a0 : 0 ≤ x % ((nv left).length : Int) := Int.emod_nonneg _ (by omega)
  have a1 : x % ((nv left).length : Int) < ((nv left).length : Int) := Int.emod_lt_of_pos _ (by omega)
  have a2 : (x % ((nv left).length : Int)).toNat < left.length := by omega
  have a3 : left[(x % ((nv left).length : Int)).toNat]? = some left[(x % ((nv left).length : Int)).toNat] := List.getElem?_eq_getElem a2
  refine ⟨lf, _, _, (x % ((nv left).length : Int)).toNat, _, rfl, rfl, h, by omega, by omega, seqIndex_of a0 a1, nv_get a3, ?_⟩
  rw [nv_erase]
  exact q _ _ a3
theorem Same.tseq {K : PySem.W.Frag} {H H' : Hp} {a : Addr} {xs : List V} (e : Same H H') (h : SqT K H a xs) : SqT K H' a xs := by
  rcases h with (h | ⟨o, h⟩) | h
  · exact .inl (.inl (e _ _ h))
  · exact .inl (.inr ⟨o, e _ _ h⟩)
  · exact .inr h
theorem RowAt.same {K : PySem.W.Frag} {H H' : Hp} {p : Addr} {r : List Nat} (e : Same H H') (h : RowAt K H p r) : RowAt K H' p r := h.imp e.seq (Same.tseq e)
theorem rowIx {K : PySem.W.Frag} {H : Hp} {p : Addr} {r : List Nat} {n i : Nat} {Q : VK} (h : RowAt K H p r) (hr : Row n r) (hi : i < n) (q : Q (.int (nx r i : Int)) H) : rIx K (.ref p) (.int (i : Int)) H Q := by
  rcases h with h | h
  · exact .inl ⟨p, _, _, _, rfl, rfl, h, atI_nat (nv_get (hr.get hi)), q⟩
  · exact .inr (.inl ⟨p, _, _, _, rfl, rfl, h, atI_nat (nv_get (hr.get hi)), q⟩)
theorem nv_flat (xs : List Nat) : (nv xs).all flatV = true := by
  rw [List.all_eq_true]
  intro x hx
  obtain ⟨n, _, rfl⟩ := List.mem_map.mp hx
  rfl
theorem inV_nv (x : Nat) (xs : List Nat) : inV (.int (x : Int)) (nv xs) = decide (x ∈ xs) := by
  unfold inV nv
  rw [List.any_map]
  apply Bool.eq_iff_iff.mpr
  rw [List.any_eq_true, decide_eq_true_iff]
  constructor
  · rintro ⟨y, hy, e⟩
    have : (y : Int) = (x : Int) := by simpa [eqV, scal] using e
    have : y = x := by omega
    rw [← this]; exact hy
  · intro h
    exact ⟨x, h, by simp [eqV, scal]⟩
/-- how far the fifth slot is from 100 -/
def mu (j : Nat) (σ : St) : Nat := match σ[j]? with
  | some (some (.int k)) => (100 - k).toNat
  | _ => 0
theorem foldl_put_len : ∀ (l M : List Nat), (l.foldl put M).length ≤ M.length + l.length
  | [], M => Nat.le_refl _
  | x :: l, M => by
    have h1 := foldl_put_len l (put M x)
    have h2 : (put M x).length ≤ M.length + 1 := by unfold put; split <;> simp
    simp only [List.foldl_cons, List.length_cons]; omega
end K1
namespace L2
open PySem PySem.Spec PyProof.Rows
/-- the signs of a text, one by one -/
def Its (z : Str) : It := ⟨fun i _ => i < z.length, fun i H x H' => H' = H ∧ ∃ c, z.cps[i]? = some c ∧ x = .str ⟨#[c]⟩, fun i _ => z.length = i⟩
theorem turn_str {P : Program} {w : World} {K : PySem.W.Frag} {tg : Expr} (it : Addr) (z : Str) (t : Tok) : Turn P w K tg (Its z) [it] it (fun i h => h.IsStrIter it (strIterType z) z t i) := by
  have W : ∀ {A : Around}, A.handled = none → Walks P w A it [it] [it] z.cps.size (SignAt z) (fun i h => h.IsStrIter it (strIterType z) z t i) := by
    intro A hh
    unfold strIterType
    split
    · exact Walks.strAscii hh it z t
    · exact Walks.strWide hh it z t
  have hty : ["enumerate", "zip", "dict_itemiterator", "dict_reverseitemiterator", "odict_iterator", "itertools.zip_longest", "itertools.pairwise"].contains (strIterType z) = false := by
    unfold strIterType; split <;> decide
  exact {
    mem := by simp
    obj := fun i h st b hb => by
      have e : b = it := by simpa using hb
      subst e
      obtain ⟨o, e, c, d⟩ := st
      exact ⟨o, e, fun v z => by rw [d] at z; cases z⟩
    keep := fun i h h' st k => let ⟨o, ho, r⟩ := st; ⟨o, k it (by simp) o ho, r⟩
    item := by
      intro X hP hw hK hc i pins s σ H E I hf st hg
      subst hP hw hK
      obtain ⟨f0, f1, f2, f3, f4, f5⟩ := hf it (by simp)
      refine (W (I.ok.hd hc)).item i s _ _ hg st fun v h' tk hv st' kk => ?_
      obtain ⟨c, u, hc', rfl⟩ := hv
      have I1 : Inv X pins σ H { s with heap := h', toks := tk } := I.turned (fun b o hb e => kk b o (by simpa using hb) e) f0 f1 f3 f4 f5
      obtain ⟨o, e, c1, d⟩ := id st'
      exact ⟨_, rfl, go_of (s := { s with heap := h', toks := tk }) e c1 d hty ⟨.str ⟨#[c]⟩, H, I1, ⟨_, rfl⟩, ⟨rfl, c, hc', rfl⟩, st', fun b hb => (hf b hb).1⟩⟩
    done := by
      intro X hP hw hK hc i pins s σ H E I hf st hg
      subst hP hw hK
      obtain ⟨f0, f1, f2, f3, f4, f5⟩ := hf it (by simp)
      have hg : z.cps.size = i := hg
      subst hg
      exact (W (I.ok.hd hc)).done s _ _ st fun h' tk kk => ⟨rfl, I.turned (fun b o hb e => kk b o (by simpa using hb) e) f0 f1 f3 f4 f5⟩
    self := fun A i s Q E st h => by
      obtain ⟨o, e, c, d⟩ := id st
      unfold strIterType at st
      split at st
      · exact wpAny_pyIter_striter_ascii st h
      · exact wpAny_pyIter_striter_wide st h }
section
variable {X : Cx} {tg : Expr}
def iStr (tl : TE) : TI := fun σ H R => tl σ H fun x H1 => ∃ z, x = .str z ∧ R (Its z) H1
theorem pi_str {l : Expr} {tl : TE} (hl : PE X l tl) : PI X tg l (iStr tl) := by
  intro pins s σ H R I h
  refine thn (hl pins s σ H _ I h) fun v s1 ⟨x, H1, I1, r1, q1⟩ => ?_
  obtain ⟨z, e, q⟩ := q1
  subst e
  obtain ⟨t, rfl⟩ := r1
  refine wpAny_pyIter_strU ?_
  refine ⟨s1.heap.objs.size, [s1.heap.objs.size], _, _, H1, rfl, I1.kept (t' := s1.toks) fun b o e => Heap.get?_push_of_some _ e, turn_str _ z t, ⟨_, Heap.get?_push_size _ rfl, rfl, rfl⟩, fun b hb => ?_, q⟩
  have e : b = s1.heap.objs.size := by simpa using hb
  subst e
  exact I1.fpOk (Nat.le_refl _) (I1.hok.fresh (Nat.le_refl _))
/-- over the signs of a text -/
theorem for_str {z : Str} {g : TG} {tb : TS} {D : Ends} {σ : St} {H : Hp} (Pv : Nat → St → Hp → Prop) (h0 : Pv 0 σ H)
    (hs : ∀ i c σ H, z.cps[i]? = some c → Pv i σ H → g (.str ⟨#[c]⟩) σ H fun σ2 H2 => tb { D with nx := Pv (i + 1), ct := Pv (i + 1), bk := D.nx } σ2 H2) (hd : ∀ σ H, Pv z.length σ H → D.nx σ H) :
    ∃ W : Nat → Nat → St → Hp → Prop, (∃ m, W 0 m σ H) ∧ ∀ i m σ H, W i m σ H →
      ((Its z).stop i H ∧ D.nx σ H) ∨ ((Its z).go i H ∧ ∃ N : St → Hp → Prop, (∀ σ' H', N σ' H' → ∃ m', m' < m ∧ W (i + 1) m' σ' H') ∧ ∀ x H', (Its z).yld i H x H' → g x σ H' fun σ2 H2 => tb { D with nx := N, ct := N, bk := D.nx } σ2 H2) := by
  refine ⟨fun i m σ H => m = z.length - i ∧ i ≤ z.length ∧ Pv i σ H, ⟨z.length, by simp, Nat.zero_le _, h0⟩, ?_⟩
  rintro i m σ H ⟨rfl, hi, hp⟩
  rcases Nat.lt_or_ge i z.length with c | c
  · refine .inr ⟨c, Pv (i + 1), fun σ' H' q => ⟨z.length - (i + 1), by omega, rfl, c, q⟩, ?_⟩
    rintro x H' ⟨rfl, ch, hc, rfl⟩
    exact hs i ch σ _ hc hp
  · have e : i = z.length := Nat.le_antisymm hi c
    subst e
    exact .inl ⟨rfl, hd σ H hp⟩
/-- x.index(y), y in x -/
def rIndexS : V → List V → Hp → VK → Prop := fun x vs H Q => ∃ z y i rest, x = .str z ∧ vs = [.str y] ∧ Builtin.Str.occurrences z y 0 z.length 1 = i :: rest ∧ Q (.int (i : Nat)) H
theorem mt_indexS : MtM X "str.index" rIndexS := by
  intro pins s σ H x vs v us Q I rx rv h
  obtain ⟨z, y, i, rest, rfl, rfl, ho, q⟩ := h
  obtain ⟨t, rfl⟩ := rx
  obtain ⟨u, rfl, t', rfl⟩ := rv.one
  exact SC.index ho ⟨.int (i : Nat), H, I.tok _, ⟨_, rfl⟩, q⟩
/-- {e}, e a whole number -/
def tFmtI (te : TE) : TE := fun σ H Q => te σ H fun x H1 => ∃ i : Int, x = .int i ∧ i.natAbs.log2 < 1920 ∧ Q (.str (toString i)) H1
theorem pe_fmtI {e : Expr} {te : TE} {pos : Pos} (he : PE X e te) : PE X (.FormattedValue e (-1) none pos) (tFmtI te) := by
  intro pins s σ H Q I h
  refine wpAny_FormattedValue_plain (thn (he pins s σ H _ I h) fun v s1 ⟨x, H1, I1, r1, i, e, hz, q⟩ => ?_)
  subst e
  obtain ⟨t, rfl⟩ := r1
  exact wpAny_formatField_int hz ⟨.str (toString i), H1, I1.tok _, ⟨_, rfl⟩, q⟩
/-- the parts of an f-string, from the left -/
def tParts : List TE → Str → TE
  | [], acc => fun _ H Q => Q (.str acc) H
  | t :: ts, acc => fun σ H Q => t σ H fun x H1 => ∃ y, x = .str y ∧ (acc ++ y).length ≤ sizeLine ∧ tParts ts (acc ++ y) σ H1 Q
inductive PParts (X : Cx) : List Expr → List TE → Prop
  | nil : PParts X [] []
  | cons {e : Expr} {t : TE} {es : List Expr} {ts : List TE} : PE X e t → PParts X es ts → PParts X (e :: es) (t :: ts)
theorem evalEach_map (env : Env) : ∀ es : List Expr, evalEach es env = es.map fun e => eval e env
  | [] => rfl
  | e :: es => by
    show eval e env :: evalEach es env = _
    rw [evalEach_map env es]; rfl
theorem joins_of {pins : List (Addr × Obj)} : ∀ {es : List Expr} {ts : List TE} {acc : Str} {s : Shared} {σ : St} {H : Hp} {Q : VK}, PParts X es ts → Inv X pins σ H s → acc.length ≤ sizeLine → tParts ts acc σ H Q →
    Joins (model X.prog X.w) X.A X.xe (es.map fun e => eval e X.env) acc (fun out s₁ => out.length ≤ sizeLine ∧ EP X pins σ Q (.str out s₁.toks) { s₁ with toks := s₁.toks + 1 }) s
  | [], _, acc, s, σ, H, Q, .nil, I, hz, h => ⟨hz, .str acc, H, I.tok _, ⟨_, rfl⟩, h⟩
  | e :: es, _, acc, s, σ, H, Q, .cons h1 hr, I, hz, h => by
    refine thn (h1 pins s σ H _ I h) fun v s1 ⟨x, H1, I1, r1, y, ex, hy, q⟩ => ?_
    subst ex
    obtain ⟨t, rfl⟩ := r1
    exact ⟨y, t, rfl, hy, joins_of hr I1 hy q⟩
theorem pe_fstr {e1 e2 : Expr} {es : List Expr} {ts : List TE} {pos : Pos} (h : PParts X (e1 :: e2 :: es) ts) : PE X (.JoinedStr (e1 :: e2 :: es) pos) (tParts ts Str.empty) := by
  intro pins s σ H Q I hw
  refine wpAny_JoinedStr ?_
  rw [evalEach_map]
  exact joins_of h I (by decide) hw
end
end L2
namespace L2
open PySem PySem.Spec PyProof.Rows
/-- e: an exception of the class C with the dict d; B: what stays whatever the flight does; told: it has a traceback, whose flight mark is fl -/
def ExAt (B : Heap) (e : Addr) (C : Value) (d : Option Addr) (h : Heap) : Prop :=
  ∃ oe vs, h.get? e = some oe ∧ oe.cls = C ∧ oe.dict = d ∧ oe.data = .fields vs ∧ vs[2]? = some .none ∧ (vs[1]? = some .none ∨ ∃ T oT ts fl, vs[1]? = some (.ref T) ∧ B.get? T = none ∧ T ≠ e ∧ h.get? T = some oT ∧ oT.data = .fields ts ∧ ts[3]? = some fl)
def ExOn (B : Heap) (e : Addr) (C : Value) (d : Option Addr) (fl : Value) (h : Heap) : Prop :=
  ∃ oe vs T oT ts, h.get? e = some oe ∧ oe.cls = C ∧ oe.dict = d ∧ (oe.data = .fields vs ∧ vs[2]? = some .none) ∧ vs[1]? = some (.ref T) ∧ B.get? T = none ∧ T ≠ e ∧ h.get? T = some oT ∧ oT.data = .fields ts ∧ ts[3]? = some fl
theorem ExOn.at {B h : Heap} {e : Addr} {C fl : Value} {d : Option Addr} (x : ExOn B e C d fl h) : ExAt B e C d h := by
  obtain ⟨oe, vs, T, oT, ts, h1, h2, h3, h4, h5, h6, h7, h8, h9, h10⟩ := x
  exact ⟨oe, vs, h1, h2, h3, h4.1, h4.2, .inr ⟨T, oT, ts, fl, h5, h6, h7, h8, h9, h10⟩⟩
/-- what a station asks and gives -/
structure Air (B : Heap) (l : List Env) (e : Addr) (h : Heap) : Prop where
  stays : B.StaysIn h
  new : B.get? e = none
  frames : h.FunFrames B l
section
variable {M : Model} {A : Around} {E : Value → Shared → Prop} {s : Shared}
theorem dict_mapFields (o : Obj) (f : Array Value → Array Value) : (o.mapFields f).dict = o.dict := by
  obtain ⟨c, d, dt, sl⟩ := o
  cases dt <;> rfl
/-- an entry of the traceback is laid -/
theorem air_entry {B : Heap} {env : Env} {outer : List Env} {L e : Addr} {oe : Obj} {vs : Array Value} {head : Value} {had : Bool} {Q : Unit → Shared → Prop}
    (fr : A.frames = some (env :: outer)) (fl : env.frame = some L) (a : Air B (env :: outer) e s.heap) (he : s.heap.get? e = some oe) (hd : oe.data = .fields vs) (hcx : vs[2]? = some .none)
    (q : ∀ h', Air B (env :: outer) e h' → ExOn B e oe.cls oe.dict (rawInt L) h' → s.heap.UpToSlots h' → Q () { s with heap := h' }) :
    wpAny M A (do let f ← frameOf env; let pl ← entryPlaceOf L had; let b ← EntryCells.newEntry head f .none (rawInt L) .none pl; setField (.ref e) 1 b) Q E s := by
  have hz2 : 2 < vs.size := (Array.getElem?_eq_some_iff.mp hcx).1
  have hz : 1 < vs.size := by omega
  have nfr : e ∉ (env :: outer).filterMap (·.frame) := fun z => by
    obtain ⟨_, o, ho, hn⟩ := a.frames.mem z
    rw [he] at ho
    cases ho
    exact hn vs hd
  refine wpAny_bind (wpAny_frameOf_fun fr a.frames fl fun h1 so => ?_)
  refine wpAny_bind (wpAny_entryPlaceOf fun pl hpl => ?_)
  unfold EntryCells.newEntry newFields
  refine wpAny_bind (wpAny_newObj_type ?_ (hpl.sizeOk5 _ _ _ _ _))
  have he1 : h1.get? e = some oe := by rw [so.2.1 e nfr]; exact he
  have st1 : B.StaysIn h1 := fun b o hb => by
    rw [so.2.1 b fun z => by rw [(a.frames.mem z).1] at hb; cases hb]
    exact a.stays b o hb
  generalize hrec : ({ cls := .type "traceback", dict := none, data := .fields ([head, .ref L, .none, rawInt L, .none] ++ (if pl.isEmpty then List.replicate 6 Value.none else pl)).toArray } : Obj) = rec
  have rdat : ∃ ts : Array Value, rec.data = .fields ts ∧ ts[3]? = some (rawInt L) := by
    refine ⟨([head, .ref L, .none, rawInt L, .none] ++ (if pl.isEmpty then List.replicate 6 Value.none else pl)).toArray, by rw [← hrec], ?_⟩
    simp
  obtain ⟨ts, rd, r3⟩ := rdat
  have he2 := Heap.get?_push_of_some (h := h1) rec he1
  refine wpAny_setField he2 hd hz ?_
  have nT : h1.objs.size ≠ e := Nat.ne_of_gt (Heap.lt_size he1)
  have dat3 := Obj.data_mapFields hd (·.setIfInBounds 1 (Value.ref h1.objs.size))
  have he3 := Heap.get?_update_self (Obj.mapFields (·.setIfInBounds 1 (Value.ref h1.objs.size))) he2 (Obj.isFreed_of_fields dat3)
  have rnf : rec.isFreed = false := Obj.isFreed_of_fields rd
  have hT3 : ((h1.push rec).update e (Obj.mapFields (·.setIfInBounds 1 (Value.ref h1.objs.size)))).get? h1.objs.size = some rec := by
    rw [Heap.get?_update_other _ _ (Ne.symm nT)]; exact Heap.get?_push_size h1 rnf
  have keep : ∀ b o, b ≠ e → h1.get? b = some o → ((h1.push rec).update e (Obj.mapFields (·.setIfInBounds 1 (Value.ref h1.objs.size)))).get? b = some o := fun b o nb hb => by
    rw [Heap.get?_update_other _ _ (Ne.symm nb)]; exact Heap.get?_push_of_some _ hb
  have nrec : ∀ b o, s.heap.get? b = some o → (∀ ws, o.data ≠ .fields ws) → b ≠ e := fun b o hb hn z => by
    rw [z, he] at hb
    cases hb
    exact hn vs hd
  refine q _ ⟨fun b o hb => keep b o (fun z => by rw [z, a.new] at hb; cases hb) (st1 b o hb), a.new, a.frames.of_keeps fun b o hb hn => ?_⟩ ?_ fun b o hb hn => ?_
  · obtain ⟨sl, e1⟩ := so.2.2 b o hb
    exact ⟨_, keep b _ (nrec b o hb hn) e1, rfl⟩
  · refine ⟨_, _, h1.objs.size, rec, ts, he3, Obj.cls_mapFields _ _, dict_mapFields _ _, ⟨dat3, by rw [Array.getElem?_setIfInBounds_ne (by decide)]; exact hcx⟩, by simp [hz], st1.fresh, nT, hT3, rd, r3⟩
  · obtain ⟨sl, e1⟩ := so.2.2 b o hb
    exact ⟨sl, keep b _ (nrec b o hb hn) e1⟩
/-- a traceback's mark is set -/
theorem air_mark {B : Heap} {l : List Env} {e T : Addr} {oe oT : Obj} {vs ts : Array Value} {fl v : Value} (a : Air B l e s.heap) (he : s.heap.get? e = some oe) (hd : oe.data = .fields vs) (hcx : vs[2]? = some .none) (h1 : vs[1]? = some (.ref T)) (nT : B.get? T = none) (nTe : T ≠ e)
    (hT : s.heap.get? T = some oT) (hdT : oT.data = .fields ts) (h3 : ts[3]? = some fl) {Q : Unit → Shared → Prop}
    (q : ∀ h', Air B l e h' → h'.get? e = some oe → ExOn B e oe.cls oe.dict v h' → s.heap.UpToSlots h' → Q () { s with heap := h' }) : wpAny M A (setField (.ref T) 3 v) Q E s := by
  have z3 : 3 < ts.size := (Array.getElem?_eq_some_iff.mp h3).1
  have other : ∀ b, b ≠ T → (s.heap.update T (Obj.mapFields (·.setIfInBounds 3 v))).get? b = s.heap.get? b := fun b nb => Heap.get?_update_other _ _ (Ne.symm nb)
  have nrec : ∀ b o, s.heap.get? b = some o → (∀ ws, o.data ≠ .fields ws) → b ≠ T := fun b o hb hn z => by
    rw [z, hT] at hb
    cases hb
    exact hn ts hdT
  have he' := (other e (Ne.symm nTe)).trans he
  refine wpAny_setField hT hdT z3 (q _ ⟨fun b o hb => ?_, a.new, a.frames.of_keeps fun b o hb hn => ⟨o, (other b (nrec b o hb hn)).trans hb, rfl⟩⟩ he' ?_ fun b o hb hn => ⟨o.slots, (other b (nrec b o hb hn)).trans hb⟩)
  · exact (other b fun z => by rw [z, nT] at hb; cases hb).trans (a.stays b o hb)
  · exact ⟨oe, vs, T, _, _, he', rfl, rfl, ⟨hd, hcx⟩, h1, nT, nTe, Heap.get?_update_self _ hT (Obj.isFreed_of_fields (Obj.data_mapFields hdT _)), Obj.data_mapFields hdT _, by simp [z3]⟩
/-- the frame is noted -/
theorem air_note {B : Heap} {env : Env} {outer : List Env} {L e : Addr} {C : Value} {d : Option Addr} {Q : Unit → Shared → Prop} (fr : A.frames = some (env :: outer)) (fl : env.frame = some L) (a : Air B (env :: outer) e s.heap) (x : ExAt B e C d s.heap)
    (q : ∀ h', Air B (env :: outer) e h' → ExOn B e C d (rawInt L) h' → s.heap.UpToSlots h' → Q () { s with heap := h' }) : wpAny M A (noteFrame (.ref e) env) Q E s := by
  obtain ⟨oe, vs, he, rfl, rfl, hd, hz, hv⟩ := x
  unfold noteFrame
  simp only [fl]
  rcases hv with hv | ⟨T, oT, ts, f0, hv, nT, nTe, hT, hdT, h3⟩
  · refine wpAny_bind (wpAny_field he hd hv ?_)
    rw [if_neg (by decide)]
    exact air_entry fr fl a he hd hz q
  · refine wpAny_bind (wpAny_field he hd hv ?_)
    rw [if_pos (show (Value.ref T != Value.none) = true from by simp)]
    refine wpAny_bind (wpAny_field hT hdT h3 ?_)
    by_cases e0 : (f0 == rawInt L) = true
    · rw [if_pos e0]
      have e1 : f0 = rawInt L := by simpa using e0
      subst e1
      exact wpAny_pure (q s.heap a ⟨oe, vs, T, oT, ts, he, rfl, rfl, ⟨hd, hz⟩, hv, nT, nTe, hT, hdT, h3⟩ (Heap.UpToSlots.refl _))
    · rw [if_neg e0]
      refine wpAny_bind (air_mark a he hd hz hv nT nTe hT hdT h3 fun h1 a1 he1 _ u1 => ?_)
      exact air_entry (s := { s with heap := h1 }) fr fl a1 he1 hd hz fun h2 a2 x2 u2 => q h2 a2 x2 (u1.trans u2)
/-- the flight's mark -/
theorem air_flight {B : Heap} {l : List Env} {e : Addr} {C f0 : Value} {d : Option Addr} {o : Option Addr} {Q : Unit → Shared → Prop} (a : Air B l e s.heap) (x : ExOn B e C d f0 s.heap)
    (q : ∀ h', Air B l e h' → ExOn B e C d (o.elim .none fun f => rawInt f) h' → s.heap.UpToSlots h' → Q () { s with heap := h' }) : wpAny M A (setFlight (.ref e) o) Q E s := by
  obtain ⟨oe, vs, T, oT, ts, he, rfl, rfl, ⟨hd, hcx⟩, hv, nT, nTe, hT, hdT, h3⟩ := x
  unfold setFlight
  refine wpAny_bind (wpAny_field he hd hv ?_)
  rw [if_pos (show (Value.ref T != Value.none) = true from by simp)]
  exact air_mark a he hd hcx hv nT nTe hT hdT h3 fun h' a' _ x' u' => q h' a' x' u'
theorem Air.tail {B : Heap} {env : Env} {outer : List Env} {e : Addr} {h : Heap} (a : Air B (env :: outer) e h) : Air B outer e h := ⟨a.stays, a.new, a.frames.2.2⟩
/-- the frame is left -/
theorem air_leave {B : Heap} {env : Env} {outer : List Env} {L e : Addr} {C : Value} {d : Option Addr} {Q : Unit → Shared → Prop} (fr : A.frames = some (env :: outer)) (fl : env.frame = some L) (a : Air B (env :: outer) e s.heap) (x : ExAt B e C d s.heap)
    (q : ∀ h', Air B outer e h' → ExAt B e C d h' → s.heap.UpToSlots h' → Q () { s with heap := h' }) : wpAny M A (leaving env (.ref e)) Q E s := by
  unfold leaving
  refine wpAny_bind (air_note fr fl a x fun h1 a1 x1 u1 => ?_)
  exact air_flight (s := { s with heap := h1 }) a1 x1 fun h2 a2 x2 u2 => q h2 a2.tail x2.at (u1.trans u2)
end
/-- what was there ahead, and is kept in B; the frames up to their slots -/
structure UnB (fs : List Addr) (H H' : Hp) (h B h' : Heap) : Prop where
  keep : ∀ b o, h.get? b = some o → H b = none → b ∉ fs → B.get? b = some o
  slot : ∀ b o, h.get? b = some o → H b = none → b ∈ fs → ∃ sl, h'.get? b = some { o with slots := sl }
  free : ∀ b o, h.get? b = some o → H b = none → H' b = none
  there : ∀ b o, h.get? b = some o → b ∉ fs → ∃ o', B.get? b = some o'
  tups : ∀ b xs, H b = some (.tup xs) → H' b = some (.tup xs)
  frzs : ∀ b o u, H b = some (.frz o u) → H' b = some (.frz o u)
  tbls : ∀ b ps, H b = some (.tbl ps) → ∃ more, H' b = some (.tbl (ps ++ more))
/-- the exception e flies, over the frames at outer; H, s: ahead of the call; H': what is tracked now -/
structure Fly (P : Program) (w : World) (outer : List Env) (H : Hp) (s : Shared) (C : Value) (d : Option Addr) (H' : Hp) (e : Addr) (s' : Shared) : Prop where
  os : s'.os = s.os
  bare : AllBare s'.gens
  ex : ∃ B, Air B outer e s'.heap ∧ ExAt B e C d s'.heap ∧ HOk P w H' B ∧ UnB (frs outer) H H' s.heap B s'.heap
def CX1 (P : Program) (w : World) : CXT := fun outer H s E ev s' => ∃ e C d H', ev = .ref e ∧ Fly P w outer H s C d H' e s' ∧ E C d H'
end L2
namespace L2
open PySem PySem.Spec PyProof.Rows
abbrev vE : List Value := [.type "ValueError", .type "Exception", .type "BaseException", .type "object"]
/-- a class of the text under ValueError, without an __init__ of its own -/
def ExCls (K : PySem.W.Frag) (C : Addr) : Prop := PySem.W.excIn K C vE "ValueError.__new__" = true
theorem ExCls.obj {K : PySem.W.Frag} {C : Addr} {h : Heap} (q : ExCls K C) (k : K.In h) :
    ∃ bm N nm qn bs hd sn sub ab col dd k0 k1 k2 k3 k5 mN, h.get? C = some (excClassObj nm qn C N bs bm hd sn sub ab col dd k0 k1 k2 k3 k5 "ValueError.__new__") ∧ h.Ns N mN ∧ mN "__init__" = none ∧ OwnTail h vE bm := by
  unfold ExCls PySem.W.excIn at q
  split at q
  · rename_i dd cd sl ho
    split at q
    · rename_i C1 bm k0 k1 k2 k3 n k5 hm hs
      simp only [Bool.and_eq_true, beq_iff_eq, Bool.not_eq_true'] at q
      obtain ⟨⟨⟨⟨⟨e1, e2⟩, hdel⟩, ht⟩, hok⟩, hni⟩ := q
      subst e1 e2
      cases cd
      dsimp only at hm hdel hok hni
      subst hm hdel
      have esl : sl = #[k0, k1, k2, k3, some (.builtin "ValueError.__new__"), k5] := by
        cases sl
        simp only at hs
        rw [hs]
      subst esl
      exact ⟨bm, _, _, _, _, _, _, _, _, _, dd, k0, k1, k2, k3, k5, _, k _ _ ho, .of_isNs (PySem.W.isNs_of_in k hok), PySem.W.nsMap_none_of_in k hok hni, PySem.W.tail_of_in k ht⟩
    · cases q
  · cases q
/-- an exception just made here reaches what is wanted of exceptions -/
def Throws (X : Cx) (E : XK) : Prop := ∀ (pins : List (Addr × Obj)) (σ : St) (H : Hp) (s : Shared) (h' : Heap) (e : Addr) (C : Value) (args : List Value), Inv X pins σ H s → Heap.MadeExcOf s.heap h' e C args → E C none H → X.xe (.ref e) { s with heap := h' }
def tRaise (ta : TA) (C : Addr) (E : XK) : TS := fun _ σ H => ta σ H fun vs H1 => vs.length ≤ sizeLine ∧ E (.ref C) none H1
section
variable {X : Cx} {x : Str} {C : Addr} {e₀ : Expr} {rest : List Expr} {ta : TA} {E : XK} {np cpos pos : Pos}
theorem ps_raise (hc : X.calm = true) (hC : ExCls X.K C) (hg : Gl X x) (hm : X.mg x = some (.ref C)) (ht : Throws X E) (ha : PA X (e₀ :: rest) ta) (hdb : (x == ("__debug__" : Str)) = false := by decide)
    (he : starEach (e₀ :: rest) X.env = (false, eval e₀ X.env) :: starEach rest X.env := by rfl) (hpl : (backTo cpos (starEach rest X.env)).any (·.1) = false := by rfl) :
    PS X (.Raise (some (.Call (.Name x np) (e₀ :: rest) [] cpos)) none pos) (tRaise ta C E) := by
  intro pins s σ H D I h
  obtain ⟨bm, N, nm, qn, bs, hd, sn, sub, ab, col, dd, k0, k1, k2, k3, k5, mN, oC, nN, ni, TL⟩ := hC.obj I.mod.kin
  have FB := PySem.F.excBase_ValueError
  refine wpAny_Raise_call_subT (C := C) (nm := nm) (q := qn) (N := N) (bs := bs) (bm := bm) (hdct := hd) (sn := sn) (sub := sub) (ab := ab) (col := col) (dd := dd) (k0 := k0) (k1 := k1) (k2 := k2) (k3 := k3) (k5 := k5)
    FB (mN := mN) (TL.hasType FB.hasBase) (I.ok.hd hc) (by rw [he]; show (false || (backTo cpos (starEach rest X.env)).any (·.1)) = false; rw [hpl]; rfl) ni (ld_glob I hg hm ⟨rfl, ?_⟩ hdb)
  have hA := ha cpos pins s σ H _ I h
  rw [he] at hA ⊢
  refine Calls.evalArgs_plain (thn hA fun us s2 ⟨vs, H2, I2, r2, hz, q2⟩ => ⟨rfl, by rw [← r2.length]; exact hz, I2.bk _ _ oC, nN.keeps I2.bk, TL.keeps I2.bk, fun h' e hm => ht pins σ H2 s2 h' e _ _ I2 hm q2⟩)
end
/-- the tracked things lie in B -/
theorem hok_hide {P : Program} {w : World} {H : Hp} {h : Heap} {l : List Addr} (x : HOk P w H h) (fr : ∀ b ∈ l, H b = none) : HOk P w H (PySem.W.hideAll h l) := fun b u e => by
  refine (x b u e).stay (fun c v hc q => PySem.W.hideAll_get _ q fun z => ?_) (fun _ q => q) fun _ _ q => q
  rcases hc with hc | hc
  · rw [hc] at z
    rw [fr b z] at e; cases e
  · rw [fr c z] at hc; cases hc
section
variable {P : Program} {w : World} {K : PySem.W.Frag} {mg : Str → Option Value} {base : Heap} {N : List Str} {qual : Str} {scope : Scope} {f : Addr} {cd : Value} {A : Around} {outer : List Env} {s : Shared} {H : Hp} {E E' : XK}
/-- the frames of a def's body -/
theorem frs_cons {env : Env} {l : List Env} {L : Addr} (h : env.frame = some L) : frs (env :: l) = L :: frs l := by unfold frs; rw [List.filterMap_cons, h]
/-- behind the callee: what was ahead of the def is in B -/
theorem UnB.after {X : Cx} {pins : List (Addr × Obj)} {σ : St} {Hc H' : Hp} {sc : Shared} {B h' h2 : Heap} {e : Addr} (I : Inv X pins σ Hc sc) (hex : X.ex = []) (hst : X.stack = X.env :: X.outer) (hfr : X.env.frame = some X.env.locals)
    (a : Air B X.stack e h') (u : UnB (frs X.stack) Hc H' sc.heap B h') (up : h'.UpToSlots h2) : UnB (frs X.outer) X.H₀ H' X.s₀.heap B h2 := by
  have nex : ∀ b : Addr, b ∉ X.ex := fun b z => by rw [hex] at z; cases z
  have efr : frs X.stack = X.env.locals :: frs X.outer := by rw [hst, frs_cons hfr]
  have old : ∀ b o, X.s₀.heap.get? b = some o → b ∉ frs X.outer → b ∉ frs X.stack := fun b o q hb z => by
    rw [efr] at z
    rcases List.mem_cons.mp z with z | z
    · have l1 := Heap.lt_size q
      rw [z] at l1
      exact absurd (Nat.lt_of_lt_of_le l1 I.ok.above) (Nat.lt_irrefl _)
    · exact hb z
  have inn : ∀ b, b ∈ frs X.outer → b ∈ frs X.stack := fun b hb => by rw [efr]; exact List.mem_cons_of_mem _ hb
  exact {
    keep := fun b o q n hb => u.keep b o (I.base.keep b o q n hb (nex b)) (I.base.free b o q n (nex b)) (old b o q hb)
    slot := fun b o q n hb => by
      obtain ⟨sl, e1⟩ := I.base.slot b o q n hb (nex b)
      obtain ⟨sl2, e2⟩ := u.slot b _ e1 (I.base.free b o q n (nex b)) (inn b hb)
      obtain ⟨_, o3, e3, nf⟩ := a.frames.mem (inn b hb)
      have : o3 = { ({ o with slots := sl } : Obj) with slots := sl2 } := by rw [e2] at e3; exact (Option.some.inj e3).symm
      subst this
      obtain ⟨sl3, e4⟩ := up b _ e2 nf
      exact ⟨sl3, e4⟩
    free := fun b o q n => by
      obtain ⟨o1, e1⟩ := I.base.there b o q (nex b)
      exact u.free b o1 e1 (I.base.free b o q n (nex b))
    there := fun b o q hb => by
      obtain ⟨o1, e1⟩ := I.base.there b o q (nex b)
      exact u.there b o1 e1 (old b o q hb)
    tups := fun b xs q => u.tups b xs (I.base.tups b xs q)
    frzs := fun b o v q => u.frzs b o v (I.base.frzs b o v q)
    tbls := fun b ps q => by
      obtain ⟨m1, e1⟩ := I.base.tbls b ps q
      obtain ⟨m2, e2⟩ := u.tbls b _ e1
      exact ⟨m1 ++ m2, by rw [e2, Array.append_assoc]⟩ }
theorem pass1 (hE : ∀ C d H', E' C d H' → E C d H') : Passes (CX1 P w) (cxOf (CX1 P w) P w K mg base N qual scope f cd A outer s H E) E' := by
  rintro pins σ Hc sc ev s' I ⟨e, C, d, H', rfl, fly, hq⟩
  obtain ⟨B, a, x, hok, u⟩ := fly.ex
  refine air_leave (B := B) (L := s.heap.objs.size) I.ok.frames rfl a x fun h2 a2 x2 up => ?_
  exact ⟨e, C, d, H', rfl, ⟨fly.os.trans I.os, fly.bare, B, a2, x2, hok, UnB.after I rfl rfl rfl a u up⟩, hE _ _ _ hq⟩
/-- a raise: the frames hidden, all stays -/
theorem fly_made {X : Cx} {pins : List (Addr × Obj)} {σ : St} {Hc : Hp} {sc : Shared} {h' : Heap} {e : Addr} {C : Value} {args : List Value} (I : Inv X pins σ Hc sc) (m : Heap.MadeExcOf sc.heap h' e C args) :
    ∃ B, Air B X.stack e h' ∧ ExAt B e C none h' ∧ HOk X.prog X.w Hc B ∧ UnB (frs X.stack) Hc Hc sc.heap B h' := by
  have fr := I.stkFree
  refine ⟨PySem.W.hideAll sc.heap (frs X.stack), ⟨fun b o q => m.keeps _ _ (PySem.W.of_hideAll _ q), ?_, ?_⟩, ?_, hok_hide I.hok fr, ?_⟩
  · cases q : (PySem.W.hideAll sc.heap (frs X.stack)).get? e with
    | none => rfl
    | some o =>
      have := PySem.W.of_hideAll _ q
      rw [m.new] at this; cases this
  · refine (PySem.W.funFrames_hide I.stack fun env he a ha => List.mem_filterMap.mpr ⟨env, he, ha⟩).of_keeps fun b o q _ => ⟨o, m.keeps _ _ q, rfl⟩
  · obtain ⟨t, he, _, _⟩ := m.there
    exact ⟨_, _, he, rfl, rfl, rfl, by simp, .inl rfl⟩
  · exact ⟨fun b o q _ hb => PySem.W.hideAll_get _ q hb, fun b o q _ _ => ⟨o.slots, m.keeps _ _ q⟩, fun _ _ _ n => n, fun b o q hb => ⟨o, PySem.W.hideAll_get _ q hb⟩, fun _ _ q => q, fun _ _ _ q => q, fun _ ps q => ⟨#[], by simpa using q⟩⟩
theorem throw1 : Throws (cxOf (CX1 P w) P w K mg base N qual scope f cd A outer s H E) E := by
  intro pins σ Hc sc h' e C args I m hq
  obtain ⟨B, a, x, hok, u⟩ := fly_made I m
  refine air_leave (s := { sc with heap := h' }) (B := B) (L := s.heap.objs.size) I.ok.frames rfl a x fun h2 a2 x2 up => ?_
  exact ⟨e, C, none, Hc, rfl, ⟨I.os, I.bare, B, a2, x2, hok, UnB.after I rfl rfl rfl a u up⟩, hq⟩
end
/-- THE RULE for a def that may raise -/
theorem Fun.ok1 {P : Program} {w : World} {K : PySem.W.Frag} {mg : Str → Option Value} {base : Heap} {x qual : Str} {st : Stmt} {f : Addr} {fd : FuncData} {N ps : List Str} {k : Nat} {sp : Sp} (F : Fun K x qual st f fd) (S : FnScope N ps (defScope st)) (len : ∀ vs H Q E, sp vs H Q E → vs.length = ps.length)
    (hbody : ∀ (cdv : Value) (A : Around) (outer : List Env) (s : Shared) (H : Hp) (vs : List V) (Q : VK) (E : XK), Room k (A.deeper (envOfC qual (defScope st) s.heap.objs.size f cdv)) → sp vs H Q E →
      ∃ t, PSs (cxOf (CX1 P w) P w K mg base N qual (defScope st) f cdv A outer s H E) (defBody st) t ∧ t { nx := fun _ H' => Q .non H', rt := Q } (start N vs) H) : FnOk P w K mg base (CX1 P w) (k + 1) f fd ps sp := by
  obtain ⟨oc, od, kV, doc, pm, an, cdv, ct, osl, rfl, lk, hcd⟩ := F.ex
  exact fn_of lk hcd S len fun A outer s H vs Q E hr hsp => hbody cdv A outer s H vs Q E hr hsp
end L2
namespace L2
open PySem PySem.Spec PyProof.Rows
section
variable {X : Cx} {pins : List (Addr × Obj)} {σ : St} {H : Hp} {s : Shared} {W : Value → Shared → Prop} {e : Addr}
end
end L2
namespace L2
open PySem PySem.Spec PyProof.Rows
section
variable {X : Cx} {pins : List (Addr × Obj)} {σ : St} {H : Hp} {C : Value} {d : Option Addr} {e : Addr} {s : Shared}
end
section
variable {X : Cx} {x n : Str} {DA : Addr} {j : Nat} {b₀ : Stmt} {suite : List Stmt} {ts : Addr → TS} {tr : TH} {np hpos pos : Pos} {rest : List ExceptHandler}
end
section
variable {X : Cx} {CX : CXT} {k : Nat} {f : Addr} {fd : FuncData} {ps : List Str} {sp : Sp} {dvs : List V} {ds : List Value} {E : XK} {x : Str} {p pos : Pos} {e : Expr} {es : List Expr} {t : TA} {te : TE} {σ : St}
end
end L2
namespace L2
open PySem PySem.Spec PyProof.Rows
section
variable {prog : Program} {w : World} {A : Around} {E : Value → Shared → Prop} {s : Shared} {K : PySem.W.Frag} {x D : Addr} {ox : Obj} {od : Option Obj} {name : Str}
end
section
variable {X : Cx}
end
end L2
namespace L2
open PySem PySem.Spec PyProof.Rows
section
variable {X : Cx} {o e : Expr} {es : List Expr} {to : TE} {t : TA} {name : Str} {id : String} {r : V → List V → Hp → VK → Prop} {apos cpos : Pos}
theorem idx_first : ∀ (r : List Nat) (j i : Nat), j < r.idxOf i → r[j]? ≠ some i
  | [], j, i, h => by simp at h
  | a :: r, j, i, h => by
    by_cases e : a = i
    · subst e; simp at h
    · cases j with
      | zero => simp; exact e
      | succ j =>
        have h' : j < r.idxOf i := by
          rw [List.idxOf_cons] at h
          have : (a == i) = false := by simpa using e
          rw [this] at h
          simp at h
          exact h
        simpa using idx_first r j i h'
end
end L2
namespace L2
open PySem PySem.Spec PyProof.Rows
structure ClsF (K : PySem.W.Frag) (D : Addr) : Prop where
  ty : PySem.W.typeIn K (.ref D) = some (.type "type")
  cl : PySem.W.isClsIn K D = true
  be : PySem.W.subIn K (.ref D) (.type "BaseException") = some true
  ga : PySem.W.findIn K (.ref D) "__getattribute__" = some (some (.builtin "BaseException.__getattribute__"))
  gt : PySem.W.findIn K (.ref D) "__getattr__" = some none
  ac : PySem.W.findIn K (.ref D) "__class__" = some (some (.builtin "object.__class__"))
  sp : PySem.W.specialIn K (.builtin "object.__class__") "__get__" = some (some (.builtin "getset_descriptor.__get__"))
  tk : PySem.W.takesIn K (.builtin "object.__class__") = some true
  mo : PySem.W.mroIn K D (.type "object") = some true
end L2
namespace L2
open PySem PySem.Spec PyProof.Rows
def Bt (n : Nat) (i : Int) : Prop := i.natAbs < 2 ^ n
theorem Bt.mono {n m : Nat} {i : Int} (h : Bt n i) (l : n ≤ m) : Bt m i := Nat.lt_of_lt_of_le h (Nat.pow_le_pow_right (by decide) l)
theorem Bt.mul {n m : Nat} {i j : Int} (h : Bt n i) (g : Bt m j) : Bt (n + m) (i * j) := by
  unfold Bt at *
  rw [Int.natAbs_mul, Nat.pow_add]
  exact Nat.mul_lt_mul'' h g
theorem Bt.add {n : Nat} {i j : Int} (h : Bt n i) (g : Bt n j) : Bt (n + 1) (i + j) := by
  unfold Bt at *
  rw [Nat.pow_succ]
  generalize (2 : Nat) ^ n = k at h g ⊢
  omega
theorem Bt.neg {n : Nat} {i : Int} (h : Bt n i) : Bt n (-i) := by unfold Bt at *; rwa [Int.natAbs_neg]
theorem Bt.sub {n : Nat} {i j : Int} (h : Bt n i) (g : Bt n j) : Bt (n + 1) (i - j) := by rw [Int.sub_eq_add_neg]; exact h.add g.neg
theorem Bt.log {n : Nat} {i : Int} (h : Bt n i) (h0 : i ≠ 0) : i.natAbs.log2 < n := (Nat.log2_lt (by omega)).mpr h
theorem Bt.bits {n : Nat} {i : Int} (h : Bt n i) : Builtin.Int.intBits i ≤ n := by
  unfold Builtin.Int.intBits
  by_cases e : (i == 0) = true
  · rw [if_pos e]; exact Nat.zero_le _
  · rw [if_neg e]; exact h.log (by simpa using e)
section
variable {X : Cx}
theorem op_mulB : OpR X (binaryOp .Mult) (rI (fun i j => Bt 4000 i ∧ Bt 4000 j) fun i j => .int (i * j)) := opI fun _ _ _ _ _ _ _ hc q =>
  mul_int q (IntMulOk.of_bits (Nat.le_trans hc.1.bits (by decide)) (Nat.le_trans hc.2.bits (by decide)))
end
section
variable {P : Program} {w : World} {K : PySem.W.Frag} {mg : Str → Option Value} {base : Heap}
end
/-- what is called never raises -/
theorem passE0 {P : Program} {w : World} {X : Cx} : Passes (CX1 P w) X E0 := by rintro _ _ _ _ _ _ _ ⟨_, _, _, _, _, _, z⟩; exact z.elim
theorem ite_rest' {c : Prop} [Decidable c] {A : Prop} {N : St → Hp → Prop} {σ : St} {H : Hp} (Pv : St → Hp → Prop) (h0 : ¬ c → Pv σ H) (hr : ∀ σ H, Pv σ H → N σ H) (hA : (∀ σ H, Pv σ H → N σ H) → c → A) : if c then A else N σ H := by
  by_cases h : c
  · rw [if_pos h]; exact hA hr h
  · rw [if_neg h]; exact hr _ _ (h0 h)
end L2
namespace Sq
end Sq
namespace Sq
end Sq
namespace K1
open PySem L2 Sq
def spCd : Sp := fun vs H Q _ => ∃ a b : Int, vs = [.int a, .int b] ∧ Q (.int ((Int.gcd a b : Nat) : Int)) H
section
variable {P : Program} {w : World} {K : PySem.W.Frag} {mg : Str → Option Value} {base : Heap}
abbrev nCd : List Str := ["one", "other", "greater", "lesser", "left_over"]
theorem scCd : FnScope nCd ["one", "other"] (defScope sCommonDivisor) := ⟨rfl, rfl, rfl, by decide +kernel, rfl, by decide +kernel, by decide +kernel⟩
theorem boot_abs : bootBuiltins "abs" = some (.builtin "abs") := by decide +kernel
theorem ok_cd {f : Addr} {fd : FuncData} (hA : mg "abs" = none) (F : Fn K mg "common_divisor" sCommonDivisor ["one", "other"] f fd) : FnOk P w K mg base CX0 1 f fd ["one", "other"] spCd := by
  refine F.F.ok scCd (fun vs H Q E h => ?_) (fun cdv A outer s H vs Q E hr h => ?_)
  · obtain ⟨a, b, rfl, _⟩ := h; rfl
  · obtain ⟨a, b, rfl, k⟩ := h
    refine ⟨_, pss_cons (ps_set (i := 2) scCd.nd rfl (Or.inl rfl) (pe_callB call_abs rfl hA boot_abs (pa_cons (pv 0) pa_nil)))
      (pss_cons (ps_set (i := 3) scCd.nd rfl (Or.inl rfl) (pe_callB call_abs rfl hA boot_abs (pa_cons (pv 1) pa_nil)))
      (pss_cons (ps_while PassesOwn.never (pt_cmpR op_ne (pv 3) pe_int (nomark _))
        (pss_cons (ps_set (i := 4) scCd.nd rfl (Or.inl rfl) (pe_op op_mod (pv 2) (pv 3)))
        (pss_cons (ps_set (i := 2) scCd.nd rfl (Or.inl rfl) (pv 3))
        (pss_one (ps_set (i := 3) scCd.nd rfl (Or.inl rfl) (pv 4))))))
      (pss_one (ps_ret (pv 2))))), ?_⟩
    refine ⟨_, rfl, _, rfl, _, rfl, _, rfl, ?_⟩
    have abs : ∀ i : Int, (if i < 0 then -i else i) = ((i.natAbs : Nat) : Int) := fun i => by split <;> omega
    rw [abs a, abs b]
    refine while_by (fun σ H' => H' = H ∧ ∃ (x y : Nat) (o : Option V), σ = [some (.int a), some (.int b), some (.int (x : Int)), some (.int (y : Int)), o] ∧ Nat.gcd x y = Int.gcd a b)
      (fun σ _ => match σ with | [_, _, _, some (.int y), _] => y.natAbs | _ => 0) ⟨rfl, _, _, none, rfl, rfl⟩ ?_ ?_
    · rintro σ H' ⟨rfl, x, y, o, rfl, hg⟩
      refine ⟨_, rfl, rfl, _, rfl, ?_⟩
      refine ite2 (fun h => ?_) (fun h => ?_)
      · have hy : (y : Int) ≠ 0 := by simpa using h
        refine ⟨_, rfl, _, rfl, _, _, rfl, rfl, (by show (0 : Int) < (y : Int); omega), ?_⟩
        refine ⟨_, rfl, _, rfl, ?_⟩
        refine ⟨⟨rfl, y, x % y, some (.int ((x % y : Nat) : Int)), by simp [Int.natCast_emod], ?_⟩, ?_⟩
        · rw [← hg, Nat.gcd_comm x y, Nat.gcd_rec y x, Nat.gcd_comm]
        · show ((x : Int) % (y : Int)).natAbs < ((y : Int)).natAbs
          have := Nat.mod_lt x (show 0 < y by omega)
          rw [← Int.natCast_emod, Int.natAbs_natCast, Int.natAbs_natCast]; exact this
      · have hy : (y : Int) = 0 := by simpa using h
        have : y = 0 := by omega
        subst this
        rw [Nat.gcd_zero_right] at hg
        refine ⟨_, rfl, ?_⟩
        rw [hg]; exact k
    · rintro σ H' Q1 Q2 hq ⟨x, e1, e2, y, e3, e4⟩
      exact ⟨x, e1, e2, y, e3, hq _ _ e4⟩
end
end K1
namespace K1
open PySem L2 Sq
def Way (p q : Int) : Prop := p.natAbs ≤ 60 ∧ q.natAbs ≤ 60 ∧ ¬ (p = 0 ∧ q = 0)
def spNW : Sp := fun vs H Q _ => ∃ p q : Int, vs = [.int p, .int q] ∧ Way p q ∧ Q .non H
def spNS : Sp := fun vs H Q _ => ∃ p q : Int, vs = [.int p, .int q] ∧ Way p q ∧ Int.gcd p q = 1 ∧ Q .non H
section
variable {P : Program} {w : World} {K : PySem.W.Frag} {mg : Str → Option Value} {base : Heap}
theorem scNw : FnScope ["p", "q"] ["p", "q"] (defScope sNeedWay) := ⟨rfl, rfl, rfl, by decide +kernel, rfl, by decide +kernel, by decide +kernel⟩
theorem scNs : FnScope ["p", "q"] ["p", "q"] (defScope sNeedStraightWay) := ⟨rfl, rfl, rfl, by decide +kernel, rfl, by decide +kernel, by decide +kernel⟩
theorem ok_nw {f : Addr} {fd : FuncData} {tk : Tok} (hA : mg "abs" = none) (hF : mg "FARTHEST" = some (.int 60 tk)) (F : Fn K mg "need_way" sNeedWay ["p", "q"] f fd) : FnOk P w K mg base CX0 1 f fd ["p", "q"] spNW := by
  refine F.F.ok scNw (fun vs H Q E h => ?_) (fun cdv A outer s H vs Q E hr h => ?_)
  · obtain ⟨p, q, rfl, _⟩ := h; rfl
  · obtain ⟨p, q, rfl, ⟨hp, hq, h0⟩, k⟩ := h
    refine ⟨_, pss_one (ps_if (PW.pt (pw_or (pt_cmpR op_gt (pe_callB call_abs rfl hA boot_abs (pa_cons (pv 0) pa_nil)) (pe_glob (v := .int 60) (by rfl) hF ⟨_, rfl⟩) (nomark _)) (pw_or (pt_cmpR op_gt (pe_callB call_abs rfl hA boot_abs (pa_cons (pv 1) pa_nil)) (pe_glob (v := .int 60) (by rfl) hF ⟨_, rfl⟩) (nomark _))
      (pw_or1 (PW.pt (pw_and (pt_cmpR op_eq (pv 0) pe_int (nomark _)) (pw_and1 (pt_cmpR op_eq (pv 1) pe_int (nomark _))))))))) pss_never pss_nil), ?_⟩
    refine ⟨_, rfl, _, rfl, _, _, rfl, rfl, _, rfl, ?_⟩
    rw [decide_eq_false (by split <;> omega)]
    refine iteF ?_
    refine ⟨_, rfl, _, rfl, _, _, rfl, rfl, _, rfl, ?_⟩
    rw [decide_eq_false (by split <;> omega)]
    refine iteF ?_
    refine ⟨_, rfl, rfl, _, rfl, ?_⟩
    by_cases e : p = 0
    · subst e
      refine iteT ?_
      refine ⟨_, rfl, rfl, _, rfl, ?_⟩
      rw [decide_eq_false (by intro z; exact h0 ⟨rfl, V.int.inj z⟩)]
      refine iteF ?_
      exact k
    · rw [decide_eq_false (by intro z; exact e (V.int.inj z))]
      refine iteF ?_
      refine iteF ?_
      exact k
theorem ok_ns {f fn fc : Addr} {fd fdn fdc : FuncData} (F : Fn K mg "need_straight_way" sNeedStraightWay ["p", "q"] f fd) (FN : Fn K mg "need_way" sNeedWay ["p", "q"] fn fdn) (GN : FnOk P w K mg base CX0 1 fn fdn ["p", "q"] spNW)
    (FC : Fn K mg "common_divisor" sCommonDivisor ["one", "other"] fc fdc) (GC : FnOk P w K mg base CX0 1 fc fdc ["one", "other"] spCd) : FnOk P w K mg base CX0 2 f fd ["p", "q"] spNS := by
  refine F.F.ok scNs (fun vs H Q E h => ?_) (fun cdv A outer s H vs Q E hr h => ?_)
  · obtain ⟨p, q, rfl, _⟩ := h; rfl
  · obtain ⟨p, q, rfl, hw, hg, k⟩ := h
    have hr1 : Room 1 _ := hr.mono (by decide)
    refine ⟨_, pss_cons (ps_expr (pe_call GN hr1 rfl FN.m FN.F.kp FN.b .nil pass0 (pa_cons (pv 0) (pa_cons (pv 1) pa_nil))))
      (pss_one (ps_if (pt_cmpR op_gt (pe_call GC hr1 rfl FC.m FC.F.kp FC.b .nil pass0 (pa_cons (pv 0) (pa_cons (pv 1) pa_nil))) pe_int (nomark _)) pss_never pss_nil)), ?_⟩
    refine ⟨_, rfl, _, rfl, p, q, rfl, hw, ?_⟩
    refine ⟨_, rfl, _, rfl, p, q, rfl, _, _, rfl, rfl, _, rfl, ?_⟩
    rw [hg]
    refine iteF ?_
    exact k
end
end K1
namespace K1
open PySem L2 Sq
abbrev T3 : Type := Int × Int × Int
def euS (o t : T3) : T3 := (o.1 - o.1.fdiv t.1 * t.1, o.2.1 - o.1.fdiv t.1 * t.2.1, o.2.2 - o.1.fdiv t.1 * t.2.2)
def eu : Nat → T3 → T3 → T3
  | 0, o, _ => o
  | n + 1, o, t => if t.1 = 0 then o else eu n t (euS o t)
theorem eu_stop (n : Nat) (o t : T3) (h : t.1 = 0) : eu n o t = o := by
  cases n with
  | zero => rfl
  | succ n => simp [eu, h]
theorem fm_lt (a b : Int) (h : b ≠ 0) : (a - a.fdiv b * b).natAbs < b.natAbs := by
  have e : a - a.fdiv b * b = a.fmod b := by rw [Int.fmod_def, Int.mul_comm]
  rw [e]
  rcases Int.lt_or_lt_of_ne h with hn | hn
  · have e2 := Int.neg_fmod_neg a b
    have h1 := Int.fmod_nonneg_of_pos (-a) (b := -b) (by omega)
    have h2 := Int.fmod_lt_of_pos (-a) (b := -b) (by omega)
    rw [e2] at h1 h2
    omega
  · have h1 := Int.fmod_nonneg_of_pos a hn
    have h2 := Int.fmod_lt_of_pos a hn
    omega
def eu0 (p q : Int) : T3 := eu 60 (p, 1, 0) (q, 0, 1)
def wt0 (p q : Int) : Int := (eu0 p q).1 * (eu0 p q).2.1
def wt1 (p q : Int) : Int := (eu0 p q).1 * (eu0 p q).2.2
/-- what holds of the two triples at each turn -/
structure EuI (p q : Int) (o t : T3) : Prop where
  o1 : o.1 = o.2.1 * p + o.2.2 * q
  t1 : t.1 = t.2.1 * p + t.2.2 * q
  ol : o.1.natAbs ≤ 60
  gc : Int.gcd o.1 t.1 = Int.gcd p q
  bd : ∃ k, t.1.natAbs + k ≤ 60 ∧ Bt (8 * k + 1) o.2.1 ∧ Bt (8 * k + 1) o.2.2 ∧ Bt (8 * k + 1) t.2.1 ∧ Bt (8 * k + 1) t.2.2
  at' : ∃ n, t.1.natAbs ≤ n ∧ eu n o t = eu0 p q
theorem bt1 : Bt (8 * 0 + 1) 1 := by show (1 : Int).natAbs < 2 ^ 1; decide
theorem bt0 : Bt (8 * 0 + 1) 0 := by show (0 : Int).natAbs < 2 ^ 1; decide
theorem EuI.start {p q : Int} (hp : p.natAbs ≤ 60) (hq : q.natAbs ≤ 60) : EuI p q (p, 1, 0) (q, 0, 1) :=
  ⟨by show p = 1 * p + 0 * q; grind, by show q = 0 * p + 1 * q; grind, hp, rfl, ⟨0, by simpa using hq, bt1, bt0, bt0, bt1⟩, 60, by simpa using hq, rfl⟩
theorem EuI.step {p q : Int} {o t : T3} (h : EuI p q o t) (h0 : t.1 ≠ 0) : EuI p q t (euS o t) := by
  have hl := fm_lt o.1 t.1 h0
  have hm : (o.1.fdiv t.1).natAbs ≤ o.1.natAbs := Int.natAbs_fdiv_le_natAbs o.1 t.1
  have hol := h.ol
  obtain ⟨k, hk, b1, b2, b3, b4⟩ := h.bd
  obtain ⟨n, hn, en⟩ := h.at'
  have bm : Bt 6 (o.1.fdiv t.1) := by unfold Bt; omega
  refine ⟨h.t1, ?_, by omega, ?_, ⟨k + 1, ?_, b3.mono (by omega), b4.mono (by omega), ?_, ?_⟩, n - 1, ?_, ?_⟩
  · show o.1 - o.1.fdiv t.1 * t.1 = (o.2.1 - o.1.fdiv t.1 * t.2.1) * p + (o.2.2 - o.1.fdiv t.1 * t.2.2) * q
    have e1 := h.o1
    have e2 := h.t1
    generalize o.1.fdiv t.1 = m
    grind
  · show Int.gcd t.1 (o.1 - o.1.fdiv t.1 * t.1) = _
    rw [Int.gcd_sub_mul_right_right, Int.gcd_comm]; exact h.gc
  · show (o.1 - o.1.fdiv t.1 * t.1).natAbs + (k + 1) ≤ 60
    omega
  · exact ((b1.mono (m := 6 + (8 * k + 1)) (by omega)).sub (bm.mul b3)).mono (by omega)
  · exact ((b2.mono (m := 6 + (8 * k + 1)) (by omega)).sub (bm.mul b4)).mono (by omega)
  · show (o.1 - o.1.fdiv t.1 * t.1).natAbs ≤ n - 1
    omega
  · obtain ⟨n', rfl⟩ : ∃ n', n = n' + 1 := ⟨n - 1, by omega⟩
    rw [← en]
    simp [eu, h0]
theorem EuI.last {p q : Int} {o t : T3} (h : EuI p q o t) (h0 : t.1 = 0) : o = eu0 p q := by
  obtain ⟨n, _, en⟩ := h.at'
  rw [← en, eu_stop _ _ _ h0]
theorem EuI.one {p q : Int} {o t : T3} (h : EuI p q o t) (h0 : t.1 = 0) (hg : Int.gcd p q = 1) : wt0 p q * p + wt1 p q * q = 1 ∧ Bt 600 (wt0 p q) ∧ Bt 600 (wt1 p q) := by
  have e := h.last h0
  have g := h.gc
  rw [h0, hg, Int.gcd_zero_right] at g
  obtain ⟨k, hk, b1, b2, b3, b4⟩ := h.bd
  have b0 : Bt 6 o.1 := by unfold Bt; omega
  have eo := h.o1
  unfold wt0 wt1
  rw [← e]
  refine ⟨?_, (b0.mul b1).mono (by omega), (b0.mul b2).mono (by omega)⟩
  have : o.1 * o.1 = 1 := by
    have : o.1 = 1 ∨ o.1 = -1 := by omega
    rcases this with z | z <;> rw [z] <;> rfl
  grind
def tr3 (o : T3) : HO := .tup [.int o.1, .int o.2.1, .int o.2.2]
def muT (σ : St) (H : Hp) : Nat :=
  match σ with
  | [_, _, _, some (.ref a), _, _] => match H a with
    | some (.tup (.int s :: _)) => s.natAbs
    | _ => 0
  | _ => 0
def spWo : Sp := fun vs H Q _ => ∃ p q : Int, vs = [.int p, .int q] ∧ Way p q ∧ Int.gcd p q = 1 ∧ ∀ (H' : Hp) (l : Addr), Same H H' → H' l = some (.tup [.int (wt0 p q), .int (wt1 p q)]) → wt0 p q * p + wt1 p q * q = 1 → Bt 600 (wt0 p q) → Bt 600 (wt1 p q) → Q (.ref l) H'
section
variable {P : Program} {w : World} {K : PySem.W.Frag} {mg : Str → Option Value} {base : Heap}
abbrev nWo : List Str := ["p", "q", "one", "other", "many", "less"]
theorem scWo : FnScope nWo ["p", "q"] (defScope sWeightsToOne) := ⟨rfl, rfl, rfl, by decide +kernel, rfl, by decide +kernel, by decide +kernel⟩
set_option maxHeartbeats 1000000 in
theorem ok_wo {f : Addr} {fd : FuncData} (F : Fn K mg "weights_to_one" sWeightsToOne ["p", "q"] f fd) : FnOk P w K mg base CX0 1 f fd ["p", "q"] spWo := by
  refine F.F.ok scWo (fun vs H Q E h => ?_) (fun cdv A outer s H vs Q E hr h => ?_)
  · obtain ⟨p, q, rfl, _⟩ := h; rfl
  · obtain ⟨p, q, rfl, ⟨hp, hq, _⟩, hg, k⟩ := h
    refine ⟨_, pss_cons (ps_set (i := 2) scWo.nd rfl (Or.inl rfl) (pe_tup (pa_cons (pv 0) (pa_cons pe_int (pa_cons pe_int pa_nil)))))
      (pss_cons (ps_set (i := 3) scWo.nd rfl (Or.inl rfl) (pe_tup (pa_cons (pv 1) (pa_cons pe_int (pa_cons pe_int pa_nil)))))
      (pss_cons (ps_while PassesOwn.never (pt_cmpR op_ne (pe_ix ix_tup (pv 3) pe_int (fun _ _ => rfl)) pe_int (nomark _))
        (pss_cons (ps_set (i := 4) scWo.nd rfl (Or.inl rfl) (pe_op op_fdivN (pe_ix ix_tup (pv 2) pe_int (fun _ _ => rfl)) (pe_ix ix_tup (pv 3) pe_int (fun _ _ => rfl))))
        (pss_cons (ps_set (i := 5) scWo.nd rfl (Or.inl rfl) (pe_tup (pa_cons (pe_op op_sub (pe_ix ix_tup (pv 2) pe_int (fun _ _ => rfl)) (pe_op op_mul (pv 4) (pe_ix ix_tup (pv 3) pe_int (fun _ _ => rfl))))
            (pa_cons (pe_op op_sub (pe_ix ix_tup (pv 2) pe_int (fun _ _ => rfl)) (pe_op op_mul (pv 4) (pe_ix ix_tup (pv 3) pe_int (fun _ _ => rfl))))
            (pa_cons (pe_op op_sub (pe_ix ix_tup (pv 2) pe_int (fun _ _ => rfl)) (pe_op op_mul (pv 4) (pe_ix ix_tup (pv 3) pe_int (fun _ _ => rfl)))) pa_nil)))))
        (pss_cons (ps_set (i := 2) scWo.nd rfl (Or.inl rfl) (pv 3))
        (pss_one (ps_set (i := 3) scWo.nd rfl (Or.inl rfl) (pv 5)))))))
      (pss_one (ps_ret (pe_tup (pa_cons (pe_op op_mul (pe_ix ix_tup (pv 2) pe_int (fun _ _ => rfl)) (pe_ix ix_tup (pv 2) pe_int (fun _ _ => rfl))) (pa_cons (pe_op op_mul (pe_ix ix_tup (pv 2) pe_int (fun _ _ => rfl)) (pe_ix ix_tup (pv 2) pe_int (fun _ _ => rfl))) pa_nil))))))), ?_⟩
    have z3 : 3 ≤ sizeLine := by decide
    refine ⟨_, rfl, z3, fun a ha => ?_⟩
    refine ⟨_, rfl, z3, fun b hb => ?_⟩
    have s1 := same_upd (o := tr3 (p, 1, 0)) (Same.refl H) ha
    refine while_by (fun σ H2 => ∃ (x y : Addr) (o t : T3) (m l : Option V), σ = [some (.int p), some (.int q), some (.ref x), some (.ref y), m, l] ∧ Same H H2 ∧ H2 x = some (tr3 o) ∧ H2 y = some (tr3 t) ∧ EuI p q o t) muT ?_ ?_ ?_
    · refine ⟨a, b, (p, 1, 0), (q, 0, 1), none, none, rfl, same_upd s1 (s1.free hb), ?_, upd_same, EuI.start hp hq⟩
      have : (upd H a (tr3 (p, 1, 0))) a = some (tr3 (p, 1, 0)) := upd_same
      show (upd (upd H a (tr3 (p, 1, 0))) b _) a = _
      rw [upd_ne (ne_of_none this hb)]; exact this
    · rintro σ H2 ⟨x, y, o, t, m, l, rfl, s2, hx, hy, I⟩
      have hx := SqT.of (K := K) hx
      have hy' := SqT.of (K := K) hy
      refine ⟨_, rfl, y, _, 0, _, rfl, rfl, hy', atI_nat (j := 0) rfl, rfl, _, rfl, ?_⟩
      by_cases e : t.1 = 0
      · refine iteNS (by rw [e]) ?_
        obtain ⟨e1, e2, e3⟩ := I.one e hg
        have el := I.last e
        have c1 : CMul o.1 o.2.1 := .inl (by have := I.ol; constructor <;> omega)
        have c2 : CMul o.1 o.2.2 := .inl (by have := I.ol; constructor <;> omega)
        refine ⟨_, rfl, x, _, 0, _, rfl, rfl, hx, atI_nat (j := 0) rfl, _, rfl, x, _, 1, _, rfl, rfl, hx, atI_nat (j := 1) rfl, _, _, rfl, rfl, c1, ?_⟩
        refine ⟨_, rfl, x, _, 0, _, rfl, rfl, hx, atI_nat (j := 0) rfl, _, rfl, x, _, 2, _, rfl, rfl, hx, atI_nat (j := 2) rfl, _, _, rfl, rfl, c2, ?_⟩
        refine ⟨by show 2 ≤ sizeLine; decide, fun d hd => ?_⟩
        refine k _ d (same_upd s2 (s2.free hd)) ?_ e1 e2 e3
        rw [upd_same]; unfold wt0 wt1; rw [← el]
      · rw [decide_eq_false (by intro z; exact e (V.int.inj z))]
        refine iteT ?_
        have hm : (o.1.fdiv t.1).natAbs ≤ 60 := Nat.le_trans (Int.natAbs_fdiv_le_natAbs o.1 t.1) I.ol
        have cm : ∀ j, CMul (o.1.fdiv t.1) j := fun j => .inl (by constructor <;> omega)
        obtain ⟨kk, hkk, _⟩ := I.bd
        refine ⟨_, rfl, x, _, 0, _, rfl, rfl, hx, atI_nat (j := 0) rfl, _, rfl, y, _, 0, _, rfl, rfl, hy', atI_nat (j := 0) rfl, _, _, rfl, rfl, ⟨e, by omega⟩, ?_⟩
        refine ⟨_, rfl, x, _, 0, _, rfl, rfl, hx, atI_nat (j := 0) rfl, _, rfl, _, rfl, y, _, 0, _, rfl, rfl, hy', atI_nat (j := 0) rfl, _, _, rfl, rfl, cm _, _, _, rfl, rfl, ?_⟩
        refine ⟨_, rfl, x, _, 1, _, rfl, rfl, hx, atI_nat (j := 1) rfl, _, rfl, _, rfl, y, _, 1, _, rfl, rfl, hy', atI_nat (j := 1) rfl, _, _, rfl, rfl, cm _, _, _, rfl, rfl, ?_⟩
        refine ⟨_, rfl, x, _, 2, _, rfl, rfl, hx, atI_nat (j := 2) rfl, _, rfl, _, rfl, y, _, 2, _, rfl, rfl, hy', atI_nat (j := 2) rfl, _, _, rfl, rfl, cm _, _, _, rfl, rfl, ?_⟩
        refine ⟨z3, fun d hd => ?_⟩
        refine ⟨_, rfl, _, rfl, ⟨y, d, t, euS o t, _, _, rfl, same_upd s2 (s2.free hd), ?_, upd_same, I.step e⟩, ?_⟩
        · rw [upd_ne (ne_of_none hy hd)]; exact hy
        · have m1 : ∀ (a1 a2 a3 a5 a6 : Option V) (z : Addr) (H9 : Hp) (o9 : T3), H9 z = some (tr3 o9) → muT [a1, a2, a3, some (.ref z), a5, a6] H9 = o9.1.natAbs := fun a1 a2 a3 a5 a6 z H9 o9 h9 => by
            simp only [muT, h9, tr3]
          have e1 := m1 (some (.int p)) (some (.int q)) (some (.ref y)) (some (.int (o.1.fdiv t.1))) (some (.ref d)) d (upd H2 d (tr3 (euS o t))) (euS o t) upd_same
          have e2 := m1 (some (.int p)) (some (.int q)) (some (.ref x)) m l y H2 t hy
          exact e2 ▸ (Nat.lt_of_le_of_lt (Nat.le_of_eq e1) (fm_lt o.1 t.1 e))
    · rintro σ H Q Q' h ⟨v, e1, a, xs, i, v2, q1, q2, q3, q4, q5, w', e', q6⟩
      exact ⟨v, e1, a, xs, i, v2, q1, q2, q3, q4, q5, w', e', h _ _ q6⟩
end
end K1
namespace K1
open PySem L2 Sq
def wts (p q : Int) : Bool := decide ((wt0 p q).natAbs ≤ 60) && (decide ((wt1 p q).natAbs ≤ 60) && decide (wt0 p q * p + wt1 p q * q = 1))
theorem wts60 : ((List.range 121).all fun i => (List.range 121).all fun j => (Int.gcd ((i : Int) - 60) ((j : Int) - 60) != 1) || wts ((i : Int) - 60) ((j : Int) - 60)) = true := by decide +kernel
theorem wts_of {p q : Int} (h1 : p.natAbs ≤ 60) (h2 : q.natAbs ≤ 60) (h3 : Int.gcd p q = 1) : (wt0 p q).natAbs ≤ 60 ∧ (wt1 p q).natAbs ≤ 60 ∧ wt0 p q * p + wt1 p q * q = 1 := by
  have h := wts60
  rw [List.all_eq_true] at h
  have h := h (p + 60).toNat (List.mem_range.mpr (by omega))
  rw [List.all_eq_true] at h
  have h := h (q + 60).toNat (List.mem_range.mpr (by omega))
  rw [show (((p + 60).toNat : Nat) : Int) - 60 = p from by omega, show (((q + 60).toNat : Nat) : Int) - 60 = q from by omega, h3] at h
  have h : wts p q = true := by simpa using h
  unfold wts at h
  rw [Bool.and_eq_true, Bool.and_eq_true, decide_eq_true_iff, decide_eq_true_iff, decide_eq_true_iff] at h
  exact h
end K1
namespace L2
open PySem PySem.Spec PyProof.Rows
section
variable {X : Cx} {o i value : Expr} {pos pos' : Pos} {to ti tv : TE}
/-- xs[i] = v -/
def sLPut (to ti tv : TE) : TS := fun D σ H => tv σ H fun v H1 => to σ H1 fun x H2 => ti σ H2 fun y H3 => rSetL x y v H3 fun H4 => D.nx σ H4
theorem ps_lput (ho : PE X o to) (hi : PE X i ti) (hv : PE X value tv) (hs : swapsWith value (some (.Subscript o i pos')) pos.line X.env = pure false) : PS X (.Assign [.Subscript o i pos'] value pos) (sLPut to ti tv) := by
  intro pins s σ H D I h
  refine wpAny_Assign_Subscript (thn (hv pins s σ H _ I h) fun r s1 ⟨v, H1, I1, rv, q1⟩ => thn (ho pins s1 σ H1 _ I1 q1) fun u s2 ⟨x, H2, I2, rx, q2⟩ => thn (hi pins s2 σ H2 _ I2 q2) fun iv s3 ⟨y, H3, I3, ry, q3⟩ => ?_) hs
  exact thn (set_list pins s3 σ H3 x y v u iv r _ I3 rx ry rv q3) fun _ s4 ⟨H4, I4, q4⟩ => ⟨σ, H4, I4, q4⟩
end
end L2
namespace K1
open PySem L2 Sq
theorem nv_set (xs : List Nat) (j x : Nat) : (nv xs).set j (.int (x : Int)) = nv (xs.set j x) := by
  unfold nv
  rw [List.map_set]
theorem back_fill {n : Nat} {r bl : List Nat} (rr : Row n r) (hl : bl.length = n) (h : ∀ k, k < n → bl[nx r k]? = some k) : bl = back r := by
  refine List.ext_getElem? fun x => ?_
  by_cases hx : x < n
  · have e := h (r.idxOf x) (rr.idx_lt hx)
    rw [rr.nx_idx hx] at e
    rw [e, rr.back.get hx, back_nx rr hx]
  · rw [List.getElem?_eq_none (by omega), List.getElem?_eq_none (by rw [back_len, rr.len]; omega)]
theorem all_rep (n : Nat) : (List.replicate n true).all id = true := by
  rw [List.all_eq_true]
  intro x hx
  rw [(List.mem_replicate.mp hx).2]; rfl
end K1
namespace K1
open PySem L2 Sq
def spBackRow : Sp := fun vs H Q _ => ∃ (p : Addr) (n : Nat) (r : List Nat), vs = [.ref p] ∧ H p = some (.tup (nv r)) ∧ Row n r ∧ n ≤ 36 ∧ ∀ (H' : Hp) (l : Addr), Same H H' → H' l = some (.tup (nv (back r))) → Q (.ref l) H'
section
variable {P : Program} {w : World} {K : PySem.W.Frag} {mg : Str → Option Value} {base : Heap}
theorem scBackRow : FnScope ["row", "back", "square", "target"] ["row"] (defScope sBackRow) := ⟨rfl, rfl, rfl, by decide +kernel, rfl, by decide +kernel, by decide +kernel⟩
theorem ok_backRow {f : Addr} {fd : FuncData} (T : Bi mg) (F : Fn K mg "back_row" sBackRow ["row"] f fd) : FnOk P w K mg base CX0 1 f fd ["row"] spBackRow := by
  refine F.F.ok scBackRow (fun vs H Q E h => ?_) (fun cdv A outer s H vs Q E hr h => ?_)
  · obtain ⟨p, n, r, rfl, _⟩ := h; rfl
  · obtain ⟨p, n, r, rfl, hp, rr, hn, k⟩ := h
    refine ⟨_, pss_cons (ps_set (i := 1) scBackRow.nd rfl (Or.inl rfl) (pe_callTy call_list_of rfl T.list boot_list (pa_cons (pv 0) pa_nil)))
      (pss_cons (ps_for PassesOwn.never rfl (pi_enumT rfl T.enum (pa_cons (pv 0) pa_nil)) (pg_tupE rfl (pgs_cons (pg_name (i := 2) scBackRow.nd rfl (Or.inl rfl)) (pgs_cons (pg_name (i := 3) scBackRow.nd rfl (Or.inl rfl)) pgs_nil)))
        (pss_one (ps_lput (pv 1) (pv 3) (pv 2) rfl)))
      (pss_one (ps_ret (pe_callTy call_tuple_of rfl T.tuple boot_tuple (pa_cons (pv 1) pa_nil))))), ?_⟩
    refine ⟨_, rfl, p, _, rfl, .inr (SqT.of hp), fun lb hlb => ?_⟩
    have s1 : Same H (upd H lb (.lst (nv r))) := same_upd (Same.refl H) hlb
    refine ⟨_, rfl, p, rfl, ⟨_, SqT.of (s1 _ _ hp)⟩, for_en (xs := nv r) (fun i σ H2 => ∃ o2 o3 bl, σ = [some (.ref p), some (.ref lb), o2, o3] ∧ Same H H2 ∧ H2 lb = some (.lst (nv bl)) ∧ bl.length = n ∧ ∀ k, k < i → bl[nx r k]? = some k)
      ⟨_, _, r, rfl, s1, upd_same, rr.len, fun k hk => absurd hk (Nat.not_lt_zero _)⟩ (fun i σ H2 _ ⟨_, _, _, _, s2, _⟩ => SqT.of (s2 _ _ hp)) ?_ ?_⟩
    · rintro i x σ H2 T' hx hT ⟨o2, o3, bl, rfl, s2, h2, hbl, hall⟩
      obtain ⟨y, hy, rfl⟩ := nv_get' hx
      have hi : i < n := by rw [← rr.len]; exact (List.getElem?_eq_some_iff.mp hy).1
      have ey : y = nx r i := by have := rr.get hi; rw [hy] at this; exact Option.some.inj this
      have hyn : y < n := by rw [ey]; exact rr.nlt hi
      have h2' : (upd H2 T' (tupE T' [.int (i : Int), .int (y : Int)])) lb = some (.lst (nv bl)) := by rw [upd_ne (ne_of_none h2 hT)]; exact h2
      refine ⟨T', _, rfl, upd_same, rfl, _, _, rfl, _, _, rfl, rfl, ?_⟩
      refine ⟨_, rfl, _, rfl, _, rfl, lb, _, _, y, rfl, rfl, h2', ?_, ?_⟩
      · unfold ixN
        rw [if_pos (by omega), if_pos (by rw [nv_len, hbl]; omega)]
        simp
      refine ⟨_, _, bl.set y i, rfl, same_upd (same_upd s2 (s2.free hT)) hlb, by rw [upd_same, nv_set], by rw [List.length_set]; exact hbl, fun k hk => ?_⟩
      rcases Nat.lt_or_ge k i with c | c
      · have hne : y ≠ nx r k := fun z => by
          rw [ey] at z
          have := rr.inj hi (by omega) z
          omega
        rw [List.getElem?_set_ne hne]
        exact hall k c
      · have : k = i := by omega
        subst this
        rw [← ey, List.getElem?_set_self (by rw [hbl]; exact hyn)]
    · rintro σ H2 ⟨o2, o3, bl, rfl, s2, h2, hbl, hall⟩
      rw [nv_len, rr.len] at hall
      have e := back_fill rr hbl hall
      subst e
      refine ⟨_, rfl, lb, _, rfl, .inl ⟨SqL.of h2, fun l hl => k _ l (same_upd s2 (s2.free hl)) upd_same⟩⟩
end
end K1
namespace L2
open PySem PySem.Spec PyProof.Rows
section
variable {X : Cx}
def rIndexL : V → List V → Hp → VK → Prop := fun x vs H Q => ∃ (p : Addr) (r : List Nat) (i : Nat), x = .ref p ∧ vs = [.int (i : Int)] ∧ H p = some (.lst (nv r)) ∧ i ∈ r ∧ Q (.int (r.idxOf i : Nat)) H
def eInt (i : Int) : Value → Bool
  | .int m _ => m == i
  | _ => false
theorem mt_indexL : MtR X "list.index" rIndexL := by
  intro pins s σ H x vs v us Q I rx rv h
  obtain ⟨p, r, i, rfl, rfl, hp, hi, q⟩ := h
  cases rx
  obtain ⟨u, rfl, t, rfl⟩ := rv.one
  obtain ⟨z, its, n, r', hl, e⟩ := I.lstM hp
  have hlen : its.length = r.length := by rw [← r'.length, nv_len]
  have item : ∀ (j : Nat) (hj : j < its.length), ∃ (m : Nat) (t : Tok), r[j]? = some m ∧ its[j] = .int (m : Int) t := fun j hj => by
    have hj' : j < r.length := by rw [← hlen]; exact hj
    obtain ⟨u, hu, ru⟩ := r'.get (nv_get (List.getElem?_eq_getElem hj'))
    rw [List.getElem?_eq_getElem hj] at hu
    obtain ⟨t, ht⟩ := ru
    exact ⟨_, t, List.getElem?_eq_getElem hj', (Option.some.inj hu).trans ht⟩
  have hil := List.idxOf_lt_length_of_mem hi
  have hlt : r.idxOf i < its.length := by rw [hlen]; exact hil
  have hz63 : (sizeLine : Nat) ≤ 2 ^ 62 := by decide
  refine call_meets PySem.F.slot_list_index ⟨_, e, rfl⟩ PySem.F.entry_list_index (PySem.F.args_list_index_2 _ _) (SeqAt.list_indexAt p its.toArray n none #[] (.int (i : Int) t) (eInt (i : Int)) (r.idxOf i) (by rw [List.size_toArray]; exact hlt) (by
      have : nv r = nv r := rfl
      have hl2 : (nv r).length ≤ sizeLine := z
      rw [nv_len] at hl2
      omega) ?_ (fun m hm hlt' => ?_)) ⟨e, fun y hy => ?_, ?_⟩
  · obtain ⟨m, t', hm, ey⟩ := item _ hlt
    rw [List.getElem_toArray, ey]
    rw [List.getElem?_eq_getElem hil, List.getElem_idxOf hil] at hm
    show ((m : Int) == (i : Int)) = true
    rw [← Option.some.inj hm]; simp
  · have hm' : m < its.length := by simpa using hm
    obtain ⟨k, t', hk, ey⟩ := item m hm'
    rw [List.getElem_toArray, ey]
    show ((k : Int) == (i : Int)) = false
    have hne : k ≠ i := fun z => idx_first r m i hlt' (by rw [← z]; exact hk)
    simp; omega
  · have hy : y ∈ its := by simpa using hy
    obtain ⟨j, hj, ey⟩ := List.mem_iff_getElem.mp hy
    obtain ⟨m, t', _, e2⟩ := item j hj
    rw [← ey, e2]
    exact SeqAt.EqAt.int_int (m : Int) t' (i : Int) t
  · exact ⟨.int (r.idxOf i : Nat), H, I.tok _, ⟨_, rfl⟩, q⟩
end
end L2
namespace L2
open PySem PySem.Spec PyProof.Rows
section
variable {X : Cx} {elts : List Expr} {k : Nat} {tpos : Pos}
end
end L2
namespace L2
open PySem PySem.Spec PyProof.Rows
section
variable {X : Cx}
end
end L2
namespace L2
open PySem PySem.Spec PyProof.Rows
theorem comp_turnIf {prog : Program} {w : World} {A : Around} {R : Result → Shared → Prop} {s : Shared} {elt target iter cnd : Expr} {scope : Scope} {pos : Pos} {it acc : Value} {env : Env} (I : Nat → Shared → Prop)
    (turn : ∀ n s, I n s → wpAny (model prog w) A (pyNext it) (fun r s₁ => match r with
      | none => R (.ok .next) s₁
      | some v => wpAny (model prog w) A (letOwnedTupleGo target it v) (fun _ s₀ => wpAny (model prog w) A (assign target env v) (fun _ s₂ =>
          wpAny (model prog w) A (isTrue cnd env (eval cnd env)) (fun ok s₃ => if ok = true then
          wpAny (model prog w) A (eval elt env) (fun x s₄ =>
              wpAny (model prog w) A (call (.builtin "list.append") [acc, x]) (fun _ s₅ => ∃ m, m < n ∧ I m s₅) (notedBy (model prog w) A env fun e s' => R (.error e) s') s₄) (notedBy (model prog w) A env fun e s' => R (.error e) s') s₃
            else ∃ m, m < n ∧ I m s₃) (notedBy (model prog w) A env fun e s' => R (.error e) s') s₂)
          (notedBy (model prog w) A env fun e s' => R (.error e) s') s₀) (notedBy (model prog w) A env fun e s' => R (.error e) s') s₁) (notedBy (model prog w) A env fun e s' => R (.error e) s') s)
    (n : Nat) (h : I n s) :
    codeAny (model prog w) A (.compLoop (.ListComp elt [⟨target, iter, [cnd], 0⟩] scope pos) 0 it acc env) R s := by
  refine codeAny_loop rfl I (fun n s hI => ?_) n h
  show wpAny _ A ((compTurn (.ListComp elt [⟨target, iter, [cnd], 0⟩] scope pos) 0 it acc env).onRaise (fun x => do noteFrame x env; theTreesLotGoes x)) _ _ s
  refine wpAny_noted ?_
  rw [compTurn_list]
  refine wpAny_bind (wpAny_standAt (wpAny_bind (wpAny_mono (turn n s hI) (fun r s₁ h₁ => ?_) fun _ _ h' => h')))
  cases r with
  | none => exact wpAny_pure h₁
  | some v =>
    refine wpAny_bind (wpAny_mono h₁ (fun _ s₀ h₀ => ?_) fun _ _ h' => h')
    refine wpAny_bind (wpAny_mono h₀ (fun _ s₂ h₂ => wpAny_bind (wpAny_tests_one (wpAny_mono h₂ (fun ok s₃ h₃ => ?_) fun _ _ h' => h'))) fun _ _ h' => h')
    cases ok with
    | false => exact wpAny_pure ⟨rfl, by simpa using h₃⟩
    | true =>
      have h₃ := (show wpAny _ _ _ _ _ _ from by simpa using h₃)
      exact wpAny_bind (wpAny_bind (wpAny_mono h₃ (fun x s₄ h₄ => wpAny_bind (wpAny_mono h₄ (fun _ s₅ h₅ => wpAny_pure (wpAny_pure ⟨rfl, h₅⟩)) fun _ _ h' => h')) fun _ _ h' => h'))
def tCompIf (wi : TI) (k : Nat) (pull : List Nat) (g : TG) (tt : TT) (te : TE) : TE := fun σ H Q => wi σ H fun J H1 => ∀ d, H1 d = none →
  ∃ W : Nat → Nat → St → Hp → Prop, (∃ m, W 0 m (bst k pull σ) (upd H1 d (.lst []))) ∧ ∀ i m σ' H', W i m σ' H' →
    (J.stop i H' ∧ Q (.ref d) H') ∨
    (J.go i H' ∧ ∀ x H2, J.yld i H' x H2 → g x σ' H2 fun σ3 H3 => tt σ3 H3 fun b H4 => if b = true then te σ3 H4 fun y H5 => ∃ xs, H5 d = some (.lst xs) ∧ xs.length < sizeLine ∧ ∃ m', m' < m ∧ W (i + 1) m' σ3 (upd H5 d (.lst (xs ++ [y])))
      else ∃ m', m' < m ∧ W (i + 1) m' σ3 H4)
section
variable {X : Cx} {elt tg iter cnd : Expr} {sc : Scope} {pos : Pos} {wi : TI} {g : TG} {tt : TT} {te : TE} {N : List Str} {names : List (Str × NameKind)} {N' : List Str} {k : Nat} {pull : List Nat}
theorem pe_compIf (hc : X.calm = true) (B : BScope N names N' k pull sc) (hN : X.N = N) (hnm : X.env.scope.names = names) (hi : PI X tg iter wi)
    (hg : ∀ cl C s₂ H₁ fp pins, PG (blk X sc cl C N' s₂ H₁ fp pins) tg g) (hcn : ∀ cl C s₂ H₁ fp pins, PT (blk X sc cl C N' s₂ H₁ fp pins) cnd tt) (he : ∀ cl C s₂ H₁ fp pins, PE (blk X sc cl C N' s₂ H₁ fp pins) elt te)
    (hs : ∀ x, foldedSetIterable iter X.env x = pure x := by intro _; rfl) : PE X (.ListComp elt [⟨tg, iter, [cnd], 0⟩] sc pos) (tCompIf wi k pull g tt te) := by
  intro pins s σ H Q I h
  rw [eval_ListComp]
  have hcells : ∀ y ∈ sc.names, y.2 = .free → ∃ c, X.env.cells.lookup y.1 = some c := fun y hy hf => I.ok.has y.1 (.inl (by
    show X.env.scope.names.lookup y.1 = _
    rw [hnm]; exact B.fre y hy hf))
  obtain ⟨cl, ecl, c1, _, c3⟩ := closureFor_is (env := X.env) sc.names [] hcells (fun x c e => nomatch e)
  rw [← closureFor_eq] at ecl
  refine wpAny_comprehension_free (use := none) rfl hs ecl B.kind B.loc (thn (hi pins s σ H _ I h) fun xv s1 h1 => thn h1 fun itv s2 h2 => ?_)
  obtain ⟨it, fp, tn, J, H1, e, I2, T, st2, f2, hW⟩ := h2
  subst e
  have ho : ∀ b ∈ fp, ∃ o, s2.heap.get? b = some o := fun b hb => let ⟨o, e, _⟩ := T.obj _ _ st2 b hb; ⟨o, e⟩
  refine wpAny_newObj_type (wpAny_newFunctionEnv B.nocell (by intro y hy; simp at hy) (fun h₁ hns₁ hsb₁ => ?_) B.kind)
  dsimp only at hns₁ hsb₁ ⊢
  rw [Heap.size_push] at hns₁ hsb₁ ⊢
  have old : ∀ b o, s2.heap.get? b = some o → h₁.get? b = some o := fun b o e => by
    have hlt := Heap.lt_size e
    exact (hsb₁.2 b (Nat.ne_of_lt (Nat.lt_succ_of_lt hlt))).trans (Heap.get?_push_of_some _ (Heap.get?_push_of_some _ e))
  have hd : h₁.get? s2.heap.objs.size = some { cls := .type "list", data := .seq ([] : List Value).toArray } :=
    (hsb₁.2 _ (Nat.ne_of_lt (Nat.lt_succ_self _))).trans (Heap.get?_push_of_some _ (Heap.get?_push_size _ rfl))
  have I4 := blk_start (tk := s2.toks + ([] : List (Str × Value)).length) B hN hnm I2 f2 ho c1 c3 hns₁ old hd
  have st4 : tn 0 h₁ := T.keep _ _ _ st2 fun b _ o e => old b o e
  obtain ⟨W, ⟨m0, w0⟩, turn⟩ := hW s2.heap.objs.size (I2.hok.fresh (Nat.le_refl _))
  have fr4 : ∀ b ∈ fp, (upd H1 s2.heap.objs.size (.lst [])) b = none := fun b hb => by
    obtain ⟨o, e⟩ := ho b hb
    rw [upd_ne (Nat.ne_of_lt (Heap.lt_size e))]
    exact (f2 b hb).1
  -- what stays true of the iterator's objects
  have stat : ∀ {H' : Hp}, (∀ b ∈ fp, H' b = none) → ∀ b ∈ fp, FpOk (blk X sc cl (s2.heap.objs.size + 1) N' s2 H1 fp pins) [] H' b := fun hn b hb => by
    refine ⟨hn b hb, (I4.ok.exf b hb).1, I4.ok.exfs b hb, .inl hb, (I4.ok.exf b hb).2, fun p hp => ?_⟩
    have hp : p ∈ X.pn ++ pins := by simpa [blk] using hp
    exact (f2 b hb).2.2.2.2.2 p hp
  have loop : ∀ s₃ : Shared, s₃ = { s2 with heap := h₁, toks := s2.toks + ([] : List (Str × Value)).length } →
      codeAny (model X.prog X.w) X.A (.compLoop (.ListComp elt [⟨tg, iter, [cnd], 0⟩] sc pos) 0 (.ref it) (.ref s2.heap.objs.size) (compEnvC sc cl (s2.heap.objs.size + 1) X.env))
        (compPost (model X.prog X.w) X.A X.xe none (EP X pins σ Q) (.ref s2.heap.objs.size) (s2.heap.objs.size + 1)) s₃ := by
    rintro s₃ rfl
    refine comp_turnIf (fun n s' => ∃ i σ' H', Inv (blk X sc cl (s2.heap.objs.size + 1) N' s2 H1 fp pins) [] σ' H' s' ∧ tn i s'.heap ∧ (∀ b ∈ fp, H' b = none) ∧ W i n σ' H') ?_ m0 ⟨0, _, _, I4, st4, fr4, w0⟩
    rintro n s3 ⟨i, σ3, H3, I3, st3, fr3, w3⟩
    rcases turn i n σ3 H3 w3 with ⟨stop, q⟩ | ⟨go, step⟩
    · refine thn (T.done (blk X sc cl (s2.heap.objs.size + 1) N' s2 H1 fp pins) rfl rfl rfl hc i [] s3 σ3 H3 _ I3 (stat fr3) st3 stop) fun r s4 ⟨hr, I5⟩ => ?_
      subst hr
      obtain ⟨m, hn, _⟩ := id I5.loc
      refine ⟨m, hn, fun h' hs' => ?_⟩
      have ne : ∀ b o, s2.heap.get? b = some o → b ≠ s2.heap.objs.size + 1 := fun b o e => Nat.ne_of_lt (Nat.lt_succ_of_lt (Heap.lt_size e))
      have U : Un (frs X.stack) fp H1 H3 s2.heap s4.heap := I5.base
      have U' : Un (frs X.stack) fp H1 H3 s2.heap h' := ⟨fun b o e n hb hx => (hs'.2 b (ne b o e)).trans (U.keep b o e n hb hx), fun b o e n hb hx => by
          obtain ⟨sl, z⟩ := U.slot b o e n hb hx
          exact ⟨sl, (hs'.2 b (ne b o e)).trans z⟩, U.free, fun b o e hx => by
          obtain ⟨o', z⟩ := U.there b o e hx
          exact ⟨o', (hs'.2 b (ne b o e)).trans z⟩, U.tups, U.frzs, U.tbls⟩
      have hok : HOk X.prog X.w H3 h' := HOk.but (C := s2.heap.objs.size + 1) I5.hok I5.free fun b o hb e => (hs'.2 b hb).trans e
      refine ⟨.ref s2.heap.objs.size, H3, I2.call' (s' := { s4 with heap := h' }) I5.os U' hok I5.bare fun b hb => ?_, rfl, q⟩
      exact ⟨(f2 b hb).2.2.2.1, (f2 b hb).2.1, (f2 b hb).2.2.2.2.1, (f2 b hb).2.2.2.2.2⟩
    · refine thn (T.item (blk X sc cl (s2.heap.objs.size + 1) N' s2 H1 fp pins) rfl rfl rfl hc i [] s3 σ3 H3 _ I3 (stat fr3) st3 go) fun r s4 ⟨u, hr, h4⟩ => ?_
      subst hr
      refine thn h4 fun _ s5 ⟨x, H5, I5, r5, y5, st5, fr5⟩ => ?_
      have I5' := I5.pinned (stat fr5) (T.obj _ _ st5)
      refine wpAny_mono (hg _ _ _ _ _ _ _ s5 σ3 H5 x u _ I5' r5 (step x H5 y5)) (fun _ s6 ⟨σ6, H6, I6, q6⟩ => ?_) fun _ _ z => z.elim
      refine wpAny_mono (hcn _ _ _ _ _ _ _ s6 σ6 H6 _ I6 q6) (fun ok s7 ⟨H7, I7, q7⟩ => ?_) fun _ _ z => z.elim
      cases ok with
      | false =>
        have q7 : ∃ m', m' < n ∧ W (i + 1) m' σ6 H7 := by simpa using q7
        obtain ⟨m', hm, w7⟩ := q7
        refine ⟨m', hm, i + 1, σ6, _, I7.unpinned, T.keep _ _ _ st5 fun b hb o e => (I7.pin (b, o) (List.mem_append_right _ (List.mem_append_right _ (mem_pinsAt hb e)))).1, fun b hb => ?_, w7⟩
        obtain ⟨o, e, _⟩ := T.obj _ _ st5 b hb
        exact (I7.pin (b, o) (List.mem_append_right _ (List.mem_append_right _ (mem_pinsAt hb e)))).2.1
      | true =>
        rw [if_pos rfl] at q7
        refine wpAny_mono (he _ _ _ _ _ _ _ s7 σ6 H7 _ I7 q7) (fun y s8 ⟨z, H8, I8, r8, xs, hx8, hz8, m', hm, w8⟩ => ?_) fun _ _ z => z.elim
        refine wpAny_mono (mt_append (X := blk X sc cl (s2.heap.objs.size + 1) N' s2 H1 fp pins) _ s8 σ6 H8 (.ref s2.heap.objs.size) [z] (.ref s2.heap.objs.size) [y] (fun _ H9 => H9 = upd H8 s2.heap.objs.size (.lst (xs ++ [z]))) I8 rfl (.cons r8 .nil) ⟨_, xs, z, rfl, rfl, hx8, hz8, rfl⟩) (fun _ s9 ⟨_, H9, I9, _, e9⟩ => ?_) fun _ _ z => z.elim
        subst e9
        refine ⟨m', hm, i + 1, σ6, _, I9.unpinned, T.keep _ _ _ st5 fun b hb o e => (I9.pin (b, o) (List.mem_append_right _ (List.mem_append_right _ (mem_pinsAt hb e)))).1, fun b hb => ?_, w8⟩
        obtain ⟨o, e, _⟩ := T.obj _ _ st5 b hb
        exact (I9.pin (b, o) (List.mem_append_right _ (List.mem_append_right _ (mem_pinsAt hb e)))).2.1
  exact codeAny_compStart_list (loop _ rfl) (T.self _ 0 _ _ _ st4 (loop _ rfl))
end
end L2
namespace L2
open PySem PySem.Spec PyProof.Rows
section
variable {X : Cx} {elt tg iter : Expr} {sc : Scope} {pos py spos : Pos} {wi : TI} {g : TG} {te : TE} {N : List Str} {names : List (Str × NameKind)} {N' : List Str} {k j : Nat} {pull : List Nat} {y : Str}
theorem ps_comp (hc : X.calm = true) (hNd : X.N.Nodup) (hj : X.N[j]? = some y) (hy : X.env.scope.names.lookup y = some .local) (B : BScope N names N' k pull sc) (hN : X.N = N) (hnm : X.env.scope.names = names) (hi : PI X tg iter wi)
    (hg : ∀ cl C s₂ H₁ fp pins, PG (blk X sc cl C N' s₂ H₁ fp pins) tg g) (he : ∀ cl C s₂ H₁ fp pins, PE (blk X sc cl C N' s₂ H₁ fp pins) elt te)
    (hs : ∀ x, foldedSetIterable iter X.env x = pure x := by intro _; rfl) (hsw : swapsWith (.ListComp elt [⟨tg, iter, [], 0⟩] sc pos) (some (.Name y py)) spos.line X.env = pure true := by rfl) : PS X (.Assign [.Name y py] (.ListComp elt [⟨tg, iter, [], 0⟩] sc pos) spos) (tAsg (tComp wi k pull g te) (gName j)) := by
  intro pins s σ H D I h
  rw [exec_Assign_Name_used _ _ _ _ hsw]
  refine wpAny_bind (wpAny_standAt (wpAny_bind ?_))
  show wpAny _ X.A (do let _ ← comprehension (.ListComp elt [⟨tg, iter, [], 0⟩] sc pos) sc X.env _ (newList []) false (eval iter X.env) (some (assign (.Name y py) X.env))) _ _ s
  have hcells : ∀ y ∈ sc.names, y.2 = .free → ∃ c, X.env.cells.lookup y.1 = some c := fun y hy hf => I.ok.has y.1 (.inl (by
    show X.env.scope.names.lookup y.1 = _
    rw [hnm]; exact B.fre y hy hf))
  obtain ⟨cl, ecl, c1, _, c3⟩ := closureFor_is (env := X.env) sc.names [] hcells (fun x c e => nomatch e)
  rw [← closureFor_eq] at ecl
  refine wpAny_bind (wpAny_mono (wpAny_comprehension_free (Q := fun _ s' => SP X pins D .next s') (use := some (assign (.Name y py) X.env)) rfl hs ecl B.kind B.loc (thn (hi pins s σ H _ I h) fun xv s1 h1 => thn h1 fun itv s2 h2 => ?_)) (fun _ s' hq => wpAny_pure (wpAny_pure hq)) fun _ _ e => e)
  obtain ⟨it, fp, tn, J, H1, e, I2, T, st2, f2, hW⟩ := h2
  subst e
  have ho : ∀ b ∈ fp, ∃ o, s2.heap.get? b = some o := fun b hb => let ⟨o, e, _⟩ := T.obj _ _ st2 b hb; ⟨o, e⟩
  refine wpAny_newObj_type (wpAny_newFunctionEnv B.nocell (by intro y hy; simp at hy) (fun h₁ hns₁ hsb₁ => ?_) B.kind)
  dsimp only at hns₁ hsb₁ ⊢
  rw [Heap.size_push] at hns₁ hsb₁ ⊢
  have old : ∀ b o, s2.heap.get? b = some o → h₁.get? b = some o := fun b o e => by
    have hlt := Heap.lt_size e
    exact (hsb₁.2 b (Nat.ne_of_lt (Nat.lt_succ_of_lt hlt))).trans (Heap.get?_push_of_some _ (Heap.get?_push_of_some _ e))
  have hd : h₁.get? s2.heap.objs.size = some { cls := .type "list", data := .seq ([] : List Value).toArray } :=
    (hsb₁.2 _ (Nat.ne_of_lt (Nat.lt_succ_self _))).trans (Heap.get?_push_of_some _ (Heap.get?_push_size _ rfl))
  have I4 := blk_start (tk := s2.toks + ([] : List (Str × Value)).length) B hN hnm I2 f2 ho c1 c3 hns₁ old hd
  have st4 : tn 0 h₁ := T.keep _ _ _ st2 fun b _ o e => old b o e
  obtain ⟨W, ⟨m0, w0⟩, turn⟩ := hW s2.heap.objs.size (I2.hok.fresh (Nat.le_refl _))
  have fr4 : ∀ b ∈ fp, (upd H1 s2.heap.objs.size (.lst [])) b = none := fun b hb => by
    obtain ⟨o, e⟩ := ho b hb
    rw [upd_ne (Nat.ne_of_lt (Heap.lt_size e))]
    exact (f2 b hb).1
  -- what stays true of the iterator's objects
  have stat : ∀ {H' : Hp}, (∀ b ∈ fp, H' b = none) → ∀ b ∈ fp, FpOk (blk X sc cl (s2.heap.objs.size + 1) N' s2 H1 fp pins) [] H' b := fun hn b hb => by
    refine ⟨hn b hb, (I4.ok.exf b hb).1, I4.ok.exfs b hb, .inl hb, (I4.ok.exf b hb).2, fun p hp => ?_⟩
    have hp : p ∈ X.pn ++ pins := by simpa [blk] using hp
    exact (f2 b hb).2.2.2.2.2 p hp
  have loop : ∀ s₃ : Shared, s₃ = { s2 with heap := h₁, toks := s2.toks + ([] : List (Str × Value)).length } →
      codeAny (model X.prog X.w) X.A (.compLoop (.ListComp elt [⟨tg, iter, [], 0⟩] sc pos) 0 (.ref it) (.ref s2.heap.objs.size) (compEnvC sc cl (s2.heap.objs.size + 1) X.env))
        (compPost (model X.prog X.w) X.A X.xe (some (assign (.Name y py) X.env)) (fun _ s' => SP X pins D .next s') (.ref s2.heap.objs.size) (s2.heap.objs.size + 1)) s₃ := by
    rintro s₃ rfl
    refine comp_turn (fun n s' => ∃ i σ' H', Inv (blk X sc cl (s2.heap.objs.size + 1) N' s2 H1 fp pins) [] σ' H' s' ∧ tn i s'.heap ∧ (∀ b ∈ fp, H' b = none) ∧ W i n σ' H') ?_ m0 ⟨0, _, _, I4, st4, fr4, w0⟩
    rintro n s3 ⟨i, σ3, H3, I3, st3, fr3, w3⟩
    rcases turn i n σ3 H3 w3 with ⟨stop, q⟩ | ⟨go, step⟩
    · refine thn (T.done (blk X sc cl (s2.heap.objs.size + 1) N' s2 H1 fp pins) rfl rfl rfl hc i [] s3 σ3 H3 _ I3 (stat fr3) st3 stop) fun r s4 ⟨hr, I5⟩ => ?_
      subst hr
      obtain ⟨m, hn, _⟩ := id I5.loc
      have U : Un (frs X.stack) fp H1 H3 s2.heap s4.heap := I5.base
      have J5 : Inv X pins σ H3 s4 := I2.call' (s' := s4) I5.os U I5.hok I5.bare fun b hb => ⟨(f2 b hb).2.2.2.1, (f2 b hb).2.1, (f2 b hb).2.2.2.2.1, (f2 b hb).2.2.2.2.2⟩
      obtain ⟨g0, g1, _, g3, g4, g5⟩ : FpOk X pins H3 (s2.heap.objs.size + 1) := I2.fpOk (Nat.le_succ _) I5.free
      refine wpAny_assign_Name (store_ok2 J5 hNd hj (.inl hy) (v := .ref s2.heap.objs.size) rfl (fun s5 K5 ⟨a, sb, ha⟩ => ?_) (.inr hy))
      have hne : s2.heap.objs.size + 1 ≠ a := fun z => by
        rcases ha with ha | ha
        · exact g1 (z.trans ha)
        · exact g4 _ _ ha z.symm
      refine ⟨m, hn.sameBut sb hne, fun h' hs' => ⟨_, H3, ?_, q⟩⟩
      exact K5.turned (t' := s5.toks) (fun b o hb e => (hs'.2 b hb).trans e) g0 g1 g3 g4 g5
    · refine thn (T.item (blk X sc cl (s2.heap.objs.size + 1) N' s2 H1 fp pins) rfl rfl rfl hc i [] s3 σ3 H3 _ I3 (stat fr3) st3 go) fun r s4 ⟨u, hr, h4⟩ => ?_
      subst hr
      refine thn h4 fun _ s5 ⟨x, H5, I5, r5, y5, st5, fr5⟩ => ?_
      have I5' := I5.pinned (stat fr5) (T.obj _ _ st5)
      refine wpAny_mono (hg _ _ _ _ _ _ _ s5 σ3 H5 x u _ I5' r5 (step x H5 y5)) (fun _ s6 ⟨σ6, H6, I6, q6⟩ => ?_) fun _ _ z => z.elim
      refine wpAny_mono (he _ _ _ _ _ _ _ s6 σ6 H6 _ I6 q6) (fun y s7 ⟨z, H7, I7, r7, xs, hx7, hz7, m', hm, w7⟩ => ?_) fun _ _ z => z.elim
      refine wpAny_mono (mt_append (X := blk X sc cl (s2.heap.objs.size + 1) N' s2 H1 fp pins) _ s7 σ6 H7 (.ref s2.heap.objs.size) [z] (.ref s2.heap.objs.size) [y] (fun _ H8 => H8 = upd H7 s2.heap.objs.size (.lst (xs ++ [z]))) I7 rfl (.cons r7 .nil) ⟨_, xs, z, rfl, rfl, hx7, hz7, rfl⟩) (fun _ s8 ⟨_, H8, I8, _, e8⟩ => ?_) fun _ _ z => z.elim
      subst e8
      refine ⟨m', hm, i + 1, σ6, _, I8.unpinned, T.keep _ _ _ st5 fun b hb o e => (I8.pin (b, o) (List.mem_append_right _ (List.mem_append_right _ (mem_pinsAt hb e)))).1, fun b hb => ?_, w7⟩
      obtain ⟨o, e, _⟩ := T.obj _ _ st5 b hb
      exact (I8.pin (b, o) (List.mem_append_right _ (List.mem_append_right _ (mem_pinsAt hb e)))).2.1
  exact codeAny_compStart_list (loop _ rfl) (T.self _ 0 _ _ _ st4 (loop _ rfl))
end
end L2
namespace K1
open PySem L2 Sq
/-- [g(k) for k in range(m)], no heap needed -/
theorem compRange {Hc : Hp} {m : Nat} {ta : TA} {te : TE} {pull : List Nat} {Q : VK} {σ : St} {rest : St} (g : Nat → Nat) (hj : ∀ R : List V → Hp → Prop, R [.int (m : Int)] Hc → ta σ Hc R) (hb : bst 1 pull σ = none :: rest)
    (hte : ∀ (i : Nat) (H : Hp) (R : VK), i < m → Same Hc H → R (.int (g i : Int)) H → te (some (.int (i : Int)) :: rest) H R) (hm : m ≤ 1000)
    (k : ∀ (H' : Hp) (d : Addr), Same Hc H' → Hc d = none → H' d = some (.lst (nv ((List.range m).map g))) → Q (.ref d) H') :
    tComp (iRng1 ta) 1 pull (gName 0) te σ Hc Q := by
  refine hj _ ⟨(m : Int), rfl, by omega, by omega, fun d hd => ?_⟩
  rw [Int.toNat_natCast, hb]
  refine comp_by (J := Itr 0 m) (Q := fun d H' => Q (.ref d) H') m (nv ((List.range m).map g)) (by rw [nv_len]; simp) (fun i σ H9 => (∃ o, σ = o :: rest) ∧ Same Hc H9) ⟨⟨_, rfl⟩, same_upd (Same.refl _) hd⟩ ?_ ?_
  · rintro i σ H9 hi ⟨⟨o, rfl⟩, s9⟩ hd9
    refine ⟨hi, fun x H4 ⟨e1, e2⟩ => ?_⟩
    subst e1 e2
    rw [show (0 : Int) + (i : Int) = (i : Int) from by omega]
    refine hte i _ _ hi s9 ?_
    refine cpost hi (by omega) hd9 (nv_get (by simp [hi])) ⟨⟨_, rfl⟩, same_upd s9 hd⟩
  · rintro σ H9 ⟨⟨o, rfl⟩, s9⟩ hd9
    exact ⟨Nat.le_refl _, k H9 d s9 hd hd9⟩
/-- [g(x) for x in row], row a tuple of numbers in the slot j -/
theorem compTupN {K : PySem.W.Frag} {Hc : Hp} {p : Addr} {r : List Nat} {j : Nat} {te : TE} {pull : List Nat} {Q : VK} {σ : St} {rest : St} (g : Nat → Nat) (hj : σ[j]? = some (some (.ref p))) (hp : SqT K Hc p (nv r)) (hb : bst 1 pull σ = none :: rest)
    (hte : ∀ (x : Nat) (H : Hp) (R : VK), x ∈ r → Same Hc H → R (.int (g x : Int)) H → te (some (.int (x : Int)) :: rest) H R) (hn : r.length ≤ 1000)
    (k : ∀ (H' : Hp) (d : Addr), Same Hc H' → Hc d = none → H' d = some (.lst (nv (r.map g))) → Q (.ref d) H') :
    tComp (iTup K (tVar j)) 1 pull (gName 0) te σ Hc Q := by
  refine ⟨_, hj, p, rfl, ⟨_, hp⟩, fun d hd => ?_⟩
  rw [hb]
  refine comp_by (Q := fun d H' => Q (.ref d) H') r.length (nv (r.map g)) (by rw [nv_len]; simp) (fun i σ H3 => (∃ o, σ = o :: rest) ∧ Same Hc H3) ⟨⟨_, rfl⟩, same_upd (Same.refl _) hd⟩ ?_ ?_
  · rintro i σ H3 hi ⟨⟨o, rfl⟩, s3⟩ hd3
    have hp3 := Same.tseq s3 hp
    have hg := nv_get (List.getElem?_eq_getElem hi)
    refine ⟨⟨_, _, hp3, hg⟩, fun y H4 ⟨e, hy⟩ => ?_⟩
    subst e
    have hy := hy _ hp3
    rw [hg] at hy
    cases hy
    refine hte _ _ _ (List.getElem_mem hi) s3 ?_
    exact cpost hi hn hd3 (nv_get (by simp [hi])) ⟨⟨_, rfl⟩, same_upd s3 hd⟩
  · rintro σ H3 ⟨⟨o, rfl⟩, s3⟩ hd3
    exact ⟨⟨_, Same.tseq s3 hp, by rw [nv_len]; exact Nat.le_refl _⟩, k H3 d s3 hd hd3⟩
end K1
namespace Sq
theorem nx_map {l : List Nat} {g : Nat → Nat} {i x : Nat} (h : l[i]? = some x) : nx (l.map g) i = g x := by
  simp [nx, List.getD, h]
theorem ext_row {n : Nat} {l l' : List Nat} (hl : l.length = n) (hl' : l'.length = n) (h : ∀ i, i < n → nx l i = nx l' i) : l = l' := by
  refine List.ext_getElem (by omega) fun i h1 h2 => ?_
  have := h i (by omega)
  simpa [nx, List.getD, List.getElem?_eq_getElem h1, List.getElem?_eq_getElem h2] using this
/-- the row r renumbered by f -/
def ren (r f : List Nat) : List Nat := (back f).map fun o => nx f (nx r o)
theorem ren_len (r f : List Nat) : (ren r f).length = f.length := by simp [ren, back_len]
section
variable {n : Nat} {r f : List Nat}
theorem back_back (hf : Row n f) : back (back f) = f := by
  refine ext_row (n := n) (by rw [back_len, back_len, hf.len]) hf.len fun i hi => ?_
  rw [back_nx hf.back hi]
  have e : nx (back f) (nx f i) = i := by rw [back_nx hf (hf.nlt hi)]; exact hf.idx_nx hi
  exact hf.back.inj (hf.back.idx_lt hi) (hf.nlt hi) (by rw [hf.back.nx_idx hi, e])
theorem nx_back (hf : Row n f) {i : Nat} (hi : i < n) : nx (back f) (nx f i) = i := by rw [back_nx hf (hf.nlt hi)]; exact hf.idx_nx hi
theorem nx_back' (hf : Row n f) {i : Nat} (hi : i < n) : nx f (nx (back f) i) = i := by rw [back_nx hf hi]; exact hf.nx_idx hi
theorem ren_nx (hf : Row n f) {i : Nat} (hi : i < n) : nx (ren r f) i = nx f (nx r (nx (back f) i)) := nx_map (hf.back.get hi)
theorem ren_at (hf : Row n f) {k : Nat} (hk : k < n) : nx (ren r f) (nx f k) = nx f (nx r k) := by
  rw [ren_nx hf (hf.nlt hk), nx_back hf hk]
theorem row_of {l : List Nat} (hl : l.length = n) (lt : ∀ i, i < n → nx l i < n) (inj : ∀ i j, i < n → j < n → nx l i = nx l j → i = j) : Row n l where
  len := hl
  nd := by
    refine List.pairwise_iff_getElem.mpr fun i j hi hj hij e => ?_
    have := inj i j (by omega) (by omega) (by simp [nx, List.getD, List.getElem?_eq_getElem hi, List.getElem?_eq_getElem hj, e])
    omega
  lt := fun x hx => by
    obtain ⟨i, hi, e⟩ := List.mem_iff_getElem.mp hx
    have := lt i (by omega)
    rwa [show nx l i = x from by simp [nx, List.getD, List.getElem?_eq_getElem hi, e]] at this
theorem ren_row (hr : Row n r) (hf : Row n f) : Row n (ren r f) := by
  refine row_of (by rw [ren_len, hf.len]) (fun i hi => ?_) (fun i j hi hj e => ?_)
  · rw [ren_nx hf hi]; exact hf.nlt (hr.nlt (hf.back.nlt hi))
  · rw [ren_nx hf hi, ren_nx hf hj] at e
    exact hf.back.inj hi hj (hr.inj (hf.back.nlt hi) (hf.back.nlt hj) (hf.inj (hr.nlt (hf.back.nlt hi)) (hr.nlt (hf.back.nlt hj)) e))
end
end Sq
namespace Sq
/-- i steps on -/
def it (w : List Nat) (x : Nat) : Nat → Nat
  | 0 => x
  | i + 1 => nx w (it w x i)
/-- the list of what is met from x on, until one would come to x again -/
structure Cyc (w : List Nat) (x : Nat) (M : List Nat) : Prop where
  pos : 1 ≤ M.length
  is : M = (List.range M.length).map (it w x)
  back : it w x M.length = x
  new : ∀ i, 1 ≤ i → i < M.length → it w x i ≠ x
theorem Cyc.unique {w : List Nat} {x : Nat} {M M' : List Nat} (h : Cyc w x M) (h' : Cyc w x M') : M = M' := by
  have e : M.length = M'.length := by
    rcases Nat.lt_trichotomy M.length M'.length with c | c | c
    · exact absurd h.back (h'.new _ h.pos c)
    · exact c
    · exact absurd h'.back (h.new _ h'.pos c)
  rw [h.is, h'.is, e]
section
variable {n : Nat} {w : List Nat}
theorem it_lt (rw' : Row n w) {x : Nat} (hx : x < n) : ∀ i, it w x i < n
  | 0 => hx
  | i + 1 => rw'.nlt (it_lt rw' hx i)
theorem it_cancel (rw' : Row n w) {x : Nat} (hx : x < n) : ∀ i j, it w x (i + j) = it w x i → it w x j = x
  | 0, j, h => by simpa [it] using h
  | i + 1, j, h => by
    have e : it w x (i + 1 + j) = nx w (it w x (i + j)) := by rw [show i + 1 + j = (i + j) + 1 from by omega]; rfl
    rw [e] at h
    exact it_cancel rw' hx i j (rw'.inj (it_lt rw' hx _) (it_lt rw' hx _) h)
theorem it_nodup (rw' : Row n w) {x k : Nat} (hx : x < n) (h : ∀ i, 1 ≤ i → i < k → it w x i ≠ x) : ((List.range k).map (it w x)).Nodup := by
  refine List.pairwise_map.mpr (List.Pairwise.imp_of_mem (R := fun a b => a < b) (fun {a b} ha hb hab e => ?_) List.pairwise_lt_range)
  have hb := List.mem_range.mp hb
  have := it_cancel rw' hx a (b - a) (by rw [show a + (b - a) = b from by omega]; exact e.symm)
  exact h (b - a) (by omega) (by omega) this
theorem it_len (rw' : Row n w) {x k : Nat} (hx : x < n) (h : ∀ i, 1 ≤ i → i < k → it w x i ≠ x) : k ≤ n := by
  have := sub_len _ (List.range n) (it_nodup rw' hx h) fun y hy => by
    obtain ⟨i, _, rfl⟩ := List.mem_map.mp hy
    exact List.mem_range.mpr (it_lt rw' hx i)
  simpa using this
theorem Cyc.nd (rw' : Row n w) {x : Nat} (hx : x < n) {M : List Nat} (h : Cyc w x M) : M.Nodup := by
  rw [h.is]; exact it_nodup rw' hx h.new
theorem Cyc.len (rw' : Row n w) {x : Nat} (hx : x < n) {M : List Nat} (h : Cyc w x M) : M.length ≤ n := it_len rw' hx h.new
theorem Cyc.get {x : Nat} {M : List Nat} (h : Cyc w x M) {i : Nat} (hi : i < M.length) : M[i]? = some (it w x i) := by
  rw [h.is]; simp [hi]
theorem Cyc.lt (rw' : Row n w) {x : Nat} (hx : x < n) {M : List Nat} (h : Cyc w x M) : ∀ y ∈ M, y < n := fun y hy => by
  rw [h.is] at hy
  obtain ⟨i, _, rfl⟩ := List.mem_map.mp hy
  exact it_lt rw' hx i
/-- the next in the round is the next in the row -/
theorem Cyc.next {x : Nat} {M : List Nat} (h : Cyc w x M) {i y : Nat} (hi : M[i]? = some y) : M[(i + 1) % M.length]? = some (nx w y) := by
  have hl := (List.getElem?_eq_some_iff.mp hi).1
  have e : y = it w x i := by have := h.get hl; rw [hi] at this; exact Option.some.inj this
  subst e
  rcases Nat.lt_or_ge (i + 1) M.length with c | c
  · rw [Nat.mod_eq_of_lt c, h.get c]; rfl
  · have : i + 1 = M.length := by omega
    rw [this, Nat.mod_self, h.get h.pos]
    have hb := h.back
    rw [← this] at hb
    show some x = some (nx w (it w x i))
    rw [show nx w (it w x i) = it w x (i + 1) from rfl, hb]
theorem it_add (x : Nat) (i : Nat) : ∀ j, it w x (i + j) = it w (it w x i) j
  | 0 => rfl
  | j + 1 => by show nx w (it w x (i + j)) = nx w (it w (it w x i) j); rw [it_add x i j]
end
end Sq
namespace Sq
def per (n : Nat) (w : List Nat) (x : Nat) : Nat := ((List.range n).find? fun k => decide (it w x (k + 1) = x)).getD 0 + 1
def cyc (n : Nat) (w : List Nat) (x : Nat) : List Nat := (List.range (per n w x)).map (it w x)
def lead (n : Nat) (w : List Nat) (x : Nat) : Bool := decide (∀ y ∈ cyc n w x, x ≤ y)
def rounds (n : Nat) (w : List Nat) : List (List Nat) := ((List.range n).filter (lead n w)).map (cyc n w)
section
variable {n : Nat} {w : List Nat}
theorem per_is (rw' : Row n w) {x : Nat} (hx : x < n) : it w x (per n w x) = x ∧ ∀ i, 1 ≤ i → i < per n w x → it w x i ≠ x := by
  unfold per
  cases h : (List.range n).find? fun k => decide (it w x (k + 1) = x) with
  | none =>
    have := List.find?_eq_none.mp h
    have := it_len (k := n + 1) rw' hx fun i h1 h2 e => by
      refine this (i - 1) (List.mem_range.mpr (by omega)) ?_
      rw [show i - 1 + 1 = i from by omega]; exact decide_eq_true e
    omega
  | some k =>
    obtain ⟨h1, as, bs, h2, h3⟩ := List.find?_eq_some_iff_append.mp h
    refine ⟨of_decide_eq_true h1, fun i hi hlt e => ?_⟩
    have hlt : i < k + 1 := hlt
    have hk : as.length = k := by
      have hl : as.length < n := by
        have := congrArg List.length h2
        simp at this; omega
      have e1 : (List.range n)[as.length]? = some k := by rw [h2]; simp
      rw [List.getElem?_range hl] at e1
      exact Option.some.inj e1
    have hi' : i - 1 < as.length := by omega
    have hl : as.length ≤ n := by
      have := congrArg List.length h2
      simp at this; omega
    have e2 : as[i - 1]? = some (i - 1) := by
      have : (List.range n)[i - 1]? = as[i - 1]? := by rw [h2, List.getElem?_append_left hi']
      rw [← this, List.getElem?_range (by omega)]
    have := h3 (i - 1) (List.mem_of_getElem? e2)
    rw [show i - 1 + 1 = i from by omega, e] at this
    simp at this
theorem cyc_len (n : Nat) (w : List Nat) (x : Nat) : (cyc n w x).length = per n w x := by simp [cyc]
theorem cyc_is (rw' : Row n w) {x : Nat} (hx : x < n) : Cyc w x (cyc n w x) := by
  obtain ⟨h1, h2⟩ := per_is rw' hx
  refine ⟨by rw [cyc_len]; unfold per; omega, by rw [cyc_len]; rfl, by rw [cyc_len]; exact h1, by rw [cyc_len]; exact h2⟩
theorem Cyc.eq (rw' : Row n w) {x : Nat} (hx : x < n) {M : List Nat} (h : Cyc w x M) : M = cyc n w x := h.unique (cyc_is rw' hx)
theorem cyc_head (rw' : Row n w) {x : Nat} (hx : x < n) : (cyc n w x)[0]? = some x := (cyc_is rw' hx).get (cyc_is rw' hx).pos
/-- each step stays in the cycle -/
theorem it_mem (rw' : Row n w) {x : Nat} (hx : x < n) : ∀ i, it w x i ∈ cyc n w x
  | 0 => List.mem_of_getElem? (cyc_head rw' hx)
  | i + 1 => by
    obtain ⟨j, hj, e⟩ := List.mem_iff_getElem.mp (it_mem rw' hx i)
    have := (cyc_is rw' hx).next (i := j) (y := it w x i) (by rw [List.getElem?_eq_getElem hj, e])
    exact List.mem_of_getElem? this
theorem mem_it (rw' : Row n w) {x y : Nat} (h : y ∈ cyc n w x) : ∃ i, i < per n w x ∧ y = it w x i := by
  obtain ⟨i, hi, rfl⟩ := List.mem_map.mp h
  exact ⟨i, List.mem_range.mp hi, rfl⟩
theorem cyc_lt (rw' : Row n w) {x y : Nat} (hx : x < n) (h : y ∈ cyc n w x) : y < n := (cyc_is rw' hx).lt rw' hx y h
theorem it_back (rw' : Row n w) {x : Nat} (hx : x < n) {i : Nat} (hi : i ≤ per n w x) : it w (it w x i) (per n w x - i) = x := by
  rw [← it_add, show i + (per n w x - i) = per n w x from by omega]
  exact (per_is rw' hx).1
theorem cyc_symm (rw' : Row n w) {x y : Nat} (hx : x < n) (h : y ∈ cyc n w x) : x ∈ cyc n w y := by
  obtain ⟨i, hi, rfl⟩ := mem_it rw' h
  have := it_mem rw' (it_lt rw' hx i) (per n w x - i)
  rwa [it_back rw' hx (Nat.le_of_lt hi)] at this
theorem cyc_trans (rw' : Row n w) {x y z : Nat} (hx : x < n) (h : y ∈ cyc n w x) (h' : z ∈ cyc n w y) : z ∈ cyc n w x := by
  obtain ⟨i, _, rfl⟩ := mem_it rw' h
  obtain ⟨j, _, rfl⟩ := mem_it rw' h'
  rw [← it_add]
  exact it_mem rw' hx _
/-- the least of a list -/
theorem least_of : ∀ (l : List Nat), l ≠ [] → ∃ m ∈ l, ∀ y ∈ l, m ≤ y
  | [], h => absurd rfl h
  | [a], _ => ⟨a, by simp, by simp⟩
  | a :: b :: l, _ => by
    obtain ⟨m, hm, h⟩ := least_of (b :: l) (by simp)
    rcases Nat.lt_or_ge m a with c | c
    · refine ⟨m, List.mem_cons_of_mem _ hm, fun y hy => ?_⟩
      rcases List.mem_cons.mp hy with e | hy
      · rw [e]; omega
      · exact h y hy
    · refine ⟨a, by simp, fun y hy => ?_⟩
      rcases List.mem_cons.mp hy with e | hy
      · rw [e]; omega
      · have := h y hy; omega
theorem lead_iff {x : Nat} : lead n w x = true ↔ ∀ y ∈ cyc n w x, x ≤ y := decide_eq_true_iff
theorem lead_zero : lead n w 0 = true := lead_iff.mpr fun y _ => Nat.zero_le y
theorem has_lead (rw' : Row n w) {x : Nat} (hx : x < n) : ∃ l, l < n ∧ lead n w l = true ∧ x ∈ cyc n w l := by
  obtain ⟨m, hm, h⟩ := least_of (cyc n w x) (fun e => by have := cyc_head rw' hx; rw [e] at this; simp at this)
  have hmn := cyc_lt rw' hx hm
  exact ⟨m, hmn, lead_iff.mpr fun y hy => h y (cyc_trans rw' hx hm hy), cyc_symm rw' hx hm⟩
theorem lead_unique (rw' : Row n w) {x l l' : Nat} (hl : l < n) (hl' : l' < n) (h1 : lead n w l = true) (h2 : lead n w l' = true) (h : x ∈ cyc n w l) (h' : x ∈ cyc n w l') : l = l' := by
  have a := lead_iff.mp h1 l' (cyc_trans rw' hl h (cyc_symm rw' hl' h'))
  have b := lead_iff.mp h2 l (cyc_trans rw' hl' h' (cyc_symm rw' hl h))
  omega
theorem rounds_perm (rw' : Row n w) : (rounds n w).flatten.Perm (List.range n) := by
  refine (List.perm_ext_iff_of_nodup ?_ List.nodup_range).mpr fun x => ?_
  · refine List.pairwise_flatten.mpr ⟨fun l hl => ?_, ?_⟩
    · obtain ⟨x, hx, rfl⟩ := List.mem_map.mp hl
      have hx := List.mem_range.mp (List.mem_filter.mp hx).1
      exact (cyc_is rw' hx).nd rw' hx
    · refine List.pairwise_map.mpr ?_
      have : ((List.range n).filter (lead n w)).Pairwise (· < ·) := List.Pairwise.filter _ List.pairwise_lt_range
      refine this.imp_of_mem fun {a b} ha hb hab x hx y hy e => ?_
      obtain ⟨a1, a2⟩ := List.mem_filter.mp ha
      obtain ⟨b1, b2⟩ := List.mem_filter.mp hb
      subst e
      have := lead_unique rw' (List.mem_range.mp a1) (List.mem_range.mp b1) a2 b2 hx hy
      omega
  · constructor
    · intro h
      obtain ⟨l, hl, hx⟩ := List.mem_flatten.mp h
      obtain ⟨a, ha, rfl⟩ := List.mem_map.mp hl
      exact List.mem_range.mpr (cyc_lt rw' (List.mem_range.mp (List.mem_filter.mp ha).1) hx)
    · intro h
      obtain ⟨l, h1, h2, h3⟩ := has_lead rw' (List.mem_range.mp h)
      exact List.mem_flatten.mpr ⟨_, List.mem_map.mpr ⟨l, List.mem_filter.mpr ⟨List.mem_range.mpr h1, h2⟩, rfl⟩, h3⟩
end
end Sq
namespace Sq
theorem nx_mk {n i : Nat} {g : Nat → Nat} (hi : i < n) : nx ((List.range n).map g) i = g i := by simp [nx, List.getD, hi]
end Sq
namespace Sq
section
variable {n : Nat} {w : List Nat}
def cmp (n : Nat) (w v : List Nat) : List Nat := (List.range n).map fun x => nx w (nx v x)
theorem cmp_nx {v : List Nat} {k : Nat} (hk : k < n) : nx (cmp n w v) k = nx w (nx v k) := nx_mk hk
theorem cmp_row {v : List Nat} (h : Row n w) (hv : Row n v) : Row n (cmp n w v) := by
  refine row_of (by simp [cmp]) (fun i hi => ?_) (fun i j hi hj e => ?_)
  · rw [cmp_nx hi]; exact h.nlt (hv.nlt hi)
  · rw [cmp_nx hi, cmp_nx hj] at e
    exact hv.inj hi hj (h.inj (hv.nlt hi) (hv.nlt hj) e)
end
end Sq
namespace Sq
section
variable {n : Nat} {w : List Nat}
end
section
variable {n : Nat} {r u : List Nat}
end
end Sq
namespace K1
open PySem L2 Sq
def spShr : Sp := fun vs H Q _ => ∃ (a : Addr) (n : Nat) (r u : List Nat), vs = [.ref a] ∧ ShAt H a r u ∧ Row n r ∧ Row n u ∧ n ≤ 36 ∧ ∀ (H' : Hp) (b : Addr), Same H H' → ShAt H' b r (cmp n u (back r)) → Q (.ref b) H'
def spTrn : Sp := fun vs H Q _ => ∃ (a : Addr) (n : Nat) (r u : List Nat), vs = [.ref a] ∧ ShAt H a r u ∧ Row n r ∧ Row n u ∧ n ≤ 36 ∧ ∀ (H' : Hp) (b : Addr), Same H H' → ShAt H' b (back u) r → Q (.ref b) H'
theorem map_cmp {n : Nat} {u v : List Nat} (hv : Row n v) : v.map (fun x => nx u x) = cmp n u v := by
  refine List.ext_getElem? fun i => ?_
  by_cases hi : i < n
  · have h1 := hv.get hi
    rw [List.getElem?_map, h1]
    show some (nx u (nx v i)) = ((List.range n).map fun i => nx u (nx v i))[i]?
    rw [List.getElem?_map, List.getElem?_range hi]; rfl
  · have : ¬ i < (cmp n u v).length := by show ¬ i < ((List.range n).map _).length; rw [List.length_map, List.length_range]; exact hi
    rw [List.getElem?_eq_none (by rw [List.length_map, hv.len]; omega), List.getElem?_eq_none (by omega)]
section
variable {P : Program} {w : World} {K : PySem.W.Frag} {mg : Str → Option Value} {base : Heap}
abbrev n_shr : List Str := ["sheet", "left"]
theorem sc_shr : FnScope n_shr ["sheet"] (defScope sSheared) := ⟨rfl, rfl, rfl, by decide +kernel, rfl, by decide +kernel, by decide +kernel⟩
theorem nd_shr : (["square", "sheet"] : List Str).Nodup := by decide +kernel
theorem ok_shr {f fb : Addr} {fd db : FuncData} (T : Bi mg) (F : Fn K mg "sheared" sSheared ["sheet"] f fd) (FB : Fn K mg "back_row" sBackRow ["row"] fb db) (GB : FnOk P w K mg base CX0 1 fb db ["row"] spBackRow) : FnOk P w K mg base CX0 2 f fd ["sheet"] spShr := by
  refine F.F.ok sc_shr (fun vs H Q E h => ?_) (fun cdv A outer s H vs Q E hr h => ?_)
  · obtain ⟨a, n, r, u, rfl, _⟩ := h; rfl
  · obtain ⟨a, n, r, u, rfl, ⟨p, q, h1, h2, h3⟩, rr, ru, hn, k⟩ := h
    have hr1 : Room 1 _ := hr.mono (by decide)
    refine ⟨_, (pss_cons (ps_set (i := 1) sc_shr.nd rfl (Or.inl rfl) (pe_call GB hr rfl FB.m FB.F.kp FB.b .nil pass0 (pa_cons (pe_ix ix_tup (pv 0) pe_int (fun _ _ => rfl)) pa_nil)))
      (pss_one (ps_ret (pe_tup (pa_cons (pe_ix ix_tup (pv 0) pe_int (fun _ _ => rfl)) (pa_cons (pe_callTy call_tuple_of rfl T.tuple boot_tuple (pa_cons (pe_comp (N := n_shr) (names := (defScope sSheared).names) (N' := ["square", "sheet"]) (k := 1) (pull := [0]) (te := (tOp (rIxT K) (tOp (rIxT K) (tVar 1) (tC (.int 1))) (tVar 0))) rfl ⟨by rfl, by decide +kernel, by decide +kernel, by rfl, by decide +kernel, by decide +kernel⟩ rfl rfl (pi_tup (pv 1)) (fun _ _ _ _ _ _ => pg_name (i := 0) nd_shr rfl (Or.inl rfl)) (fun _ _ _ _ _ _ => (pe_ix ix_tup (pe_ix ix_tup (pv 1) pe_int (fun _ _ => rfl)) (pv 0) (fun _ _ => rfl)))) pa_nil)) pa_nil)))))), ?_⟩
    refine ⟨_, rfl, a, _, 0, _, rfl, rfl, SqT.of h1, atI_nat (j := 0) rfl, p, n, r, rfl, h2, rr, hn, fun H1 l s1 hl => ?_⟩
    refine ⟨_, rfl, a, _, 0, _, rfl, rfl, SqT.of (s1 _ _ h1), atI_nat (j := 0) rfl, ?_⟩
    dsimp only [tCons, tCB]
    refine compTupN (r := back r) (rest := [some (.ref a)]) (fun x => nx u x) rfl (SqT.of hl) rfl (fun x H3 R hx s3 hR => ?_) (by rw [rr.back.len]; omega) fun H3 d s3 _ hd3 => ?_
    · have s13 := s1.trans s3
      exact ⟨_, rfl, a, _, 1, _, rfl, rfl, SqT.of (s13 _ _ h1), atI_nat (j := 1) rfl, _, rfl, q, _, _, _, rfl, rfl, SqT.of (s13 _ _ h3), atI_nat (nv_get (ru.get (rr.back.lt x hx))), hR⟩
    rw [map_cmp rr.back] at hd3
    refine ⟨d, _, rfl, .inl ⟨SqL.of hd3, fun t ht => ?_⟩⟩
    have s4 := same_upd (o := .tup (nv (cmp n u (back r)))) (s1.trans s3) ((s1.trans s3).free ht)
    refine ⟨by show 2 ≤ sizeLine; decide, fun b hb => k _ b (same_upd s4 (s4.free hb)) ⟨p, t, upd_same, ?_, ?_⟩⟩
    · have := s4 _ _ h2
      rw [upd_ne (ne_of_none this hb)]; exact this
    · have : (upd H3 t (.tup (nv (cmp n u (back r))))) t = some (.tup (nv (cmp n u (back r)))) := upd_same
      rw [upd_ne (ne_of_none this hb)]; exact this
abbrev n_trn : List Str := ["sheet"]
theorem sc_trn : FnScope n_trn ["sheet"] (defScope sTurned) := ⟨rfl, rfl, rfl, by decide +kernel, rfl, by decide +kernel, by decide +kernel⟩
theorem ok_trn {f fb : Addr} {fd db : FuncData} (F : Fn K mg "turned" sTurned ["sheet"] f fd) (FB : Fn K mg "back_row" sBackRow ["row"] fb db) (GB : FnOk P w K mg base CX0 1 fb db ["row"] spBackRow) : FnOk P w K mg base CX0 2 f fd ["sheet"] spTrn := by
  refine F.F.ok sc_trn (fun vs H Q E h => ?_) (fun cdv A outer s H vs Q E hr h => ?_)
  · obtain ⟨a, n, r, u, rfl, _⟩ := h; rfl
  · obtain ⟨a, n, r, u, rfl, ⟨p, q, h1, h2, h3⟩, rr, ru, hn, k⟩ := h
    have hr1 : Room 1 _ := hr.mono (by decide)
    refine ⟨_, (pss_one (ps_ret (pe_tup (pa_cons (pe_call GB hr rfl FB.m FB.F.kp FB.b .nil pass0 (pa_cons (pe_ix ix_tup (pv 0) pe_int (fun _ _ => rfl)) pa_nil)) (pa_cons (pe_ix ix_tup (pv 0) pe_int (fun _ _ => rfl)) pa_nil))))), ?_⟩
    refine ⟨_, rfl, a, _, 1, _, rfl, rfl, SqT.of h1, atI_nat (j := 1) rfl, q, n, u, rfl, h3, ru, hn, fun H1 l s1 hl => ?_⟩
    refine ⟨_, rfl, a, _, 0, _, rfl, rfl, SqT.of (s1 _ _ h1), atI_nat (j := 0) rfl, by show 2 ≤ sizeLine; decide, fun b hb => ?_⟩
    refine k _ b (same_upd s1 (s1.free hb)) ⟨l, p, upd_same, ?_, ?_⟩
    · rw [upd_ne (ne_of_none hl hb)]; exact hl
    · have := s1 _ _ h2
      rw [upd_ne (ne_of_none this hb)]; exact this
end
end K1
namespace L2
open PySem PySem.Spec PyProof.Rows
section
variable {X : Cx}
end
section
variable {prog : Program} {w : World} {A : Around} {E : Value → Shared → Prop}
end
section
variable {X : Cx}
end
end L2
namespace L2
open PySem PySem.Spec PyProof.Rows
/-- a tuple, of the heap or of the text, stays -/
theorem Same.sqt {K : PySem.W.Frag} {H H' : Hp} {a : Addr} {xs : List V} (e : Same H H') (h : SqT K H a xs) : SqT K H' a xs := by
  rcases h with (h | ⟨o, h⟩) | h
  · exact .inl (.inl (e _ _ h))
  · exact .inl (.inr ⟨o, e _ _ h⟩)
  · exact .inr h
section
variable {X : Cx}
theorem call_isinstS : CallR X (.builtin "isinstance") (fun xs H Q => ∃ (a : Addr) (ys : List V) (c : String) (b : Bool), xs = [.ref a, .ty c] ∧ SqT X.K H a ys ∧ PySem.W.kitOne X.K (.type "tuple") (.type c) = some b ∧ Q (.bl b) H) := by
  intro pins s σ H xs us Q I r h
  obtain ⟨a, ys, c, b, rfl, ht, e, q⟩ := h
  obtain ⟨u, w', rfl, ru, rc⟩ := vals2 r
  cases ru
  obtain rfl : w' = Value.type c := rc
  obtain ⟨its, rv, ⟨o, h1, h2, _⟩, hz⟩ := I.tuple ht
  exact PySem.W.kia_one PySem.W.kitx_tuple I.kIn ⟨o, h1, h2⟩ e (fun z => nomatch z) fun tk => ⟨.bl b, H, I.tok _, rfl, q⟩
end
end L2
namespace L2
open PySem PySem.Spec PyProof.Rows
def TDi (P : Program) (w : World) (K : PySem.W.Frag) (a : Addr) (vs : List (Key × Value)) : Prop :=
  (a == sysModules) = false ∧ ∃ o es ep, K.lookup a = some o ∧ o.ExactDict ∧ o.data = Data.dict es ep ∧ PySem.KeysOf (mixKind P w) es ∧ Pairs (mixKind P w) es.toList vs ∧ (vs.map (·.1)).Nodup
theorem TDi.dict {P : Program} {w : World} {K : PySem.W.Frag} {a : Addr} {vs : List (Key × Value)} {h : Heap} (t : TDi P w K a vs) (k : K.In h) : Heap.DictOf (mixKind P w) h a vs := by
  obtain ⟨_, o, es, ep, l, r⟩ := t
  exact ⟨o, es, ep, k a o l, r⟩
theorem tdi2 {P : Program} {w : World} {K : PySem.W.Frag} {a : Addr} {x1 x2 : Str} {t1 t2 : Tok} {v1 v2 : Value} {ep : Nat} {h1 h2 : Int} (hs : (a == sysModules) = false)
    (l : K.lookup a = some ⟨.type "dict", none, .dict #[⟨h1, .str x1 t1, v1⟩, ⟨h2, .str x2 t2, v2⟩] ep, #[]⟩) (e1 : h1 = hashStr w x1) (e2 : h2 = hashStr w x2) (ne : ¬ x1 = x2) : TDi P w K a [(Sum.inr x1, v1), (Sum.inr x2, v2)] := by
  refine ⟨hs, _, _, _, l, ⟨rfl, rfl, rfl⟩, rfl, ?_, .cons (keyIs_str x1 t1) rfl (.cons (keyIs_str x2 t2) rfl .nil), ?_⟩
  · intro e he
    have he : e = ⟨h1, .str x1 t1, v1⟩ ∨ e = ⟨h2, .str x2 t2, v2⟩ := by simpa using he
    rcases he with rfl | rfl
    · exact ⟨Sum.inr x1, keyIs_str x1 t1, e1⟩
    · exact ⟨Sum.inr x2, keyIs_str x2 t2, e2⟩
  · simp [ne]
section
variable {X : Cx}
def rInK (P : Program) (w : World) (K : PySem.W.Frag) : R2 := fun x y H Q => ∃ (a : Addr) (vs : List (Key × Value)) (k : Key), x = kV k ∧ y = .ref a ∧ TDi P w K a vs ∧ Q (.bl (valueAt vs k).isSome) H
theorem op_inK : OpR X (compareOp .In) (rInK X.prog X.w X.K) := by
  intro pins s σ H x y v u Q I rx ry h
  obtain ⟨a, vs, k, rfl, rfl, t, q⟩ := h
  cases (show u = Value.ref a from ry)
  exact wpAny_in_of (kV_is rx) t.1 (t.dict I.kIn).mapOf ⟨.bl _, H, I.tok _, rfl, q⟩
def rGetK (P : Program) (w : World) (K : PySem.W.Frag) : R2 := fun x y H Q => ∃ (a : Addr) (vs : List (Key × Value)) (k : Key) (v : V) (u : Value), x = .ref a ∧ y = kV k ∧ TDi P w K a vs ∧ valueAt vs k = some u ∧ RelV v u ∧ Q v H
theorem pe_dgetK {o i : Expr} {pos : Pos} {td ty : TE} (ho : PE X o td) (hi : PE X i ty) (hs : NoSl i) : PE X (.Subscript o i pos) (tOp (rGetK X.prog X.w X.K) td ty) := by
  intro pins s σ H Q I h
  refine subD_of PySem.F.slot_dict_getitem.lookup hs (thn (ho pins s σ H _ I h) fun u s1 ⟨x, H1, I1, rx, q1⟩ => thn (hi pins s1 σ H1 _ I1 q1) fun iv s2 ⟨y, H2, I2, ry, a, vs, k, v', u', ex, ey, t, e, ru, q2⟩ => ?_)
  subst ex ey
  obtain rfl : u = Value.ref a := rx
  have dd := t.dict I2.kIn
  exact ⟨dd.typeIs, wpAny_getItem_of (kV_is ry) dd.mapOf e ⟨v', H2, I2.tok _, ru, q2⟩⟩
end
end L2
namespace Sq
open PySem
def txt (l : List Nat) : Str := ⟨l.toArray⟩
theorem txt_len (l : List Nat) : (txt l).length = l.length := by simp [txt, Str.length]
theorem txt_app (a b : List Nat) : txt a ++ txt b = txt (a ++ b) := Str.ext' (by rw [Str.cps_append]; simp [txt])
theorem txt_cps (l : List Nat) : (txt l).cps.toList = l := by simp [txt]
theorem txt_inj {a b : List Nat} (h : txt a = txt b) : a = b := by rw [← txt_cps a, h, txt_cps]
theorem txt_one (c : Nat) : (⟨#[c]⟩ : Str) = txt [c] := rfl
theorem txt_get (l : List Nat) (i : Nat) : (txt l).cps[i]? = l[i]? := by simp [txt]
end Sq
namespace K1
open PySem L2 Sq
abbrev lts (v1 v2 : Value) : List (Key × Value) := [(Sum.inr (Str.ofString "s"), v1), (Sum.inr (Str.ofString "t"), v2)]
theorem str_s : (Str.ofString "s") = txt [115] := by decide +kernel
theorem str_t : (Str.ofString "t") = txt [116] := by decide +kernel
def isST (c : Nat) : Bool := c == 115 || c == 116
def okW (z : List Nat) : Bool := decide (z.length ≤ 1000) && z.all isST
theorem lts_is (v1 v2 : Value) (c : Nat) : (valueAt (lts v1 v2) (Sum.inr (txt [c]) : Key)).isSome = isST c := by
  have e : ∀ d : Nat, ((Sum.inr (txt [d]) : Key) = Sum.inr (txt [c])) ↔ d = c := fun d => ⟨fun z => by have := txt_inj (Sum.inr.inj z); simpa using this, fun z => by rw [z]⟩
  unfold lts isST
  rw [str_s, str_t]
  by_cases h1 : c = 115
  · subst h1; simp [valueAt]
  · by_cases h2 : c = 116
    · subst h2
      have : ¬ ((Sum.inr (txt [115]) : Key) = Sum.inr (txt [116])) := fun z => absurd ((e 115).mp z) (by decide)
      have e3 : txt [115] ≠ txt [116] := fun z => absurd (txt_inj z) (by decide)
      simp [valueAt, e3]
    · have e3 : txt [115] ≠ txt [c] := fun z => h1 (by have := txt_inj z; simpa using this.symm)
      have e4 : txt [116] ≠ txt [c] := fun z => h2 (by have := txt_inj z; simpa using this.symm)
      simp [valueAt, e3, e4, h1, h2]
theorem small100k' {n : Nat} (h : n ≤ 100000) : n < sizeLine := by
  have : 100000 < sizeLine := by decide
  omega
theorem cpostB' {n : Nat} {ys : List V} {Pv : Nat → St → Hp → Prop} {d : Addr} {i : Nat} {σ3 : St} {y : V} {H4 : Hp} (hi : i < n) (hn : n ≤ 100000) (hd : H4 d = some (.lst (ys.take i))) (hy : ys[i]? = some y) (hp : Pv (i + 1) σ3 (upd H4 d (.lst (ys.take (i + 1))))) :
    CPost n ys Pv d i σ3 y H4 := by
  have e : ys.take (i + 1) = ys.take i ++ [y] := by rw [List.take_add_one, hy]; rfl
  refine ⟨_, hd, ?_, n - (i + 1), by omega, rfl, hi, by rw [← e]; exact hp, by rw [upd_same, e]⟩
  have : (ys.take i).length ≤ i := by rw [List.length_take]; exact Nat.min_le_left _ _
  exact small100k' (by omega)
theorem compST {P : Program} {w : World} {K : PySem.W.Frag} {Hc : Hp} {dL : Addr} {v1 v2 : Value} {z : List Nat} {j : Nat} {Q : VK} {σ : St} (h2 : σ[j]? = some (some (.str (txt z)))) (hb : bst 1 [] σ = [none]) (hL : TDi P w K dL (lts v1 v2)) (hz : z.length ≤ 100000)
    (k : ∀ (H' : Hp) (d : Addr), Same Hc H' → H' d = some (.lst ((z.map isST).map V.bl)) → Q (.ref d) H') :
    tComp (iStr (tVar j)) 1 [] (gName 0) (tOp (rInK P w K) (tVar 0) (tC (.ref dL))) σ Hc Q := by
  refine ⟨_, h2, txt z, rfl, fun d hd => ?_⟩
  rw [hb]
  refine comp_by (Q := fun d H' => Q (.ref d) H') z.length ((z.map isST).map V.bl) (by simp) (fun i σ H3 => ∃ o, σ = [o] ∧ Same Hc H3) ⟨_, rfl, same_upd (Same.refl _) hd⟩ ?_ ?_
  · rintro i σ H3 hi ⟨o, rfl, s3⟩ hd3
    refine ⟨by show i < (txt z).length; rw [txt_len]; exact hi, fun x H4 ⟨e1, c, hc, e2⟩ => ?_⟩
    subst e1 e2
    rw [txt_get] at hc
    refine ⟨_, rfl, dL, _, (Sum.inr (txt [c]) : Key), rfl, rfl, hL, ?_⟩
    rw [lts_is]
    exact cpostB' hi hz hd3 (by simp [hc]) ⟨_, rfl, same_upd s3 hd⟩
  · rintro σ H3 ⟨o, rfl, s3⟩ hd3
    exact ⟨by show (txt z).length = z.length; rw [txt_len], k H3 d s3 hd3⟩
def spNd (CW : Addr) : Sp := fun vs H Q E => ∃ z : List Nat, vs = [.str (txt z)] ∧ z.length ≤ 100000 ∧ (okW z = true → ∀ H' : Hp, Same H H' → Q .non H') ∧ (okW z = false → ∀ H' : Hp, Same H H' → E (.ref CW) none H')
theorem lts_t (v1 v2 : Value) : valueAt (lts v1 v2) (Sum.inr (txt [116]) : Key) = some v2 := by
  unfold lts
  rw [str_s, str_t]
  have e3 : txt [115] ≠ txt [116] := fun z => absurd (txt_inj z) (by decide)
  simp [valueAt, e3]
section
variable {P : Program} {w : World} {K : PySem.W.Frag} {mg : Str → Option Value} {base : Heap}
end
end K1
namespace K1
open PySem L2 Sq
section
variable {P : Program} {w : World} {K : PySem.W.Frag} {mg : Str → Option Value} {base : Heap}
abbrev n_nd : List Str := ["word"]
theorem sc_nd : FnScope n_nd ["word"] (defScope sNeedWord) := ⟨rfl, rfl, rfl, by decide +kernel, rfl, by decide +kernel, by decide +kernel⟩
theorem nd_nd : (["letter"] : List Str).Nodup := by decide +kernel
theorem ok_nd {f : Addr} {fd : FuncData} {CW dL : Addr} {tk : Tok} {v1 v2 : Value} (T : Bi mg) (hC : ExCls K CW) (hCm : mg "NoWord" = some (.ref CW)) (C_LETTERS : mg "LETTERS" = some (.ref dL)) (hL : TDi P w K dL (lts v1 v2)) (C_MOST_LETTERS : mg "MOST_LETTERS" = some (.int 1000 tk)) (F : Fn K mg "need_word" sNeedWord ["word"] f fd) : FnOk P w K mg base (CX1 P w) 1 f fd ["word"] (spNd CW) := by
  refine F.F.ok1 sc_nd (fun vs H Q E h => ?_) (fun cdv A outer s H vs Q E hr h => ?_)
  · obtain ⟨z, rfl, _⟩ := h; rfl
  · obtain ⟨z, rfl, hz, k1, k2⟩ := h
    refine ⟨_, (pss_one (ps_if (PW.pt (pw_or (pt_cmpR op_gt (pe_callB call_len_str rfl T.len PySem.boot_len (pa_cons (pv 0) pa_nil)) (pe_glob (v := .int 1000) (by rfl) C_MOST_LETTERS ⟨_, rfl⟩) (nomark _)) (pw_or1 (pt_not (pt_val (pe_callB (call_all_bools rfl) rfl T.all boot_all (pa_cons (pe_comp (N := n_nd) (names := (defScope sNeedWord).names) (N' := ["letter"]) (k := 1) (pull := []) (te := tOp (rInK P w K) (tVar 0) (tC (.ref dL))) rfl ⟨by rfl, by decide +kernel, by decide +kernel, by rfl, by decide +kernel, by decide +kernel⟩ rfl rfl (pi_str (pv 0)) (fun _ _ _ _ _ _ => pg_name (i := 0) nd_nd rfl (Or.inl rfl)) (fun _ _ _ _ _ _ => pe_cmpR op_inK (pv 0) (pe_glob (v := .ref dL) (by rfl) C_LETTERS rfl) (by with_unfolding_all rfl))) pa_nil))))))) (pss_one (ps_raise rfl hC rfl hCm throw1 (pa_cons (pe_fstr (.cons pe_str (.cons (pe_fmtI (pe_glob (v := .int 1000) (by rfl) C_MOST_LETTERS ⟨_, rfl⟩)) (.cons pe_str .nil)))) pa_nil))) pss_nil)), ?_⟩
    have rs : okW z = false → ∀ H' : Hp, Same H H' → tRaise (tCons (tParts [tC (.str (Str.ofString "a word has at most ")), tFmtI (tC (.int 1000)), tC (.str (Str.ofString " letters, s and t alone"))] Str.empty) tNil) CW E { nx := fun _ H' => Q .non H', rt := Q } [some (.str (txt z))] H' := fun ho H' s' => by
      refine ⟨_, rfl, by decide, ?_⟩
      refine ⟨1000, rfl, by decide, _, rfl, by decide, ?_⟩
      refine ⟨_, rfl, by decide, ?_⟩
      exact ⟨by show 1 ≤ sizeLine; decide, k2 ho H' s'⟩
    refine ⟨_, rfl, txt z, rfl, by rw [txt_len]; exact Nat.le_of_lt (small100k' hz), _, _, rfl, rfl, _, rfl, ?_⟩
    rw [txt_len]
    by_cases hl : z.length ≤ 1000
    · rw [decide_eq_false (by omega)]
      refine iteF ?_
      dsimp only [tNext, tSeq, tIfS, tNot, tB, tCB, tCons]
      refine compST rfl rfl hL hz fun H1 d s1 hd => ?_
      refine ⟨d, _, rfl, SqL.of hd, _, rfl, ?_⟩
      have eall : ((z.map isST).all id) = z.all isST := by rw [List.all_map]; rfl
      rw [eall]
      cases ha : z.all isST with
      | false =>
        refine iteT ?_
        exact rs (by unfold okW; rw [ha, Bool.and_false]) H1 s1
      | true =>
        refine iteF ?_
        exact k1 (by unfold okW; rw [ha, decide_eq_true hl]; rfl) H1 s1
    · rw [decide_eq_true (by omega)]
      refine iteT ?_
      exact rs (by unfold okW; rw [decide_eq_false hl]; rfl) H (Same.refl _)
end
end K1
namespace K1
open PySem L2 Sq
def mv1 (n c : Nat) (x : List Nat × List Nat) : List Nat × List Nat := if c = 115 then (x.1, cmp n x.2 (back x.1)) else (back x.2, x.1)
def mvs (n : Nat) (z : List Nat) (x : List Nat × List Nat) : List Nat × List Nat := z.foldl (fun x c => mv1 n c x) x
theorem mv1_row {n c : Nat} {x : List Nat × List Nat} (h : Row n x.1 ∧ Row n x.2) : Row n (mv1 n c x).1 ∧ Row n (mv1 n c x).2 := by
  unfold mv1
  split
  · exact ⟨h.1, cmp_row h.2 h.1.back⟩
  · exact ⟨h.2.back, h.1⟩
theorem mvs_row {n : Nat} : ∀ (z : List Nat) {x : List Nat × List Nat}, Row n x.1 ∧ Row n x.2 → Row n (mvs n z x).1 ∧ Row n (mvs n z x).2
  | [], _, h => h
  | c :: z, x, h => mvs_row z (x := mv1 n c x) (mv1_row h)
theorem mvs_snoc (n : Nat) (z : List Nat) (c : Nat) (x : List Nat × List Nat) : mvs n (z ++ [c]) x = mv1 n c (mvs n z x) := by unfold mvs; rw [List.foldl_append]; rfl
def spM1 : Sp := fun vs H Q _ => ∃ (a : Addr) (c n : Nat) (r u : List Nat), vs = [.ref a, .str (txt [c])] ∧ ShAt H a r u ∧ Row n r ∧ Row n u ∧ n ≤ 36 ∧ ∀ (H' : Hp) (b : Addr), Same H H' → ShAt H' b (mv1 n c (r, u)).1 (mv1 n c (r, u)).2 → Q (.ref b) H'
def spMd (CW : Addr) : Sp := fun vs H Q E => ∃ (a : Addr) (z : List Nat) (n : Nat) (r u : List Nat), vs = [.ref a, .str (txt z)] ∧ z.length ≤ 100000 ∧ ShAt H a r u ∧ Row n r ∧ Row n u ∧ n ≤ 36 ∧ (okW z = true → ∀ (H' : Hp) (b : Addr), Same H H' → ShAt H' b (mvs n z (r, u)).1 (mvs n z (r, u)).2 → Q (.ref b) H') ∧ (okW z = false → ∀ H' : Hp, Same H H' → E (.ref CW) none H')
section
variable {P : Program} {w : World} {K : PySem.W.Frag} {mg : Str → Option Value} {base : Heap}
abbrev n_m1 : List Str := ["sheet", "letter"]
theorem sc_m1 : FnScope n_m1 ["sheet", "letter"] (defScope sMovedOnce) := ⟨rfl, rfl, rfl, by decide +kernel, rfl, by decide +kernel, by decide +kernel⟩
theorem ok_m1 {f fs ft : Addr} {fd ds dt : FuncData} (F : Fn K mg "moved_once" sMovedOnce ["sheet", "letter"] f fd) (FS : Fn K mg "sheared" sSheared ["sheet"] fs ds) (GS : FnOk P w K mg base CX0 2 fs ds ["sheet"] spShr)
    (FT : Fn K mg "turned" sTurned ["sheet"] ft dt) (GT : FnOk P w K mg base CX0 2 ft dt ["sheet"] spTrn) : FnOk P w K mg base CX0 3 f fd ["sheet", "letter"] spM1 := by
  refine F.F.ok sc_m1 (fun vs H Q E h => ?_) (fun cdv A outer s H vs Q E hr h => ?_)
  · obtain ⟨a, c, n, r, u, rfl, _⟩ := h; rfl
  · obtain ⟨a, c, n, r, u, rfl, hsh, rr, ru, hn, k⟩ := h
    have hr1 : Room 1 _ := hr.mono (by decide)
    refine ⟨_, (pss_cons (ps_if (pt_cmpR op_eq (pv 1) pe_str (nomark _)) (pss_one (ps_ret (pe_call GS hr rfl FS.m FS.F.kp FS.b .nil pass0 (pa_cons (pv 0) pa_nil)))) pss_nil)
      (pss_one (ps_ret (pe_call GT hr rfl FT.m FT.F.kp FT.b .nil pass0 (pa_cons (pv 0) pa_nil))))), ?_⟩
    refine ⟨_, rfl, rfl, _, rfl, ?_⟩
    by_cases e : c = 115
    · subst e
      rw [decide_eq_true (congrArg V.str str_s.symm)]
      refine iteT ?_
      exact ⟨_, rfl, a, n, r, u, rfl, hsh, rr, ru, hn, fun H1 b s1 hb => k H1 b s1 hb⟩
    · rw [decide_eq_false (fun z => e (by have := txt_inj ((V.str.inj z).trans str_s); simpa using this))]
      refine iteF ?_
      refine ⟨_, rfl, a, n, r, u, rfl, hsh, rr, ru, hn, fun H1 b s1 hb => k H1 b s1 ?_⟩
      unfold mv1; rw [if_neg e]; exact hb
abbrev n_md : List Str := ["sheet", "word", "told", "letter"]
theorem sc_md : FnScope n_md ["sheet", "word"] (defScope sMoved) := ⟨rfl, rfl, rfl, by decide +kernel, rfl, by decide +kernel, by decide +kernel⟩
theorem ok_md {f fn fm : Addr} {fd dn dm : FuncData} {CW : Addr} (F : Fn K mg "moved" sMoved ["sheet", "word"] f fd) (FN : Fn K mg "need_word" sNeedWord ["word"] fn dn) (GN : FnOk P w K mg base (CX1 P w) 1 fn dn ["word"] (spNd CW))
    (FM : Fn K mg "moved_once" sMovedOnce ["sheet", "letter"] fm dm) (GM : FnOk P w K mg base CX0 3 fm dm ["sheet", "letter"] spM1) : FnOk P w K mg base (CX1 P w) 4 f fd ["sheet", "word"] (spMd CW) := by
  refine F.F.ok1 sc_md (fun vs H Q E h => ?_) (fun cdv A outer s H vs Q E hr h => ?_)
  · obtain ⟨a, z, n, r, u, rfl, _⟩ := h; rfl
  · obtain ⟨a, z, n, r, u, rfl, hz, hsh, rr, ru, hn, k1, k2⟩ := h
    have hr1 : Room 1 _ := hr.mono (by decide)
    refine ⟨_, (pss_cons (ps_expr (pe_call GN hr1 rfl FN.m FN.F.kp FN.b .nil (pass1 fun _ _ _ z => z) (pa_cons (pv 1) pa_nil)))
      (PSs.nox (pss_cons (ps_set (i := 2) sc_md.nd rfl (Or.inl rfl) (pv 0))
      (pss_cons (ps_for PassesOwn.never rfl (pi_str (pv 1)) (pg_name (i := 3) sc_md.nd rfl (Or.inl rfl)) (pss_one (ps_set (i := 2) sc_md.nd rfl (Or.inl rfl) (pe_call GM hr rfl FM.m FM.F.kp FM.b .nil pass0 (pa_cons (pv 2) (pa_cons (pv 3) pa_nil))))))
      (pss_one (ps_ret (pv 2))))))), ?_⟩
    refine ⟨_, rfl, z, rfl, hz, fun ho H1 s1 => ?_, k2⟩
    refine ⟨_, rfl, ?_⟩
    refine ⟨_, rfl, _, rfl, for_str (fun i σ H3 => Same H H3 ∧ ∃ b o3, σ = [some (.ref a), some (.str (txt z)), some (.ref b), o3] ∧ ShAt H3 b (mvs n (z.take i) (r, u)).1 (mvs n (z.take i) (r, u)).2) ⟨s1, a, _, rfl, hsh.same s1⟩ ?_ ?_⟩
    · rintro i c σ H3 hc ⟨s3, b, o3, rfl, hb⟩
      rw [txt_get] at hc
      obtain ⟨q1, q2⟩ := mvs_row (z.take i) (x := (r, u)) ⟨rr, ru⟩
      refine ⟨_, rfl, _, rfl, b, c, n, _, _, rfl, hb, q1, q2, hn, fun H4 b2 s4 hb2 => ⟨s3.trans s4, b2, _, rfl, ?_⟩⟩
      have : z.take (i + 1) = z.take i ++ [c] := by rw [List.take_add_one, hc]; rfl
      rw [this, mvs_snoc]; exact hb2
    · rintro σ H3 ⟨s3, b, o3, rfl, hb⟩
      rw [txt_len, List.take_length] at hb
      exact ⟨_, rfl, k1 ho H3 b s3 hb⟩
end
end K1
namespace K1
open PySem L2 Sq
def spCycF (K : PySem.W.Frag) : Sp := fun vs H Q _ => ∃ (p : Addr) (n : Nat) (r : List Nat) (x : Nat), vs = [.ref p, .int (x : Int)] ∧ RowAt K H p r ∧ Row n r ∧ x < n ∧ n ≤ 36 ∧
  ∀ (H' : Hp) (l : Addr) (M : List Nat), Same H H' → H l = none → H' l = some (.lst (nv M)) → Cyc r x M → Q (.ref l) H'
/-- how far the list at l is from 100 -/
def muL (l : Addr) (H : Hp) : Nat := match H l with
  | some (.lst xs) => 100 - xs.length
  | _ => 0
theorem muL_at {l : Addr} {H : Hp} {xs : List V} (h : H l = some (.lst xs)) : muL l H = 100 - xs.length := by unfold muL; rw [h]
theorem last_at {M : List Nat} {k y : Nat} (hk : M.length = k + 1) (h : M[k]? = some y) : atI (nv M) (-1) = some (.int (y : Int)) := by
  unfold atI ixN
  rw [if_neg (by decide), if_pos (by rw [nv_len]; omega)]
  show (nv M)[((-1 : Int) + ((nv M).length : Int)).toNat]? = _
  rw [nv_len, hk, show ((-1 : Int) + ((k + 1 : Nat) : Int)).toNat = k from by omega]
  exact nv_get h
theorem rIx_mono {K : PySem.W.Frag} {x y : V} {H : Hp} {Q Q' : VK} (h : ∀ v H1, Q v H1 → Q' v H1) (q : rIx K x y H Q) : rIx K x y H Q' := by
  rcases q with ⟨a, xs, i, v, q1, q2, q3, q4, q⟩ | ⟨a, xs, i, v, q1, q2, q3, q4, q⟩ | ⟨z, i, v, q1, q2, q3, q4, q⟩
  · exact .inl ⟨a, xs, i, v, q1, q2, q3, q4, h _ _ q⟩
  · exact .inr (.inl ⟨a, xs, i, v, q1, q2, q3, q4, h _ _ q⟩)
  · exact .inr (.inr ⟨z, i, v, q1, q2, q3, q4, h _ _ q⟩)
section
variable {P : Program} {w : World} {K : PySem.W.Frag} {mg : Str → Option Value} {base : Heap}
abbrev nCy : List Str := ["row", "first", "met"]
theorem scCy : FnScope nCy ["row", "first"] (defScope sCycleFrom) := ⟨rfl, rfl, rfl, by decide +kernel, rfl, by decide +kernel, by decide +kernel⟩
theorem ok_cycF {f : Addr} {fd : FuncData} (F : Fn K mg "cycle_from" sCycleFrom ["row", "first"] f fd) : FnOk P w K mg base CX0 1 f fd ["row", "first"] (spCycF K) := by
  refine F.F.ok scCy (fun vs H Q E h => ?_) (fun cdv A outer s H vs Q E hr h => ?_)
  · obtain ⟨p, n, r, x, rfl, _⟩ := h; rfl
  · obtain ⟨p, n, r, x, rfl, hp, rr, hx, hn, k⟩ := h
    refine ⟨_, pss_cons (ps_set (i := 2) scCy.nd rfl (Or.inl rfl) (pe_lst (pa_cons (pv 1) pa_nil)))
      (pss_cons (ps_while PassesOwn.never (pt_cmpR op_ne (pe_ix ix_seq (pv 0) (pe_ix ix_list (pv 2) (pe_un un_neg pe_int) (fun _ _ => rfl)) (fun _ _ => rfl)) (pv 1) (nomark _))
        (pss_one (ps_expr (pe_bm PySem.F.plainAttrs_list PySem.F.slot_list_append PySem.F.type_list_append mt_append (pv 2) (pa_cons (pe_ix ix_seq (pv 0) (pe_ix ix_list (pv 2) (pe_un un_neg pe_int) (fun _ _ => rfl)) (fun _ _ => rfl)) pa_nil)))))
      (pss_one (ps_ret (pv 2)))), ?_⟩
    refine ⟨_, rfl, (by show 1 ≤ sizeLine; decide), fun l hl => ?_⟩
    refine while_by (fun σ H2 => ∃ k, σ = [some (.ref p), some (.int (x : Int)), some (.ref l)] ∧ Same H H2 ∧ H2 l = some (.lst (nv ((List.range (k + 1)).map (it r x)))) ∧ ∀ i, 1 ≤ i → i < k + 1 → it r x i ≠ x) (fun _ H => muL l H) ?_ ?_ ?_
    · exact ⟨0, rfl, same_upd (Same.refl H) hl, upd_same, fun i h1 h2 => absurd h2 (by omega)⟩
    · rintro σ H2 ⟨kk, rfl, s2, h2, new⟩
      have hlen := it_len rr hx new
      have hM : ((List.range (kk + 1)).map (it r x)).length = kk + 1 := by simp
      have hlast := last_at hM (show ((List.range (kk + 1)).map (it r x))[kk]? = some (it r x kk) by simp)
      have hlt := it_lt rr hx kk
      refine ⟨_, rfl, _, rfl, _, rfl, l, _, _, _, rfl, rfl, SqL.of h2, hlast, ?_⟩
      refine rowIx (hp.same s2) rr hlt ?_
      refine ⟨_, rfl, rfl, _, rfl, ?_⟩
      by_cases e : nx r (it r x kk) = x
      · refine iteNS (by rw [e]) ?_
        refine ⟨_, rfl, k H2 l _ s2 hl h2 ⟨by rw [hM]; omega, by rw [hM], by rw [hM]; exact e, by rw [hM]; exact new⟩⟩
      · rw [decide_eq_false (by intro z; have := V.int.inj z; exact e (by omega))]
        refine iteT ?_
        refine ⟨_, rfl, .inl ⟨rfl, _, SqL.of h2⟩, _, rfl, _, rfl, _, rfl, l, _, _, _, rfl, rfl, SqL.of h2, hlast, ?_⟩
        refine rowIx (hp.same s2) rr hlt ?_
        refine ⟨l, _, _, rfl, rfl, h2, by rw [nv_len, hM]; exact small1000 (by omega), ?_⟩
        have e2 : nv ((List.range (kk + 1)).map (it r x)) ++ [.int ((nx r (it r x kk) : Nat) : Int)] = nv ((List.range (kk + 1 + 1)).map (it r x)) := by
          rw [nv_snoc, List.range_succ (n := kk + 1), List.map_append]; rfl
        rw [e2]
        refine ⟨⟨kk + 1, rfl, same_upd s2 hl, upd_same, fun i h1 h2' => ?_⟩, ?_⟩
        · rcases Nat.lt_or_ge i (kk + 1) with c | c
          · exact new i h1 c
          · have : i = kk + 1 := by omega
            subst this; exact e
        · rw [muL_at upd_same, muL_at h2, nv_len, nv_len, hM]
          simp; omega
    · rintro σ H Q Q' h h2
      obtain ⟨v, e1, v1, e2, v2, e3, q⟩ := h2
      refine ⟨v, e1, v1, e2, v2, e3, ?_⟩
      obtain ⟨a, xs, i, v, q1, q2, q3, q4, q⟩ := q
      refine ⟨a, xs, i, v, q1, q2, q3, q4, ?_⟩
      exact rIx_mono (fun x H1 ⟨v', e, q5, w', e', q6⟩ => ⟨v', e, q5, w', e', h _ _ q6⟩) q
end
end K1
namespace L2
open PySem PySem.Spec PyProof.Rows
theorem best_lt (val : Nat → Int) : ∀ n : Nat, argBest (fun i j => decide (val i < val j)) n ≤ n ∧ ∀ j, j ≤ n → val (argBest (fun i j => decide (val i < val j)) n) ≤ val j
  | 0 => ⟨Nat.le_refl _, fun j hj => by have : j = 0 := by omega
                                        subst this; exact Int.le_refl _⟩
  | n + 1 => by
    obtain ⟨h1, h2⟩ := best_lt val n
    show (if decide (val (n + 1) < val (argBest (fun i j => decide (val i < val j)) n)) = true then n + 1 else argBest (fun i j => decide (val i < val j)) n) ≤ n + 1 ∧ _
    show _ ∧ ∀ j, j ≤ n + 1 → val (if decide (val (n + 1) < val (argBest (fun i j => decide (val i < val j)) n)) = true then n + 1 else argBest (fun i j => decide (val i < val j)) n) ≤ val j
    by_cases c : val (n + 1) < val (argBest (fun i j => decide (val i < val j)) n)
    · rw [if_pos (decide_eq_true c)]
      refine ⟨Nat.le_refl _, fun j hj => ?_⟩
      rcases Nat.lt_or_ge j (n + 1) with d | d
      · have := h2 j (by omega); omega
      · have : j = n + 1 := by omega
        subst this; exact Int.le_refl _
    · rw [if_neg (by rw [decide_eq_true_iff]; exact c)]
      refine ⟨by omega, fun j hj => ?_⟩
      rcases Nat.lt_or_ge j (n + 1) with d | d
      · exact h2 j (by omega)
      · have : j = n + 1 := by omega
        subst this; omega
section
variable {X : Cx}
theorem boot_min : bootBuiltins "min" = some (.builtin "min") := by decide +kernel
theorem call_minL (hc : X.calm = true) : CallR X (.builtin "min") (fun xs H Q => ∃ (p : Addr) (ns : List Int), xs = [.ref p] ∧ SqL X.K H p (ns.map V.int) ∧ ns ≠ [] ∧ ∀ m, m ∈ ns → (∀ y ∈ ns, m ≤ y) → Q (.int m) H) := by
  intro pins s σ H xs us Q I r h
  obtain ⟨p, ns, rfl, hq, hne, q⟩ := h
  obtain ⟨u, rfl, ru⟩ := vals1 r
  obtain rfl : u = Value.ref p := ru
  obtain ⟨its, rv, pl, hz⟩ := I.list hq
  have hL := pl.isList
  have hlt : p < s.heap.objs.size := by obtain ⟨o, ho, _⟩ := id hL; exact Heap.lt_size ho
  have hlen : its.length = ns.length := by rw [← rv.length]; simp
  have hpos : 0 < ns.length := List.length_pos_iff.mpr hne
  have hval : ∀ i v, its.toArray[i]? = some v → ∃ t, v = Value.int (ns.getD i 0) t := fun i v hP => by
    have hv : its[i]? = some v := by simpa using hP
    have hi : i < ns.length := by rw [← hlen]; exact (List.getElem?_eq_some_iff.mp hv).1
    have hb : (ns.map V.int)[i]? = some (.int ns[i]) := by simp [hi]
    obtain ⟨u, hu, t, rfl⟩ := rv.get hb
    rw [hv] at hu; cases hu
    exact ⟨t, by simp [List.getD_eq_getElem?_getD, hi]⟩
  refine call_min_walk (wpAny_pyIter_list hL ⟨s.heap.objs.size, _, _, its.toArray.size, _, _, _, rfl, Walks.list (A := X.A.in1) (I.ok.hd hc) s.heap.objs.size p (Nat.ne_of_lt hlt) its.toArray, ⟨⟨_, Heap.get?_push_size _ rfl, rfl, rfl⟩, hL.push _⟩, fun b hb => ?_, by rw [List.size_toArray]; omega, CmpOf.ints_lt (fun i => ns.getD i 0) hval, fun v h' tk hP hk => ?_⟩)
  · rw [Heap.size_push]
    simp at hb
    rcases hb with rfl | rfl
    · exact Nat.lt_succ_self _
    · exact Nat.lt_succ_of_lt hlt
  · obtain ⟨t, rfl⟩ := hval _ v hP
    obtain ⟨b1, b2⟩ := best_lt (fun i => ns.getD i 0) (its.toArray.size - 1)
    rw [List.size_toArray, hlen] at b1 b2 hP ⊢
    generalize argBest (fun i j => decide (ns.getD i 0 < ns.getD j 0)) (ns.length - 1) = k at b1 b2 hP ⊢
    have hk' : k < ns.length := by omega
    refine ⟨.int (ns.getD k 0), H, ?_, ⟨t, rfl⟩, q _ ?_ fun y hy => ?_⟩
    · refine I.kept fun b o e => hk b o (fun hb => ?_) (Heap.get?_push_of_some _ e)
      have := Heap.lt_size e
      simp at hb
      rw [hb] at this
      exact Nat.lt_irrefl _ this
    · simp [List.getD_eq_getElem?_getD, hk']
    · obtain ⟨j, hj, rfl⟩ := List.mem_iff_getElem.mp hy
      have := b2 j (by omega)
      simpa [List.getD_eq_getElem?_getD, hj] using this
end
end L2
namespace L2
open PySem PySem.Spec PyProof.Rows
def XW (n : Nat) (Pv : Nat → List V → St → Hp → Prop) (d : Addr) (i m : Nat) (σ : St) (H : Hp) : Prop := m = n - i ∧ i ≤ n ∧ ∃ xs, Pv i xs σ H ∧ H d = some (.lst xs)
def XPost (n : Nat) (Pv : Nat → List V → St → Hp → Prop) (d : Addr) (i : Nat) (σ3 : St) (y : V) (H4 : Hp) : Prop := ∃ xs, H4 d = some (.lst xs) ∧ xs.length < sizeLine ∧ ∃ m', m' < n - i ∧ XW n Pv d (i + 1) m' σ3 (upd H4 d (.lst (xs ++ [y])))
def XSkip (n : Nat) (Pv : Nat → List V → St → Hp → Prop) (d : Addr) (i : Nat) (σ3 : St) (H4 : Hp) : Prop := ∃ m', m' < n - i ∧ XW n Pv d (i + 1) m' σ3 H4
theorem xpost {n : Nat} {Pv : Nat → List V → St → Hp → Prop} {d : Addr} {i : Nat} {σ3 : St} {y : V} {H4 : Hp} {xs : List V} (hi : i < n) (hd : H4 d = some (.lst xs)) (hl : xs.length ≤ 1000) (hp : Pv (i + 1) (xs ++ [y]) σ3 (upd H4 d (.lst (xs ++ [y])))) : XPost n Pv d i σ3 y H4 :=
  ⟨xs, hd, small1000 hl, n - (i + 1), by omega, rfl, hi, _, hp, upd_same⟩
theorem xskip {n : Nat} {Pv : Nat → List V → St → Hp → Prop} {d : Addr} {i : Nat} {σ3 : St} {H4 : Hp} {xs : List V} (hi : i < n) (hd : H4 d = some (.lst xs)) (hp : Pv (i + 1) xs σ3 H4) : XSkip n Pv d i σ3 H4 :=
  ⟨n - (i + 1), by omega, rfl, hi, _, hp, hd⟩
theorem comp_ex {J : It} {g : TG} {te : TE} {d : Addr} {σ0 : St} {H1 : Hp} {Q : Addr → Hp → Prop} (n : Nat) (Pv : Nat → List V → St → Hp → Prop) (h0 : Pv 0 [] σ0 (upd H1 d (.lst [])))
    (go : ∀ i xs σ H, i < n → Pv i xs σ H → H d = some (.lst xs) → J.go i H ∧ ∀ x H2, J.yld i H x H2 → g x σ H2 fun σ3 H3 => te σ3 H3 fun y H4 => XPost n Pv d i σ3 y H4)
    (stop : ∀ xs σ H, Pv n xs σ H → H d = some (.lst xs) → J.stop n H ∧ Q d H) :
    ∃ W : Nat → Nat → St → Hp → Prop, (∃ m, W 0 m σ0 (upd H1 d (.lst []))) ∧ ∀ i m σ' H', W i m σ' H' →
      (J.stop i H' ∧ Q d H') ∨ (J.go i H' ∧ ∀ x H2, J.yld i H' x H2 → g x σ' H2 fun σ3 H3 => te σ3 H3 fun y H4 => ∃ xs, H4 d = some (.lst xs) ∧ xs.length < sizeLine ∧ ∃ m', m' < m ∧ W (i + 1) m' σ3 (upd H4 d (.lst (xs ++ [y])))) := by
  refine ⟨XW n Pv d, ⟨n, by simp, Nat.zero_le _, [], h0, upd_same⟩, ?_⟩
  rintro i m σ H ⟨rfl, hi, xs, p, hd⟩
  by_cases hlt : i < n
  · exact .inr (go i xs σ H hlt p hd)
  · have : i = n := by omega
    subst this
    exact .inl (stop xs σ H p hd)
theorem compIf_ex {J : It} {g : TG} {tt : TT} {te : TE} {d : Addr} {σ0 : St} {H1 : Hp} {Q : Addr → Hp → Prop} (n : Nat) (Pv : Nat → List V → St → Hp → Prop) (h0 : Pv 0 [] σ0 (upd H1 d (.lst [])))
    (go : ∀ i xs σ H, i < n → Pv i xs σ H → H d = some (.lst xs) → J.go i H ∧ ∀ x H2, J.yld i H x H2 → g x σ H2 fun σ3 H3 => tt σ3 H3 fun b H4 => if b = true then te σ3 H4 fun y H5 => XPost n Pv d i σ3 y H5 else XSkip n Pv d i σ3 H4)
    (stop : ∀ xs σ H, Pv n xs σ H → H d = some (.lst xs) → J.stop n H ∧ Q d H) :
    ∃ W : Nat → Nat → St → Hp → Prop, (∃ m, W 0 m σ0 (upd H1 d (.lst []))) ∧ ∀ i m σ' H', W i m σ' H' →
      (J.stop i H' ∧ Q d H') ∨ (J.go i H' ∧ ∀ x H2, J.yld i H' x H2 → g x σ' H2 fun σ3 H3 => tt σ3 H3 fun b H4 => if b = true then te σ3 H4 fun y H5 => ∃ xs, H5 d = some (.lst xs) ∧ xs.length < sizeLine ∧ ∃ m', m' < m ∧ W (i + 1) m' σ3 (upd H5 d (.lst (xs ++ [y])))
        else ∃ m', m' < m ∧ W (i + 1) m' σ3 H4) := by
  refine ⟨XW n Pv d, ⟨n, by simp, Nat.zero_le _, [], h0, upd_same⟩, ?_⟩
  rintro i m σ H ⟨rfl, hi, xs, p, hd⟩
  by_cases hlt : i < n
  · exact .inr (go i xs σ H hlt p hd)
  · have : i = n := by omega
    subst this
    exact .inl (stop xs σ H p hd)
end L2
namespace K1
open PySem L2 Sq
/-- lists at these addresses -/
def Lsts (H : Hp) : List Addr → List (List Nat) → Prop
  | [], [] => True
  | a :: as, M :: Ms => H a = some (.lst (nv M)) ∧ Lsts H as Ms
  | _, _ => False
theorem Lsts.same {H H' : Hp} (e : Same H H') : ∀ {as : List Addr} {Ms : List (List Nat)}, Lsts H as Ms → Lsts H' as Ms
  | [], [], _ => trivial
  | _ :: _, _ :: _, ⟨h1, h2⟩ => ⟨e _ _ h1, Lsts.same e h2⟩
  | [], _ :: _, h => h.elim
  | _ :: _, [], h => h.elim
theorem Lsts.len {H : Hp} : ∀ {as : List Addr} {Ms : List (List Nat)}, Lsts H as Ms → as.length = Ms.length
  | [], [], _ => rfl
  | _ :: as, _ :: Ms, ⟨_, h2⟩ => by simp [Lsts.len h2]
  | [], _ :: _, h => h.elim
  | _ :: _, [], h => h.elim
theorem Lsts.get {H : Hp} : ∀ {as : List Addr} {Ms : List (List Nat)}, Lsts H as Ms → ∀ {i : Nat} {a : Addr}, as[i]? = some a → ∃ M, Ms[i]? = some M ∧ H a = some (.lst (nv M))
  | [], [], _, i, a, h => by simp at h
  | b :: as, M :: Ms, ⟨h1, h2⟩, 0, a, h => by simp at h; subst h; exact ⟨M, rfl, h1⟩
  | b :: as, M :: Ms, ⟨h1, h2⟩, i + 1, a, h => by
    obtain ⟨M', e1, e2⟩ := Lsts.get h2 (i := i) (a := a) (by simpa using h)
    exact ⟨M', by simpa using e1, e2⟩
  | [], _ :: _, h, _, _, _ => h.elim
  | _ :: _, [], h, _, _, _ => h.elim
theorem Lsts.snoc {H : Hp} : ∀ {as : List Addr} {Ms : List (List Nat)} {a : Addr} {M : List Nat}, Lsts H as Ms → H a = some (.lst (nv M)) → Lsts H (as ++ [a]) (Ms ++ [M])
  | [], [], _, _, _, h => ⟨h, trivial⟩
  | _ :: _, _ :: _, _, _, ⟨h1, h2⟩, h => ⟨h1, Lsts.snoc h2 h⟩
  | [], _ :: _, _, _, h, _ => h.elim
  | _ :: _, [], _, _, h, _ => h.elim
theorem Lsts.updN {H : Hp} {d : Addr} {o o' : HO} (hd : H d = some o') : ∀ {as : List Addr} {Ms : List (List Nat)}, Lsts H as Ms → (∀ a ∈ as, a ≠ d) → Lsts (upd H d o) as Ms
  | [], [], _, _ => trivial
  | a :: _, _ :: _, ⟨h1, h2⟩, hn => ⟨by rw [upd_ne (hn a (by simp))]; exact h1, Lsts.updN hd h2 fun b hb => hn b (by simp [hb])⟩
  | [], _ :: _, h, _ => h.elim
  | _ :: _, [], h, _ => h.elim
/-- the refs of a list of lists -/
def rv (as : List Addr) : List V := as.map V.ref
theorem rv_snoc (as : List Addr) (a : Addr) : rv as ++ [.ref a] = rv (as ++ [a]) := by simp [rv]
theorem rv_len (as : List Addr) : (rv as).length = as.length := by simp [rv]
theorem rv_get {as : List Addr} {i : Nat} {a : Addr} (h : as[i]? = some a) : (rv as)[i]? = some (.ref a) := by simp [rv, h]
theorem nv_int (M : List Nat) : nv M = (M.map fun (x : Nat) => (x : Int)).map V.int := by simp [nv]
def spCycles (K : PySem.W.Frag) : Sp := fun vs H Q _ => ∃ (p : Addr) (n : Nat) (r : List Nat), vs = [.ref p] ∧ RowAt K H p r ∧ Row n r ∧ n ≤ 36 ∧
  ∀ (H' : Hp) (l : Addr) (as : List Addr), Same H H' → H l = none → H' l = some (.lst (rv as)) → (∀ a ∈ as, H a = none) → Lsts H' as (rounds n r) → Q (.ref l) H'
theorem range_get {n i : Nat} (hi : i < n) : (List.range n)[i]? = some i := List.getElem?_range hi
section
variable {P : Program} {w : World} {K : PySem.W.Frag} {mg : Str → Option Value} {base : Heap}
abbrev nCs : List Str := ["row", "found"]
theorem scCs : FnScope nCs ["row"] (defScope sCycles) := ⟨rfl, rfl, rfl, by decide +kernel, rfl, by decide +kernel, by decide +kernel⟩
theorem ndCs1 : (["first", "row"] : List Str).Nodup := by decide +kernel
theorem ndCs2 : (["cycle"] : List Str).Nodup := by decide +kernel
theorem ok_cycles {f fc : Addr} {fd fdc : FuncData} (T : Bi mg) (Tm : mg "min" = none) (F : Fn K mg "cycles" sCycles ["row"] f fd) (FC : Fn K mg "cycle_from" sCycleFrom ["row", "first"] fc fdc) (GC : FnOk P w K mg base CX0 1 fc fdc ["row", "first"] (spCycF K)) :
    FnOk P w K mg base CX0 2 f fd ["row"] (spCycles K) := by
  refine F.F.ok scCs (fun vs H Q E h => ?_) (fun cdv A outer s H vs Q E hr h => ?_)
  · obtain ⟨p, n, r, rfl, _⟩ := h; rfl
  · obtain ⟨p, n, r, rfl, hp, rr, hn, k⟩ := h
    refine ⟨_, pss_cons (ps_comp (j := 1) (N := nCs) (names := (defScope sCycles).names) (N' := ["first", "row"]) (k := 1) (pull := [0]) (te := tCall (spCycF K) [] E0 (tCons (tVar 1) (tCons (tVar 0) tNil))) rfl scCs.nd rfl rfl
          ⟨by rfl, by decide +kernel, by decide +kernel, by rfl, by decide +kernel, by decide +kernel⟩ rfl rfl (pi_range1 rfl T.range (pa_cons (pe_callB call_len_seq rfl T.len PySem.boot_len (pa_cons (pv 0) pa_nil)) pa_nil)) (fun _ _ _ _ _ _ => pg_name (i := 0) ndCs1 rfl (Or.inl rfl))
          (fun _ _ _ _ _ _ => pe_call GC hr rfl FC.m FC.F.kp FC.b .nil pass0 (pa_cons (pv 1) (pa_cons (pv 0) pa_nil))))
      (pss_one (ps_ret (pe_compIf (N := nCs) (names := (defScope sCycles).names) (N' := ["cycle"]) (k := 1) (pull := []) (tt := tTest (tOp rEq (tOp (rIxL K) (tVar 0) (tC (.int 0))) (tCB (fun xs H Q => ∃ (p : Addr) (ns : List Int), xs = [.ref p] ∧ SqL K H p (ns.map V.int) ∧ ns ≠ [] ∧ ∀ m, m ∈ ns → (∀ y ∈ ns, m ≤ y) → Q (.int m) H) (tCons (tVar 0) tNil)))) (te := tVar 0) rfl
          ⟨by rfl, by decide +kernel, by decide +kernel, by rfl, by decide +kernel, by decide +kernel⟩ rfl rfl (pi_list (pv 1)) (fun _ _ _ _ _ _ => pg_name (i := 0) ndCs2 rfl (Or.inl rfl))
          (fun _ _ _ _ _ _ => pt_cmpR op_eq (pe_ix ix_list (pv 0) pe_int (fun _ _ => rfl)) (pe_callB (call_minL rfl) rfl Tm boot_min (pa_cons (pv 0) pa_nil)) (nomark _))
          (fun _ _ _ _ _ _ => pv 0)))), ?_⟩
    refine ⟨_, rfl, p, _, rfl, hp, (n : Int), by rw [nv_len, rr.len], by omega, by omega, fun d hd => ?_⟩
    rw [Int.toNat_natCast]
    show ∃ W : Nat → Nat → St → Hp → Prop, (∃ m, W 0 m [none, some (.ref p)] (upd H d (.lst []))) ∧ _
    refine comp_ex (J := Itr 0 n) (Q := fun d H' => gName 1 (.ref d) [some (.ref p), none] H' _) n (fun i xs σ H3 => ∃ o as, σ = [o, some (.ref p)] ∧ Same H H3 ∧ xs = rv as ∧ (∀ a ∈ as, H a = none ∧ a ≠ d) ∧ Lsts H3 as ((List.range i).map (cyc n r))) ⟨_, [], rfl, same_upd (Same.refl _) hd, rfl, by simp, trivial⟩ ?_ ?_
    · rintro i xs σ H3 hi ⟨o, as, rfl, s3, rfl, fr, hL⟩ hd3
      refine ⟨hi, fun x H4 ⟨e1, e2⟩ => ?_⟩
      subst e1 e2
      rw [show (0 : Int) + (i : Int) = (i : Int) from by omega]
      refine ⟨_, rfl, _, rfl, p, n, r, i, rfl, hp.same s3, rr, hi, hn, fun H5 l M s5 f5 hl hM => ?_⟩
      have eM := hM.eq rr hi
      subst eM
      have hlen := hL.len
      rw [List.length_map, List.length_range] at hlen
      refine xpost hi (s5 _ _ hd3) (by rw [rv_len]; omega) ⟨_, as ++ [l], rfl, same_upd (s3.trans s5) hd, rv_snoc _ _, fun a ha => ?_, ?_⟩
      · rcases List.mem_append.mp ha with ha | ha
        · exact fr a ha
        · rw [List.mem_singleton.mp ha]
          exact ⟨s3.free f5, fun e => by rw [e, hd3] at f5; cases f5⟩
      · have nd : ∀ {a : Addr} {o : HO}, H5 a = some o → a ≠ d → (upd H5 d (.lst (rv as ++ [.ref l]))) a = some o := fun h hne => by rw [upd_ne hne]; exact h
        rw [List.range_succ, List.map_append]
        have hld : l ≠ d := fun e => by rw [e, hd3] at f5; cases f5
        refine Lsts.snoc ?_ (nd hl hld)
        have h5 := hL.same s5
        exact h5.updN (s5 _ _ hd3) fun a ha => (fr a ha).2
    · rintro xs σ H3 ⟨o, as, rfl, s3, rfl, fr, hL⟩ hd3
      refine ⟨Nat.le_refl _, ?_⟩
      have hlen := hL.len
      rw [List.length_map, List.length_range] at hlen
      refine ⟨_, rfl, d, rfl, ⟨_, SqL.of hd3⟩, fun e he => ?_⟩
      refine compIf_ex (σ0 := [none]) (Q := fun d H' => Q (.ref d) H') n (fun i xs σ H4 => ∃ o bs, σ = [o] ∧ Same H3 H4 ∧ xs = rv bs ∧ (∀ a ∈ bs, a ∈ as) ∧ Lsts H4 bs (((List.range i).filter (lead n r)).map (cyc n r))) ⟨_, [], rfl, same_upd (Same.refl _) he, rfl, by simp, trivial⟩ ?_ ?_
      · rintro i xs σ H4 hi ⟨o, bs, rfl, s4, rfl, sub, hB⟩ he4
        have ha : as[i]? = some (as[i]'(by omega)) := List.getElem?_eq_getElem _
        generalize as[i]'(by omega) = a at ha
        obtain ⟨M, hM, hA⟩ := hL.get ha
        rw [List.getElem?_map, range_get hi] at hM
        have eM : cyc n r i = M := Option.some.inj hM
        subst eM
        have hd4 := SqL.of (K := K) (s4 _ _ hd3)
        refine ⟨⟨_, _, hd4, rv_get ha⟩, fun y H5 ⟨e1, hy⟩ => ?_⟩
        subst e1
        have hy := hy _ hd4
        rw [rv_get ha] at hy
        cases hy
        have hA4 := s4 _ _ hA
        refine ⟨_, rfl, a, _, 0, _, rfl, rfl, SqL.of hA4, atI_nat (j := 0) (nv_get (cyc_head rr hi)), _, rfl, a, (cyc n r i).map fun (x : Nat) => (x : Int), rfl, by rw [← nv_int]; exact SqL.of hA4, ?_, fun m hm hle => ?_⟩
        · intro z
          have := cyc_head rr hi
          rw [List.map_eq_nil_iff.mp z] at this
          simp at this
        obtain ⟨x, hx, rfl⟩ := List.mem_map.mp hm
        refine ⟨rfl, _, rfl, ?_⟩
        have hblen := hB.len
        have hbl : bs.length ≤ 36 := by
          rw [hblen, List.length_map]
          have := List.length_filter_le (lead n r) (List.range i)
          rw [List.length_range] at this
          omega
        have hfs : (List.range (i + 1)).filter (lead n r) = (List.range i).filter (lead n r) ++ [i].filter (lead n r) := by rw [List.range_succ, List.filter_append]
        by_cases e : i = x
        · subst e
          rw [decide_eq_true rfl]
          refine iteT ?_
          have hld : lead n r i = true := lead_iff.mpr fun y hy => by
            have := hle _ (List.mem_map.mpr ⟨y, hy, rfl⟩); omega
          refine ⟨_, rfl, xpost hi he4 (by rw [rv_len]; omega) ⟨_, bs ++ [a], rfl, same_upd s4 he, rv_snoc _ _, fun b hb => ?_, ?_⟩⟩
          · rcases List.mem_append.mp hb with hb | hb
            · exact sub b hb
            · rw [List.mem_singleton.mp hb]; exact List.mem_of_getElem? ha
          · rw [hfs, List.filter_cons_of_pos hld, List.filter_nil, List.map_append]
            refine Lsts.snoc (hB.updN he4 ?_) ?_
            · intro b hb z
              obtain ⟨j, hj⟩ := List.getElem?_of_mem (sub b hb)
              obtain ⟨M, _, hM⟩ := hL.get hj
              rw [z, he] at hM; cases hM
            · rw [upd_ne (fun z => by rw [z, he] at hA; cases hA)]; exact hA4
        · rw [decide_eq_false (by intro z; have := V.int.inj z; omega)]
          refine iteF ?_
          have hnl : ¬ lead n r i = true := fun z => by
            have h1 := lead_iff.mp z x hx
            have h2 := hle _ (List.mem_map.mpr ⟨i, List.mem_of_getElem? (cyc_head rr hi), rfl⟩)
            omega
          refine xskip hi he4 ⟨_, bs, rfl, s4, rfl, sub, ?_⟩
          rw [hfs, List.filter_cons_of_neg hnl, List.filter_nil, List.append_nil]
          exact hB
      · rintro xs σ H4 ⟨o, bs, rfl, s4, rfl, sub, hB⟩ he4
        refine ⟨⟨_, SqL.of (s4 _ _ hd3), by rw [rv_len, hlen]; exact Nat.le_refl _⟩, ?_⟩
        exact k H4 e bs (s3.trans s4) (s3.free he) he4 (fun a ha => (fr a (sub a ha)).1) hB
end
end K1
namespace L2
open PySem PySem.Spec PyProof.Rows PySem.W
def kev {α : Type} (lt : Nat → Nat → Bool) : KasT α → α
  | .ret a => a
  | .ask i j k => kev lt (k (lt i j))
theorem kev_ret {α : Type} (lt : Nat → Nat → Bool) (a : α) : kev lt (.ret a) = a := rfl
theorem kev_ask {α : Type} (lt : Nat → Nat → Bool) (i j : Nat) (k : Bool → KasT α) : kev lt (.ask i j k) = kev lt (k (lt i j)) := rfl
theorem kev_bind {α β : Type} (lt : Nat → Nat → Bool) : ∀ (t : KasT α) (f : α → KasT β), kev lt (t.bind f) = kev lt (f (kev lt t))
  | .ret a, f => by rw [KasT.bind]; rfl
  | .ask i j k, f => by
    rw [KasT.bind, kev_ask, kev_ask]
    exact kev_bind lt (k (lt i j)) f
variable (key : Nat → Nat)
abbrev kl : Nat → Nat → Bool := fun i j => decide (key i < key j)
theorem kl_t {i j : Nat} (h : key i < key j) : kl key i j = true := decide_eq_true h
theorem kl_f {i j : Nat} (h : ¬ key i < key j) : kl key i j = false := decide_eq_false h
/-- the key at a place -/
def ka (p : Array Nat) (t : Nat) : Nat := key (p.getD t 0)
theorem ka_get {p q : Array Nat} {t s : Nat} (h : p[t]? = q[s]?) : ka key p t = ka key q s := by
  unfold ka
  rw [Array.getD_eq_getD_getElem?, Array.getD_eq_getD_getElem?, h]
/-- the first m are sorted -/
def Srt (p : Array Nat) (m : Nat) : Prop := ∀ t, t + 1 < m → ka key p t ≤ ka key p (t + 1)
def Dsc (p : Array Nat) (m : Nat) : Prop := ∀ t, t + 1 < m → ka key p (t + 1) ≤ ka key p t
theorem Srt.le {p : Array Nat} {m : Nat} (h : Srt key p m) {s : Nat} : ∀ {t : Nat}, s ≤ t → t < m → ka key p s ≤ ka key p t
  | 0, h1, _ => by have : s = 0 := by omega
                   subst this; exact Nat.le_refl _
  | t + 1, h1, h2 => by
    rcases Nat.lt_or_ge s (t + 1) with c | c
    · exact Nat.le_trans (Srt.le h (by omega) (by omega)) (h t h2)
    · have : s = t + 1 := by omega
      subst this; exact Nat.le_refl _
theorem Dsc.le {p : Array Nat} {m : Nat} (h : Dsc key p m) {s : Nat} : ∀ {t : Nat}, s ≤ t → t < m → ka key p t ≤ ka key p s
  | 0, h1, _ => by have : s = 0 := by omega
                   subst this; exact Nat.le_refl _
  | t + 1, h1, h2 => by
    rcases Nat.lt_or_ge s (t + 1) with c | c
    · exact Nat.le_trans (h t h2) (Dsc.le h (by omega) (by omega))
    · have : s = t + 1 := by omega
      subst this; exact Nat.le_refl _
/-- rising on from i -/
theorem asc_spec (p : Array Nat) : ∀ (f i : Nat), 1 ≤ i → Srt key p i → i ≤ kev (kl key) (kas_asc p f i) ∧ kev (kl key) (kas_asc p f i) ≤ i + f ∧ Srt key p (kev (kl key) (kas_asc p f i)) ∧ (kev (kl key) (kas_asc p f i) < i + f → ka key p (kev (kl key) (kas_asc p f i)) < ka key p (kev (kl key) (kas_asc p f i) - 1))
  | 0, i, h1, hs => by
    rw [kas_asc]
    exact ⟨Nat.le_refl _, Nat.le_refl _, hs, fun z => absurd z (by rw [kev_ret]; omega)⟩
  | f + 1, i, h1, hs => by
    rw [kas_asc, kev_ask]
    by_cases c : key (p.getD i 0) < key (p.getD (i - 1) 0)
    · rw [kl_t key c, if_pos rfl, kev_ret]
      exact ⟨Nat.le_refl _, by omega, hs, fun _ => c⟩
    · rw [kl_f key c, if_neg (by decide)]
      have hs' : Srt key p (i + 1) := fun t ht => by
        rcases Nat.lt_or_ge (t + 1) i with d | d
        · exact hs t d
        · have : t + 1 = i := by omega
          have e : t = i - 1 := by omega
          subst e
          show key (p.getD (i - 1) 0) ≤ key (p.getD (i - 1 + 1) 0)
          rw [show i - 1 + 1 = i from by omega]; omega
      obtain ⟨a, b, c', d⟩ := asc_spec p f (i + 1) (by omega) hs'
      exact ⟨by omega, by omega, c', fun z => d (by omega)⟩
theorem rev_get {p : Array Nat} {i j : Nat} (hj : j ≤ p.size) (t : Nat) : ka key (kas_rev p i j) t = if i ≤ t ∧ t < j then ka key p (i + j - 1 - t) else ka key p t := by
  have := getElem?_mirror_all (xs := p) (i := i) hj t
  by_cases c : i ≤ t ∧ t < j
  · rw [if_pos c]
    rw [if_pos c] at this
    exact ka_get key this
  · rw [if_neg c]
    rw [if_neg c] at this
    exact ka_get key this
theorem rev_size (p : Array Nat) (i j : Nat) : (kas_rev p i j).size = p.size := mirror_size p i j _
theorem rev_perm (p : Array Nat) (i j : Nat) : (kas_rev p i j).Perm p := mirror_perm p i j _
/-- the keys stay where a block of like keys is turned round -/
theorem rev_like {p : Array Nat} {i j : Nat} (hj : j ≤ p.size) (h : ∀ t, i ≤ t → t < j → ka key p t = ka key p i) (t : Nat) : ka key (kas_rev p i j) t = ka key p t := by
  rw [rev_get key hj]
  split
  · next c => rw [h t c.1 c.2, h (i + j - 1 - t) (by omega) (by omega)]
  · rfl
theorem desc_spec : ∀ (f : Nat) (p : Array Nat) (i k : Nat), 1 ≤ i → i + f ≤ p.size → k + 1 ≤ i → Dsc key p i → (∀ t, i - (k + 1) ≤ t → t < i → ka key p t = ka key p (i - 1)) →
    ∃ q m k', kev (kl key) (kas_desc f p i k) = (q, m, k') ∧ q.Perm p ∧ q.size = p.size ∧ i ≤ m ∧ m ≤ i + f ∧ Dsc key q m ∧ k' + 1 ≤ m ∧ (∀ t, m - (k' + 1) ≤ t → t < m → ka key q t = ka key q (m - 1))
  | 0, p, i, k, h1, hsz, hk, hd, he => by
    rw [kas_desc]
    exact ⟨p, i, k, rfl, Array.Perm.refl _, rfl, Nat.le_refl _, by omega, hd, hk, he⟩
  | f + 1, p, i, k, h1, hsz, hk, hd, he => by
    rw [kas_desc, kev_ask]
    by_cases c : key (p.getD i 0) < key (p.getD (i - 1) 0)
    · rw [kl_t key c, if_pos rfl]
      have step : ∀ p' : Array Nat, p'.size = p.size → (∀ t, ka key p' t = ka key p t) → Dsc key p' (i + 1) := fun p' _ hp' t ht => by
        rw [hp', hp']
        rcases Nat.lt_or_ge (t + 1) i with d | d
        · exact hd t d
        · have e : t = i - 1 := by omega
          subst e
          rw [show i - 1 + 1 = i from by omega]
          exact Nat.le_of_lt c
      by_cases k0 : k > 0
      · rw [if_pos k0]
        have hl : ∀ t, ka key (kas_rev p (i - (k + 1)) i) t = ka key p t := rev_like key (by omega) fun t t1 t2 => by rw [he t t1 t2, he (i - (k + 1)) (Nat.le_refl _) (by omega)]
        obtain ⟨q, m, k', e, pq, sq, a, b, d, g, h⟩ := desc_spec f (kas_rev p (i - (k + 1)) i) (i + 1) 0 (by omega) (by rw [rev_size]; omega) (by omega) (step _ (rev_size _ _ _) hl) (fun t t1 t2 => by
          have : t = i := by omega
          subst this; rfl)
        exact ⟨q, m, k', e, pq.trans (rev_perm _ _ _), by rw [sq, rev_size], by omega, by omega, d, g, h⟩
      · rw [if_neg k0]
        obtain ⟨q, m, k', e, pq, sq, a, b, d, g, h⟩ := desc_spec f p (i + 1) 0 (by omega) (by omega) (by omega) (step p rfl fun _ => rfl) (fun t t1 t2 => by
          have : t = i := by omega
          subst this; rfl)
        exact ⟨q, m, k', e, pq, sq, by omega, by omega, d, g, h⟩
    · rw [kl_f key c, if_neg (by decide), kev_ask]
      by_cases c2 : key (p.getD (i - 1) 0) < key (p.getD i 0)
      · rw [kl_t key c2, if_pos rfl, kev_ret]
        exact ⟨p, i, k, rfl, Array.Perm.refl _, rfl, Nat.le_refl _, by omega, hd, hk, he⟩
      · rw [kl_f key c2, if_neg (by decide)]
        have eq : ka key p i = ka key p (i - 1) := by show key (p.getD i 0) = key (p.getD (i - 1) 0); omega
        obtain ⟨q, m, k', e, pq, sq, a, b, d, g, h⟩ := desc_spec f p (i + 1) (k + 1) (by omega) (by omega) (by omega) (fun t ht => by
          rcases Nat.lt_or_ge (t + 1) i with d | d
          · exact hd t d
          · have e : t = i - 1 := by omega
            subst e
            rw [show i - 1 + 1 = i from by omega]
            exact Nat.le_of_eq eq) (fun t t1 t2 => by
          show ka key p t = ka key p i
          rcases Nat.lt_or_ge t i with d | d
          · rw [eq]; exact he t (by omega) d
          · have : t = i := by omega
            subst this; rfl)
        exact ⟨q, m, k', e, pq, sq, by omega, by omega, d, g, h⟩
theorem tail_spec {m nrem : Nat} {p : Array Nat} (h1 : 1 ≤ m) (hm : m ≤ nrem) (hn : nrem = p.size) (hd : Dsc key p m) :
    ∃ m' q, kev (kl key) (kas_tail3 m nrem p) = (m', q) ∧ q.Perm p ∧ q.size = p.size ∧ 1 ≤ m' ∧ m' ≤ nrem ∧ Srt key q m' := by
  unfold kas_tail3
  rw [kev_bind, kev_ret]
  have hs : Srt key (kas_rev p 0 m) m := fun t ht => by
    rw [rev_get key (by omega), rev_get key (by omega), if_pos (by omega), if_pos (by omega)]
    exact Dsc.le key hd (by omega) (by omega)
  obtain ⟨a, b, c, _⟩ := asc_spec key (kas_rev p 0 m) (nrem - m) m h1 hs
  exact ⟨_, _, rfl, rev_perm _ _ _, rev_size _ _ _, by omega, by omega, c⟩
theorem descPart_spec {n nrem : Nat} {p : Array Nat} (h1 : 1 ≤ n) (hn : n < nrem) (hz : nrem = p.size) (hd : Dsc key p (n + 1)) :
    ∃ m' q, kev (kl key) (kas_descPart n nrem p) = (m', q) ∧ q.Perm p ∧ q.size = p.size ∧ 1 ≤ m' ∧ m' ≤ nrem ∧ Srt key q m' := by
  unfold kas_descPart
  rw [kev_bind]
  obtain ⟨q, m, k', e, pq, sq, a, b, d, g, h⟩ := desc_spec key (nrem - (n + 1)) p (n + 1) 0 (by omega) (by omega) (by omega) hd (fun t t1 t2 => by
    have : t = n := by omega
    subst this; rfl)
  rw [e]
  show ∃ m' q', kev (kl key) (if k' > 0 then kas_tail3 m nrem (kas_rev q (m - (k' + 1)) m) else kas_tail3 m nrem q) = (m', q') ∧ _
  by_cases k0 : k' > 0
  · rw [if_pos k0]
    have hl : ∀ t, ka key (kas_rev q (m - (k' + 1)) m) t = ka key q t := rev_like key (by omega) fun t t1 t2 => by rw [h t t1 t2, h (m - (k' + 1)) (Nat.le_refl _) (by omega)]
    obtain ⟨m', q', e', p', s', a', b', c'⟩ := tail_spec key (m := m) (nrem := nrem) (p := kas_rev q (m - (k' + 1)) m) (by omega) (by omega) (by rw [rev_size]; omega) (fun t ht => by rw [hl, hl]; exact d t ht)
    exact ⟨m', q', e', p'.trans ((rev_perm _ _ _).trans pq), by rw [s', rev_size, sq], a', b', c'⟩
  · rw [if_neg k0]
    obtain ⟨m', q', e', p', s', a', b', c'⟩ := tail_spec key (m := m) (nrem := nrem) (p := q) (by omega) (by omega) (by omega) d
    exact ⟨m', q', e', p'.trans pq, by rw [s', sq], a', b', c'⟩
theorem count_spec {n : Nat} {p : Array Nat} (h1 : 1 ≤ n) (hz : n = p.size) :
    ∃ m q, kev (kl key) (kas_count n p) = (m, q) ∧ q.Perm p ∧ q.size = p.size ∧ 1 ≤ m ∧ m ≤ n ∧ Srt key q m := by
  unfold kas_count
  rw [kev_bind]
  obtain ⟨a, b, c, d⟩ := asc_spec key p (n - 1) 1 (Nat.le_refl _) (fun t ht => absurd ht (by omega))
  generalize kev (kl key) (kas_asc p (n - 1) 1) = m at a b c d
  show ∃ m' q, kev (kl key) (if (m == n) = true then KasT.ret (m, p) else if m > 1 then KasT.ask (p.getD 0 0) (p.getD (m - 1) 0) fun c => if c = true then KasT.ret (m, p) else kas_descPart m n (kas_rev p 0 m) else kas_descPart m n p) = (m', q) ∧ _
  by_cases e : m = n
  · rw [if_pos (by simpa using e), kev_ret]
    exact ⟨m, p, rfl, Array.Perm.refl _, rfl, by omega, by omega, c⟩
  · rw [if_neg (by simpa using e)]
    have dd := d (by omega)
    by_cases m1 : m > 1
    · rw [if_pos m1, kev_ask]
      by_cases q : key (p.getD 0 0) < key (p.getD (m - 1) 0)
      · rw [kl_t key q, if_pos rfl, kev_ret]
        exact ⟨m, p, rfl, Array.Perm.refl _, rfl, by omega, by omega, c⟩
      · rw [kl_f key q, if_neg (by decide)]
        have eq : ∀ t, t < m → ka key p t = ka key p 0 := fun t ht => by
          have h2 := Srt.le key c (Nat.zero_le t) ht
          have h3 := Srt.le key c (show t ≤ m - 1 by omega) (by omega)
          have h4 : ¬ ka key p 0 < ka key p (m - 1) := q
          omega
        have hl : ∀ t, ka key (kas_rev p 0 m) t = ka key p t := rev_like key (by omega) fun t _ t2 => eq t t2
        obtain ⟨m', q', e', p', s', a', b', c'⟩ := descPart_spec key (n := m) (nrem := n) (p := kas_rev p 0 m) (by omega) (by omega) (by rw [rev_size]; omega) (fun t ht => by
          rw [hl, hl]
          rcases Nat.lt_or_ge (t + 1) m with z | z
          · rw [eq t (by omega), eq (t + 1) z]; exact Nat.le_refl _
          · have e5 : t = m - 1 := by omega
            subst e5
            rw [show m - 1 + 1 = m from by omega]; exact Nat.le_of_lt dd)
        exact ⟨m', q', e', p'.trans (rev_perm _ _ _), by rw [s', rev_size], a', b', c'⟩
    · rw [if_neg m1]
      have em : m = 1 := by omega
      subst em
      exact descPart_spec key (n := 1) (nrem := n) (p := p) (by omega) (by omega) hz (fun t ht => by
        have : t = 0 := by omega
        subst this
        exact Nat.le_of_lt dd)
/-- where the next one belongs -/
theorem place_spec (p : Array Nat) (k : Nat) (hs : Srt key p k) : ∀ (f l r : Nat), r - l ≤ f → l ≤ r → r ≤ k → (∀ t, t < l → ka key p t ≤ ka key p k) → (∀ t, r ≤ t → t < k → ka key p k ≤ ka key p t) →
    kev (kl key) (kas_place p k f l r) ≤ k ∧ (∀ t, t < kev (kl key) (kas_place p k f l r) → ka key p t ≤ ka key p k) ∧ ∀ t, kev (kl key) (kas_place p k f l r) ≤ t → t < k → ka key p k ≤ ka key p t
  | 0, l, r, hf, hlr, hr, h1, h2 => by
    have : l = r := by omega
    subst this
    rw [kas_place]
    exact ⟨hr, h1, h2⟩
  | f + 1, l, r, hf, hlr, hr, h1, h2 => by
    rw [kas_place]
    by_cases c : l ≥ r
    · have : l = r := by omega
      subst this
      rw [if_pos c]
      exact ⟨hr, h1, h2⟩
    · rw [if_neg c, kev_ask]
      by_cases q : key (p.getD k 0) < key (p.getD ((l + r) / 2) 0)
      · rw [kl_t key q, if_pos rfl]
        exact place_spec p k hs f l ((l + r) / 2) (by omega) (by omega) (by omega) h1 fun t t1 t2 => Nat.le_trans (Nat.le_of_lt q) (Srt.le key hs t1 t2)
      · rw [kl_f key q, if_neg (by decide)]
        exact place_spec p k hs f ((l + r) / 2 + 1) r (by omega) (by omega) hr (fun t ht => Nat.le_trans (Srt.le key hs (show t ≤ (l + r) / 2 by omega) (by omega)) (Nat.le_of_not_lt q)) h2
theorem bubble_get {p : Array Nat} {k l : Nat} (hk : k < p.size) (hl : l ≤ k) (t : Nat) : ka key (bubble p k (k - l)) t = if t = l then ka key p k else if l < t ∧ t ≤ k then ka key p (t - 1) else ka key p t := by
  have := getElem?_bubble (xs := p) hk (k - l) (by omega) t
  rw [show k - (k - l) = l from by omega] at this
  by_cases c : t = l
  · rw [if_pos c] at this ⊢; exact ka_get key this
  · rw [if_neg c] at this ⊢
    by_cases d : l < t ∧ t ≤ k
    · rw [if_pos d] at this ⊢; exact ka_get key this
    · rw [if_neg d] at this ⊢; exact ka_get key this
theorem bin_spec : ∀ (f : Nat) (p : Array Nat) (i : Nat), i + f = p.size → Srt key p i →
    (kev (kl key) (kas_bin f p i)).Perm p ∧ Srt key (kev (kl key) (kas_bin f p i)) p.size
  | 0, p, i, hz, hs => by
    rw [kas_bin]
    have : i = p.size := by omega
    subst this
    exact ⟨Array.Perm.refl _, hs⟩
  | f + 1, p, i, hz, hs => by
    rw [kas_bin, kev_bind]
    obtain ⟨a, b, c⟩ := place_spec key p i hs i 0 i (by omega) (by omega) (Nat.le_refl _) (fun t ht => absurd ht (by omega)) (fun t t1 t2 => absurd t2 (by omega))
    generalize kev (kl key) (kas_place p i i 0 i) = l at a b c
    have hs' : Srt key (bubble p i (i - l)) (i + 1) := fun t ht => by
      rw [bubble_get key (by omega) a, bubble_get key (by omega) a]
      by_cases e1 : t = l
      · rw [if_pos e1, if_neg (by omega), if_pos (by omega)]
        have := c t (by omega) (by omega)
        simpa using this
      · rw [if_neg e1]
        by_cases e2 : l < t ∧ t ≤ i
        · rw [if_pos e2, if_neg (by omega), if_pos (by omega)]
          have := hs (t - 1) (by omega)
          rw [show t - 1 + 1 = t from by omega] at this
          simpa using this
        · rw [if_neg e2]
          by_cases e3 : t + 1 = l
          · rw [if_pos e3]; exact b t (by omega)
          · rw [if_neg e3, if_neg (by omega)]; exact hs t (by omega)
    obtain ⟨x, y⟩ := bin_spec f (bubble p i (i - l)) (i + 1) (by rw [bubble_size]; omega) hs'
    rw [bubble_size] at y
    exact ⟨x.trans (bubble_perm _ _ _), y⟩
/-- the sort answers with the places in the order of the keys -/
theorem sort_spec {n : Nat} (h1 : 1 ≤ n) : (kev (kl key) (kas_sort n)).toList.Perm (List.range n) ∧ (kev (kl key) (kas_sort n)).toList.Pairwise (fun i j => key i ≤ key j) := by
  have hz : n = (List.range n).toArray.size := by simp
  obtain ⟨m, q, e, pq, sq, a, b, c⟩ := count_spec key h1 hz
  have key' : ∀ q' : Array Nat, q'.Perm (List.range n).toArray → Srt key q' n → q'.toList.Perm (List.range n) ∧ q'.toList.Pairwise (fun i j => key i ≤ key j) := fun q' pq' sq' => by
    have pl : q'.toList.Perm (List.range n) := by simpa using pq'.toList
    refine ⟨pl, List.pairwise_iff_getElem.mpr fun i j hi hj hij => ?_⟩
    have hl : q'.toList.length = n := by rw [pl.length_eq, List.length_range]
    have := Srt.le key sq' (Nat.le_of_lt hij) (by omega)
    unfold ka at this
    rw [Array.getD_eq_getD_getElem?, Array.getD_eq_getD_getElem?] at this
    have g : ∀ t (ht : t < q'.toList.length), q'[t]?.getD 0 = q'.toList[t] := fun t ht => by
      have ht' : t < q'.size := by simpa using ht
      rw [Array.getElem?_eq_getElem ht']; simp
    rw [g i hi, g j hj] at this
    exact this
  unfold kas_sort
  rw [kev_bind, e]
  show (kev (kl key) (if m < n then kas_bin (n - max m 1) q (max m 1) else KasT.ret q)).toList.Perm _ ∧ _
  by_cases hm : m < n
  · rw [if_pos hm]
    have em : max m 1 = m := by omega
    rw [em]
    obtain ⟨x, y⟩ := bin_spec key (n - m) q m (by omega) c
    rw [show q.size = n from by omega] at y
    exact key' _ (x.trans pq) y
  · rw [if_neg hm]
    have em : m = n := by omega
    subst em
    exact key' _ pq c
end L2
namespace L2
open PySem PySem.Spec PyProof.Rows PySem.W
/-- what is asked on the way are places -/
def Pth {α : Type} (lt : Nat → Nat → Bool) (n : Nat) : KasT α → Prop
  | .ret _ => True
  | .ask i j k => i < n ∧ j < n ∧ Pth lt n (k (lt i j))
theorem pth_bind {α β : Type} {lt : Nat → Nat → Bool} {n : Nat} : ∀ (t : KasT α) (f : α → KasT β), Pth lt n t → Pth lt n (f (kev lt t)) → Pth lt n (t.bind f)
  | .ret a, f, _, h => by rw [KasT.bind]; exact h
  | .ask i j k, f, h1, h => by
    rw [KasT.bind]
    exact ⟨h1.1, h1.2.1, pth_bind (k (lt i j)) f h1.2.2 h⟩
def AllLt (n : Nat) (p : Array Nat) : Prop := ∀ i, p.getD i 0 < n
theorem AllLt.perm {n : Nat} {p q : Array Nat} (h : AllLt n p) (pq : q.Perm p) : AllLt n q := fun i => by
  have h0 : 0 < n := Nat.lt_of_le_of_lt (Nat.zero_le _) (h 0)
  by_cases hi : i < q.size
  · have hm : q[i] ∈ p := pq.mem_iff.mp (Array.getElem_mem hi)
    obtain ⟨j, hj, e⟩ := Array.mem_iff_getElem.mp hm
    have := h j
    rw [Array.getD_eq_getD_getElem?, Array.getElem?_eq_getElem hj] at this
    rw [Array.getD_eq_getD_getElem?, Array.getElem?_eq_getElem hi, ← e]
    exact this
  · rw [Array.getD_eq_getD_getElem?, Array.getElem?_eq_none (by omega)]; exact h0
variable {lt : Nat → Nat → Bool} {n : Nat}
theorem pth_asc {p : Array Nat} (h : AllLt n p) : ∀ (f i : Nat), Pth lt n (kas_asc p f i)
  | 0, i => by rw [kas_asc]; trivial
  | f + 1, i => by
    rw [kas_asc]
    refine ⟨h _, h _, ?_⟩
    dsimp only
    split
    · trivial
    · exact pth_asc h f (i + 1)
theorem pth_place {p : Array Nat} (h : AllLt n p) : ∀ (f k l r : Nat), Pth lt n (kas_place p k f l r)
  | 0, k, l, r => by rw [kas_place]; trivial
  | f + 1, k, l, r => by
    rw [kas_place]
    split
    · trivial
    · refine ⟨h _, h _, ?_⟩
      dsimp only
      split
      · exact pth_place h f k l _
      · exact pth_place h f k _ r
theorem pth_bin : ∀ (f : Nat) (p : Array Nat) (i : Nat), AllLt n p → Pth lt n (kas_bin f p i)
  | 0, p, i, _ => by rw [kas_bin]; trivial
  | f + 1, p, i, h => by
    rw [kas_bin]
    exact pth_bind _ _ (pth_place h _ _ _ _) (pth_bin f _ _ (h.perm (bubble_perm _ _ _)))
theorem pth_desc : ∀ (f : Nat) (p : Array Nat) (i k : Nat), AllLt n p → Pth lt n (kas_desc f p i k) ∧ AllLt n (kev lt (kas_desc f p i k)).1
  | 0, p, i, k, h => by rw [kas_desc]; exact ⟨trivial, h⟩
  | f + 1, p, i, k, h => by
    have key : Pth lt n (if lt (p.getD i 0) (p.getD (i - 1) 0) = true then if k > 0 then kas_desc f (kas_rev p (i - (k + 1)) i) (i + 1) 0 else kas_desc f p (i + 1) 0 else KasT.ask (p.getD (i - 1) 0) (p.getD i 0) fun d => if d = true then KasT.ret (p, i, k) else kas_desc f p (i + 1) (k + 1)) ∧
        AllLt n (kev lt (if lt (p.getD i 0) (p.getD (i - 1) 0) = true then if k > 0 then kas_desc f (kas_rev p (i - (k + 1)) i) (i + 1) 0 else kas_desc f p (i + 1) 0 else KasT.ask (p.getD (i - 1) 0) (p.getD i 0) fun d => if d = true then KasT.ret (p, i, k) else kas_desc f p (i + 1) (k + 1))).1 := by
      by_cases c : lt (p.getD i 0) (p.getD (i - 1) 0) = true
      · rw [if_pos c]
        by_cases d : k > 0
        · rw [if_pos d]; exact pth_desc f (kas_rev p (i - (k + 1)) i) (i + 1) 0 (h.perm (rev_perm _ _ _))
        · rw [if_neg d]; exact pth_desc f p (i + 1) 0 h
      · rw [if_neg c, kev_ask]
        have key2 : Pth lt n (if lt (p.getD (i - 1) 0) (p.getD i 0) = true then KasT.ret (p, i, k) else kas_desc f p (i + 1) (k + 1)) ∧ AllLt n (kev lt (if lt (p.getD (i - 1) 0) (p.getD i 0) = true then KasT.ret (p, i, k) else kas_desc f p (i + 1) (k + 1))).1 := by
          by_cases d : lt (p.getD (i - 1) 0) (p.getD i 0) = true
          · rw [if_pos d]; exact ⟨trivial, h⟩
          · rw [if_neg d]; exact pth_desc f p (i + 1) (k + 1) h
        exact ⟨⟨h _, h _, key2.1⟩, key2.2⟩
    rw [kas_desc]
    exact ⟨⟨h _, h _, key.1⟩, key.2⟩
theorem pth_tail {p : Array Nat} (h : AllLt n p) (m k : Nat) : Pth lt n (kas_tail3 m k p) ∧ AllLt n (kev lt (kas_tail3 m k p)).2 := by
  unfold kas_tail3
  rw [kev_bind]
  have h' := h.perm (rev_perm p 0 m)
  exact ⟨pth_bind _ _ (pth_asc h' _ _) trivial, h'⟩
theorem pth_descPart {p : Array Nat} (h : AllLt n p) (m k : Nat) : Pth lt n (kas_descPart m k p) ∧ AllLt n (kev lt (kas_descPart m k p)).2 := by
  unfold kas_descPart
  rw [kev_bind]
  obtain ⟨a, b⟩ := pth_desc (lt := lt) (k - (m + 1)) p (m + 1) 0 h
  generalize he : kev lt (kas_desc (k - (m + 1)) p (m + 1) 0) = r at b
  have key : Pth lt n (if r.2.2 > 0 then kas_tail3 r.2.1 k (kas_rev r.1 (r.2.1 - (r.2.2 + 1)) r.2.1) else kas_tail3 r.2.1 k r.1) ∧ AllLt n (kev lt (if r.2.2 > 0 then kas_tail3 r.2.1 k (kas_rev r.1 (r.2.1 - (r.2.2 + 1)) r.2.1) else kas_tail3 r.2.1 k r.1)).2 := by
    by_cases c : r.2.2 > 0
    · rw [if_pos c]; exact pth_tail (b.perm (rev_perm _ _ _)) _ _
    · rw [if_neg c]; exact pth_tail b _ _
  exact ⟨pth_bind _ _ a (by rw [he]; exact key.1), key.2⟩
theorem pth_count {p : Array Nat} (h : AllLt n p) (m : Nat) : Pth lt n (kas_count m p) ∧ AllLt n (kev lt (kas_count m p)).2 := by
  unfold kas_count
  rw [kev_bind]
  have key : ∀ q : Nat, Pth lt n (if (q == m) = true then KasT.ret (q, p) else if q > 1 then KasT.ask (p.getD 0 0) (p.getD (q - 1) 0) fun c => if c = true then KasT.ret (q, p) else kas_descPart q m (kas_rev p 0 q) else kas_descPart q m p) ∧
      AllLt n (kev lt (if (q == m) = true then KasT.ret (q, p) else if q > 1 then KasT.ask (p.getD 0 0) (p.getD (q - 1) 0) fun c => if c = true then KasT.ret (q, p) else kas_descPart q m (kas_rev p 0 q) else kas_descPart q m p)).2 := by
    intro q
    by_cases c1 : (q == m) = true
    · rw [if_pos c1]; exact ⟨trivial, h⟩
    · rw [if_neg c1]
      by_cases c2 : q > 1
      · rw [if_pos c2, kev_ask]
        show (_ ∧ _ ∧ Pth lt n (if lt (p.getD 0 0) (p.getD (q - 1) 0) = true then _ else _)) ∧ _
        by_cases c3 : lt (p.getD 0 0) (p.getD (q - 1) 0) = true
        · rw [if_pos c3]; exact ⟨⟨h _, h _, trivial⟩, h⟩
        · rw [if_neg c3]
          obtain ⟨a, b⟩ := pth_descPart (lt := lt) (h.perm (rev_perm p 0 q)) q m
          exact ⟨⟨h _, h _, a⟩, b⟩
      · rw [if_neg c2]; exact pth_descPart h q m
  exact ⟨pth_bind _ _ (pth_asc h _ _) (key _).1, (key _).2⟩
theorem pth_sort {n : Nat} (h0 : 0 < n) : Pth lt n (kas_sort n) := by
  have h : AllLt n (List.range n).toArray := fun i => by
    rw [Array.getD_eq_getD_getElem?]
    by_cases hi : i < n
    · simp [hi]
    · simp [hi]; omega
  obtain ⟨a, b⟩ := pth_count (lt := lt) h n
  unfold kas_sort
  refine pth_bind _ _ a ?_
  split
  · exact pth_bin _ _ _ b
  · trivial
/-- a walk of the tree with answers known; asking keeps I -/
theorem kas_walk {α : Type} {cmp : Nat → Nat → (Bool → Shared → Prop) → Shared → Prop} {I : Shared → Prop} (hc : ∀ i j (C : Bool → Shared → Prop) s, i < n → j < n → I s → (∀ s', I s' → C (lt i j) s') → cmp i j C s) :
    ∀ (t : KasT α) (G : α → Shared → Prop) (s : Shared), Pth lt n t → I s → (∀ s', I s' → G (kev lt t) s') → KasT.kasWp cmp t G s
  | .ret a, G, s, _, hi, hG => by rw [KasT.kasWp]; exact hG s hi
  | .ask i j k, G, s, hp, hi, hG => by
    rw [KasT.kasWp]
    exact hc i j _ s hp.1 hp.2.1 hi fun s' hi' => kas_walk hc (k (lt i j)) G s' hp.2.2 hi' hG
/-- the heap in which the items are compared -/
def sortHeap (h : Heap) (a : Addr) (vs : List Value) : Heap := ((h.update a (Obj.mapSeq fun x => #[])).push (seqObj "tuple" vs.toArray 0)).push (seqObj "list" #[] 0)
theorem list_sort_by {prog : Program} {w : World} {A : Around} {E : Value → Shared → Prop} {s : Shared} {a : Addr} {vs : List Value} {n : Nat} {P : PySem.Fin → Shared → Prop} (key : Nat → Nat) (κ : SortKind)
    (hs : s.heap.get? a = some (seqObj "list" vs.toArray n)) (h2 : 2 ≤ vs.length) (h64 : vs.length < 64)
    (hk : ∀ (E' : Value → Shared → Prop) (Q : SortKind → Shared → Prop) (tk : Nat), (∀ tk', Q κ { s with heap := sortHeap s.heap a vs, toks := tk' }) → wpAny (model prog w) A (keyKind' vs.toArray) Q E' { s with heap := sortHeap s.heap a vs, toks := tk })
    (hc : ∀ i j (C : Bool → Shared → Prop) (tk : Nat), i < vs.length → j < vs.length → (∀ tk', C (kl key i j) { s with heap := sortHeap s.heap a vs, toks := tk' }) → kas_ask prog w A κ vs i j C { s with heap := sortHeap s.heap a vs, toks := tk })
    (h : ∀ (p : List Nat) (tk : Nat), p.Perm (List.range vs.length) → p.Pairwise (fun i j => key i ≤ key j) → P (Fin.done (Flow.ret Value.none)) { s with heap := sortedHeap s.heap a vs (p.map fun i => vs.getD i Value.none).toArray, toks := tk }) :
    wpAny (model prog w) A (Builtin.«list.sort» { pos := [Value.ref a] }) P E s := by
  rw [list_sort_plain]
  refine wpAny_bind (listItems_at hs rfl ?_)
  refine wpAny_bind (listUpdate_at hs rfl ?_ (by rw [List.size_toArray]; exact Nat.le_of_lt (small1000 (by omega))) (by simp))
  have e1 : ∃ e, (s.heap.update a (Obj.mapSeq fun x => #[])).get? a = some (seqObj "list" #[] e) := by
    have := get?_update_seq hs (fun _ => #[])
    exact ⟨_, this⟩
  obtain ⟨e1, he1⟩ := e1
  refine wpAny_bind (seqEpoch_at he1 rfl ?_)
  refine wpAny_bind (wpAny_newTuple ?_ (by show vs.toArray.toList.length ≤ sizeLine; rw [List.toList_toArray]; exact Nat.le_of_lt (small1000 (by omega))))
  refine wpAny_bind (wpAny_newList ?_ (by simp))
  refine wpAny_holding ?_
  have hsz : ¬ vs.toArray.size < 2 := by rw [List.size_toArray]; omega
  dsimp only
  rw [if_neg hsz]
  refine wpAny_bind (hk E _ s.toks fun tk0 => ?_)
  rw [if_neg hsz]
  have h0 : 0 < vs.length := by omega
  have hw := kas_walk (lt := kl key) (n := vs.length) (cmp := kas_ask prog w A κ vs) (I := fun s' => ∃ tk, s' = { s with heap := sortHeap s.heap a vs, toks := tk }) (fun i j C s' hi hj ⟨tk, e⟩ hC => by
    subst e
    exact hc i j C tk hi hj fun tk' => hC _ ⟨tk', rfl⟩) (kas_sort vs.length) (fun p s' => p = kev (kl key) (kas_sort vs.length) ∧ ∃ tk, s' = { s with heap := sortHeap s.heap a vs, toks := tk }) { s with heap := sortHeap s.heap a vs, toks := tk0 } (pth_sort h0) ⟨tk0, rfl⟩ (fun s' h' => ⟨rfl, h'⟩)
  obtain ⟨sp1, sp2⟩ := sort_spec key (n := vs.length) (by omega)
  refine wpAny_bind (thn (kat_run (ks := vs) (vs := vs) rfl h2 h64 (Q := fun st s' => Array.map (fun x => x.snd) (arrOf st) = ((kev (kl key) (kas_sort vs.length)).toList.map fun i => vs.getD i Value.none).toArray ∧ failedOf st = none ∧ ∃ tk, s' = { s with heap := sortHeap s.heap a vs, toks := tk })
    (fun p st' s' hp harr hf ⟨ep, ht⟩ => ⟨by rw [kat_snds rfl harr, ep], hf, ht⟩) hw) fun r s' ⟨ha, hf, tk, es⟩ => ?_)
  subst es
  have hae : (sortHeap s.heap a vs).get? a = some (seqObj "list" #[] e1) := by
    unfold sortHeap
    exact Heap.get?_push_of_some _ (Heap.get?_push_of_some _ he1)
  refine wpAny_bind (seqEpoch_at hae rfl ?_)
  refine wpAny_bind (listUpdate_at hae rfl ?_ (by simp) (by
    rw [ha]
    simp only [List.size_toArray, List.length_map]
    rw [show (kev (kl key) (kas_sort vs.length)).toList.length = vs.length from by rw [sp1.length_eq, List.length_range]]
    have := small1000 (n := vs.length) (by omega)
    omega))
  rw [hf]
  dsimp only
  rw [if_neg (by simp)]
  rw [ha]
  exact wpAny_pure (h _ tk sp1 sp2)
end L2
namespace L2
open PySem PySem.Spec PyProof.Rows PySem.W
/-- none or one: nothing is asked -/
theorem list_sort_few {prog : Program} {w : World} {A : Around} {E : Value → Shared → Prop} {s : Shared} {a : Addr} {vs : List Value} {n : Nat} {P : PySem.Fin → Shared → Prop}
    (hs : s.heap.get? a = some (seqObj "list" vs.toArray n)) (h2 : vs.length < 2)
    (h : P (Fin.done (Flow.ret Value.none)) { s with heap := sortedHeap s.heap a vs vs.toArray }) :
    wpAny (model prog w) A (Builtin.«list.sort» { pos := [Value.ref a] }) P E s := by
  rw [list_sort_plain]
  refine wpAny_bind (listItems_at hs rfl ?_)
  refine wpAny_bind (listUpdate_at hs rfl ?_ (by rw [List.size_toArray]; exact Nat.le_of_lt (small1000 (by omega))) (by simp))
  have e1 : ∃ e, (s.heap.update a (Obj.mapSeq fun x => #[])).get? a = some (seqObj "list" #[] e) := ⟨_, get?_update_seq hs (fun _ => #[])⟩
  obtain ⟨e1, he1⟩ := e1
  refine wpAny_bind (seqEpoch_at he1 rfl ?_)
  refine wpAny_bind (wpAny_newTuple ?_ (by show vs.toArray.toList.length ≤ sizeLine; rw [List.toList_toArray]; exact Nat.le_of_lt (small1000 (by omega))))
  refine wpAny_bind (wpAny_newList ?_ (by simp))
  refine wpAny_holding ?_
  have hsz : vs.toArray.size < 2 := by rw [List.size_toArray]; omega
  dsimp only
  rw [if_pos hsz]
  refine wpAny_bind (wpAny_pure ?_)
  rw [if_pos hsz]
  refine wpAny_bind (wpAny_pure ?_)
  have hae : (sortHeap s.heap a vs).get? a = some (seqObj "list" #[] e1) := by
    unfold sortHeap
    exact Heap.get?_push_of_some _ (Heap.get?_push_of_some _ he1)
  refine wpAny_bind (seqEpoch_at hae rfl ?_)
  have ha : Array.map (fun x : Keyed => x.snd) (arrOf (SortSt.mk' general' (vs.toArray.zip vs.toArray) #[] 7 none)) = vs.toArray := by
    show Array.map (fun x : Keyed => x.snd) (vs.toArray.zip vs.toArray) = vs.toArray
    rw [List.zip_toArray, List.map_toArray]
    congr 1
    exact List.map_snd_zip (Nat.le_refl _)
  refine wpAny_bind (listUpdate_at hae rfl ?_ (by simp) (by
    show (Array.map (fun x : Keyed => x.snd) (arrOf (SortSt.mk' general' (vs.toArray.zip vs.toArray) #[] 7 none))).size ≤ sizeLine + 1
    rw [ha, List.size_toArray]
    have := small1000 (n := vs.length) (by omega)
    omega))
  have hf : failedOf (((), SortSt.mk' general' (vs.toArray.zip vs.toArray) #[] 7 none) : Unit × SortSt).snd = none := rfl
  rw [hf]
  dsimp only
  rw [if_neg (by simp)]
  refine wpAny_pure ?_
  rw [ha]
  exact h
def rank (lt : Nat → Nat → Bool) (n i : Nat) : Nat := ((List.range n).filter fun j => lt j i).length
theorem filter_sub {n : Nat} {p q : Nat → Bool} (h : ∀ j, j < n → p j = true → q j = true) : ((List.range n).filter p).length ≤ ((List.range n).filter q).length := by
  induction n with
  | zero => simp
  | succ n ih =>
    have h1 := ih fun j hj => h j (by omega)
    have h2 := h n (by omega)
    rw [List.range_succ, List.filter_append, List.filter_append, List.length_append, List.length_append]
    by_cases c : p n = true
    · rw [List.filter_cons_of_pos c, List.filter_cons_of_pos (h2 c)]; simp; exact h1
    · rw [List.filter_cons_of_neg c]
      simp
      omega
theorem filter_ssub {n i : Nat} {p q : Nat → Bool} (hi : i < n) (h : ∀ j, j < n → p j = true → q j = true) (hp : p i = false) (hq : q i = true) : ((List.range n).filter p).length < ((List.range n).filter q).length := by
  induction n with
  | zero => omega
  | succ n ih =>
    have h2 := h n (by omega)
    rw [List.range_succ, List.filter_append, List.filter_append, List.length_append, List.length_append]
    rcases Nat.lt_or_ge i n with c | c
    · have h1 := ih c fun j hj => h j (by omega)
      by_cases c : p n = true
      · rw [List.filter_cons_of_pos c, List.filter_cons_of_pos (h2 c)]; simp; exact h1
      · rw [List.filter_cons_of_neg c]; simp; omega
    · have : i = n := by omega
      subst this
      have h1 := filter_sub (n := i) (p := p) (q := q) fun j hj => h j (by omega)
      rw [List.filter_cons_of_neg (by rw [hp]; decide), List.filter_cons_of_pos hq]
      simp
      omega
theorem rank_kl {lt : Nat → Nat → Bool} {n : Nat} (ir : ∀ i, lt i i = false) (tr : ∀ i j k, lt i j = true → lt j k = true → lt i k = true) (nt : ∀ i j k, lt i k = true → lt i j = true ∨ lt j k = true) {i j : Nat} (hi : i < n) (hj : j < n) :
    kl (rank lt n) i j = lt i j := by
  cases h : lt i j with
  | true =>
    exact decide_eq_true (filter_ssub hi (fun k _ hk => tr k i j hk h) (ir i) h)
  | false =>
    refine decide_eq_false (Nat.not_lt.mpr (filter_sub fun k _ hk => ?_))
    rcases nt k i j hk with z | z
    · exact z
    · rw [h] at z; cases z
theorem lex_irr : ∀ a : List Int, HT.lexLt a a = false
  | [] => rfl
  | x :: a => by rw [HT.lexLt_cons, if_pos rfl]; exact lex_irr a
theorem lex_tr : ∀ {a b c : List Int}, HT.lexLt a b = true → HT.lexLt b c = true → HT.lexLt a c = true
  | [], _, [], _, h => by cases ‹List Int› <;> simp [HT.lexLt] at h
  | [], _, _ :: _, _, _ => rfl
  | _ :: _, [], _, h, _ => by simp [HT.lexLt] at h
  | x :: a, y :: b, [], _, h => by simp [HT.lexLt] at h
  | x :: a, y :: b, z :: c, h1, h2 => by
    rw [HT.lexLt_cons] at h1 h2 ⊢
    by_cases e1 : x = y
    · subst e1
      rw [if_pos rfl] at h1
      by_cases e2 : x = z
      · subst e2
        rw [if_pos rfl] at h2 ⊢
        exact lex_tr h1 h2
      · rw [if_neg e2] at h2 ⊢; exact h2
    · rw [if_neg e1] at h1
      have h1 := of_decide_eq_true h1
      by_cases e2 : y = z
      · subst e2
        rw [if_neg e1]; exact decide_eq_true h1
      · rw [if_neg e2] at h2
        have h2 := of_decide_eq_true h2
        rw [if_neg (by omega)]; exact decide_eq_true (by omega)
theorem lex_tot : ∀ {a b : List Int}, HT.lexLt a b = false → HT.lexLt b a = false → a = b
  | [], [], _, _ => rfl
  | [], _ :: _, h, _ => by simp [HT.lexLt] at h
  | _ :: _, [], _, h => by simp [HT.lexLt] at h
  | x :: a, y :: b, h1, h2 => by
    rw [HT.lexLt_cons] at h1 h2
    by_cases e : x = y
    · subst e
      rw [if_pos rfl] at h1 h2
      rw [lex_tot h1 h2]
    · rw [if_neg e] at h1
      rw [if_neg (fun z => e z.symm)] at h2
      have h1 := of_decide_eq_false h1
      have h2 := of_decide_eq_false h2
      omega
theorem lex_nt {a b c : List Int} (h : HT.lexLt a c = true) : HT.lexLt a b = true ∨ HT.lexLt b c = true := by
  cases h1 : HT.lexLt a b with
  | true => exact .inl rfl
  | false =>
    right
    cases h2 : HT.lexLt b a with
    | true => exact lex_tr h2 h
    | false => rw [← lex_tot h1 h2]; exact h
end L2
namespace L2
open PySem PySem.Spec PyProof.Rows PySem.W
theorem sortHeap_old {h : Heap} {a b : Addr} {vs : List Value} {o : Obj} (hb : b ≠ a) (e : h.get? b = some o) : (sortHeap h a vs).get? b = some o := by
  unfold sortHeap
  exact Heap.get?_push_of_some _ (Heap.get?_push_of_some _ ((Heap.get?_update_other _ _ hb.symm).trans e))
/-- sorted(l), by what is known of each question -/
theorem sorted_list_by {prog : Program} {w : World} {A : Around} {E : Value → Shared → Prop} {s : Shared} {p : Addr} {vs : List Value} {Q : Value → Shared → Prop} (key : Nat → Nat) (κ : SortKind) (hL : s.heap.IsList p vs.toArray) (h64 : vs.length < 64) (hh : A.handled = none) (hu : A.units + 10 < cLine)
    (hk : 2 ≤ vs.length → ∀ (A' : Around) (E' : Value → Shared → Prop) (R : SortKind → Shared → Prop) (s' : Shared), A'.units + 5 < cLine → (∀ b o, s.heap.get? b = some o → s'.heap.get? b = some o) → (∀ tk, R κ { s' with toks := tk }) → wpAny (model prog w) A' (keyKind' vs.toArray) R E' s')
    (hc : 2 ≤ vs.length → ∀ (A' : Around) i j (C : Bool → Shared → Prop) (s' : Shared), A'.units + 5 < cLine → (∀ b o, s.heap.get? b = some o → s'.heap.get? b = some o) → i < vs.length → j < vs.length → (∀ tk, C (kl key i j) { s' with toks := tk }) → kas_ask prog w A' κ vs i j C s')
    (h : ∀ (h1 h2 : Heap) (tk e : Nat) (π : List Nat), π.Perm (List.range vs.length) → π.Pairwise (fun i j => key i ≤ key j) → (∀ b o, s.heap.get? b = some o → h1.get? b = some o) → h2.get? h1.objs.size = some (seqObj "list" (π.map fun i => vs.getD i Value.none).toArray e) →
      (∀ b o, h1.get? b = some o → h2.get? b = some o) → Q (.ref h1.objs.size) { s with heap := h2, toks := tk }) :
    wpAny (model prog w) A (call (.builtin "sorted") [.ref p]) Q E s := by
  refine Calls.call_function_entry kind_sorted plain_sorted entry_sorted (args_sorted1 _) ?_
  unfold Builtin.«sorted»
  refine wpAny_bind (m := checkCount "sorted" 1 1 _) (wpAny_pure ?_)
  have hz : vs.length ≤ sizeLine := Nat.le_of_lt (small1000 (by omega))
  refine wpAny_bind (collect_list hL ?_ hz)
  generalize hh' : (Heap.update _ _ _) = h'
  have hk' : ∀ b o, s.heap.get? b = some o → h'.get? b = some o := fun b o e => by
    rw [← hh']
    exact (Heap.get?_update_other _ _ (Nat.ne_of_gt (Heap.lt_size e))).trans (Heap.get?_push_of_some _ e)
  refine wpAny_bind (wpAny_newList ?_ hz)
  have hD : (h'.push (seqObj "list" vs.toArray 0)).get? h'.objs.size = some (seqObj "list" vs.toArray 0) := Heap.get?_push_size _ rfl
  have old : ∀ out b o, h'.get? b = some o → (sortedHeap (h'.push (seqObj "list" vs.toArray 0)) h'.objs.size vs out).get? b = some o := fun out b o q1 => by
    have q2 := Heap.lt_size q1
    rw [sortedHeap_old (Nat.ne_of_lt q2) (by rw [Heap.size_push]; exact Nat.lt_succ_of_lt q2)]
    exact Heap.get?_push_of_some _ q1
  have mid : ∀ b o, s.heap.get? b = some o → (sortHeap (h'.push (seqObj "list" vs.toArray 0)) h'.objs.size vs).get? b = some o := fun b o q1 => by
    have q2 := hk' b o q1
    exact sortHeap_old (Nat.ne_of_lt (Heap.lt_size q2)) (Heap.get?_push_of_some _ q2)
  rcases Nat.lt_or_ge vs.length 2 with c | c
  · refine wpAny_bind (wpAny_holding (wpAny_call_entry slot_list_sort ⟨_, Heap.get?_push_size _ rfl, rfl⟩ entry_list_sort (list_sort_few hD c ⟨_, rfl, ?_⟩) (args_list_sort _)))
    obtain ⟨e, he⟩ := sortedHeap_at (out := vs.toArray) (n := 0) hD
    have eπ : ((List.range vs.length).map fun i => vs.getD i Value.none) = vs := by
      refine List.ext_getElem? fun i => ?_
      by_cases hi : i < vs.length
      · simp [hi, List.getD_eq_getElem?_getD]
      · simp [hi]
    refine wpAny_pure ⟨_, rfl, h h' _ s.toks e (List.range vs.length) (List.Perm.refl _) ?_ hk' (by rw [eπ]; exact he) (old _)⟩
    refine List.pairwise_iff_getElem.mpr fun i j hi hj hij => ?_
    rw [List.length_range] at hi hj
    omega
  · refine wpAny_bind (wpAny_holding (wpAny_call_entry slot_list_sort ⟨_, Heap.get?_push_size _ rfl, rfl⟩ entry_list_sort (list_sort_by key κ hD c h64 (fun E' R tk hR => hk c _ E' R _ ?_ mid hR) (fun i j C tk hi hj hC => hc c _ i j C _ ?_ mid hi hj hC) (fun π tk p1 p2 => ⟨_, rfl, ?_⟩)) (args_list_sort _)))
    · simp; omega
    · simp; omega
    · obtain ⟨e, he⟩ := sortedHeap_at (out := (π.map fun i => vs.getD i Value.none).toArray) (n := 0) hD
      exact wpAny_pure ⟨_, rfl, h h' _ tk e π p1 p2 hk' he (old _)⟩
end L2
namespace L2
open PySem PySem.Spec PyProof.Rows PySem.W
section
variable {X : Cx}
theorem vals_refs : ∀ {as : List Addr} {us : List Value}, Vals (as.map V.ref) us → us = as.map Value.ref
  | [], _, h => by cases h; rfl
  | a :: as, _, h => by
    cases h with
    | cons r t =>
      cases (show _ = Value.ref a from r)
      rw [vals_refs t]; rfl
theorem refs_vals (as : List Addr) : Vals (as.map V.ref) (as.map Value.ref) := by
  induction as with
  | nil => exact .nil
  | cons a as ih => exact .cons rfl ih
end
end L2
namespace L2
open PySem PySem.Spec PyProof.Rows PySem.W
def CmpAt (op : CmpOp) (A : Around) (s : Shared) (y x : Value) (b : Bool) : Prop :=
  ∀ (prog : Program) (w : World) (E : Value → Shared → Prop) (Q : Value → Shared → Prop), Q (.bool b) s → wpAny (model prog w) A (richCompare op y x) Q E s
theorem cmp_lt_int (A : Around) (s : Shared) (a b : Int) (t u : Tok) : CmpAt .Lt A s (.int a t) (.int b u) (decide (a < b)) := fun prog w E Q h =>
  richCompare_gives (op := .Lt) (typeIs_int s _ t) (typeIs_int s _ u) PySem.F.slot_int_lt PySem.F.entry_int_lt (PySem.F.args_int_lt_2 _ _) (gives_int_lt _ _ t u) (fun x => nomatch x) h
end L2
namespace L2
open PySem PySem.Spec PyProof.Rows PySem.W
theorem readsAll_len {h : Heap} : ∀ {vs : List Value} {xs : List PyData} {as : List Addr}, ReadsAll h vs xs as → vs.length = xs.length
  | _, _, _, .nil => rfl
  | _, _, _, .cons _ t => by rw [List.length_cons, List.length_cons, readsAll_len t]
theorem readsAll_nth {h : Heap} : ∀ {vs : List Value} {xs : List PyData} {as : List Addr}, ReadsAll h vs xs as → ∀ (j : Nat) (h1 : j < vs.length), ∃ x bs, xs[j]? = some x ∧ Reads h vs[j] x bs
  | _, _, _, .nil, j, h1 => absurd h1 (Nat.not_lt_zero _)
  | _, _, _, .cons r t, 0, h1 => ⟨_, _, rfl, r⟩
  | _, _, _, .cons r t, j + 1, h1 => by
    obtain ⟨x, bs, e, q⟩ := readsAll_nth t j (Nat.lt_of_succ_lt_succ h1)
    exact ⟨x, bs, by simpa using e, by simpa using q⟩
theorem nd_depth1 : ∀ r : List Nat, PyData.depthAll (nd r) ≤ 1
  | [] => Nat.zero_le _
  | a :: r => by
    show max (PyData.depth (.int _)) (PyData.depthAll (nd r)) ≤ 1
    exact Nat.max_le.mpr ⟨by simp [PyData.depth], nd_depth1 r⟩
theorem nd_deep (r : List Nat) : (PyData.tuple (nd r)).depth ≤ 10 := by
  show PyData.depthAll (nd r) + 1 ≤ 10
  have := nd_depth1 r
  omega

end L2
namespace L2
open PySem PySem.Spec PyProof.Rows PySem.W
section
variable {prog : Program} {w : World} {A : Around} {R : Result → Shared → Prop} {I : Addr} {fp wr : List Addr} {n : Nat} {P : Nat → Value → Prop} {St : Nat → Heap → Prop} {h0 : Heap}
end
section
variable {prog : Program} {w : World} {A : Around} {E : Value → Shared → Prop} {s : Shared}
end
end L2
namespace L2
open PySem PySem.Spec PyProof.Rows PySem.W
section
variable {X : Cx}
end
end L2
namespace L2
open PySem PySem.Spec PyProof.Rows PySem.W
theorem tuple_ltAtU (l b : Addr) (xs ys : Array Value) (n n2 : Nat) (dd dd2 : Option Addr) (sl sl2 : Array (Option Value)) (k : Nat) (c : Bool) :
    Meets (Builtin.«tuple.__lt__» ⟨[.ref l, .ref b], []⟩)
      (fun A R s => s.heap.get? l = some { cls := .type "tuple", dict := dd, data := .seq xs n, slots := sl } ∧ s.heap.get? b = some { cls := .type "tuple", dict := dd2, data := .seq ys n2, slots := sl2 } ∧
        k ≤ min xs.size ys.size ∧ (∀ j (h1 : j < xs.size) (h2 : j < ys.size), j < k → SeqAt.EqAt A.in1 s xs[j] ys[j] true) ∧
        (∀ (h1 : k < xs.size) (h2 : k < ys.size), SeqAt.EqAt A.in1 s xs[k] ys[k] false ∧ CmpAt .Lt A.in1 s xs[k] ys[k] c) ∧ (k = min xs.size ys.size → c = decide (xs.size < ys.size)) ∧
        R (.ok (.ret (.bool c))) s) :=
  .of_wp fun prog w A R s h => by
    obtain ⟨hp, g, d, tk, os⟩ := s; obtain ⟨hl, hb, hle, he, hk, hc, hR⟩ := h
    have f2 := AutoSeq1.sub_tuple_tuple
    have hZ : (xs.toList.zip ys.toList).length = min xs.size ys.size := by simp
    wp_walk using wpAny_loadPart' hl, wpAny_loadPart' hb, wpAny_forIn_list _ (fun rest b s' => b.1 = none ∧ s' = ⟨hp, g, d, tk, os⟩ ∧ ∃ i, i ≤ k ∧ rest = (xs.toList.zip ys.toList).drop i) _
    case turn =>
      rintro ⟨y, x⟩ rest b s' ⟨hb', rfl, i, hik, hz⟩
      have hlt : i < (xs.toList.zip ys.toList).length := by
        rcases Nat.lt_or_ge i (xs.toList.zip ys.toList).length with h' | h'
        · exact h'
        · rw [List.drop_of_length_le h'] at hz; cases hz
      have h1 : i < xs.size := by omega
      have h2 : i < ys.size := by omega
      rw [List.drop_eq_getElem_cons hlt] at hz
      injection hz with hyx hrest
      have hy : y = xs[i] := by have := congrArg Prod.fst hyx; simpa using this
      have hx : x = ys[i] := by have := congrArg Prod.snd hyx; simpa using this
      subst hy hx
      rcases Nat.lt_or_ge i k with hlk | hge
      · refine wpAny_bind (he i h1 h2 hlk prog w _ _ ?_)
        wp_walk
        exact ⟨rfl, rfl, i + 1, hlk, hrest⟩
      · have e : i = k := by omega
        subst e
        obtain ⟨q1, q2⟩ := hk h1 h2
        refine wpAny_bind (q1 prog w _ _ ?_)
        rw [if_pos (show (!false) = true from rfl)]
        dsimp only
        refine wpAny_bind (wpAny_rule ?_)
        refine wpAny_bind (q2 prog w _ _ ?_)
        refine wpAny_bind (wpAny_pure ?_)
        refine wpAny_pure ?_
        exact wpAny_pure ⟨_, rfl, hR⟩
    case fin =>
      rintro ⟨b1, b2⟩ s' ⟨hb', rfl, i, hik, hz⟩
      simp only at hb'
      subst hb'
      have hge : min xs.size ys.size ≤ i := by
        rcases Nat.lt_or_ge i (xs.toList.zip ys.toList).length with h' | h'
        · rw [List.drop_eq_getElem_cons h'] at hz; cases hz
        · exact hZ ▸ h'
      have ec := hc (by omega)
      subst ec
      wp_walk
      exact ⟨_, rfl, by simpa [Builtin.Tuple.tupleCompareSizes] using hR⟩
    case h =>
      exact ⟨rfl, rfl, 0, Nat.zero_le _, rfl⟩
theorem cmp_lt_tupU {A : Around} {s : Shared} {a b : Value} {xs ys : List PyData} {as bs : List Addr} (k : Nat) (c : Bool) (ra : Reads s.heap a (.tuple xs) as) (rb : Reads s.heap b (.tuple ys) bs) (hk : k ≤ min xs.length ys.length) (hu : A.units < cLine)
    (he : ∀ j x y v w as bs, j < k → xs[j]? = some x → ys[j]? = some y → Reads s.heap v x as → Reads s.heap w y bs → SeqAt.EqAt A.in1 s v w true)
    (hd : ∀ x y v w as bs, xs[k]? = some x → ys[k]? = some y → Reads s.heap v x as → Reads s.heap w y bs → SeqAt.EqAt A.in1 s v w false ∧ CmpAt .Lt A.in1 s v w c)
    (hc : k = min xs.length ys.length → c = decide (xs.length < ys.length)) : CmpAt .Lt A s a b c := by
  intro prog w E Q h
  cases ra with
  | tuple h1 h2 h3 h4 =>
    cases rb with
    | tuple k1 k2 k3 k4 =>
      rename_i l o vs n l' o' ws n'
      obtain ⟨cls, dd, data, sl⟩ := o
      obtain ⟨cls', dd', data', sl'⟩ := o'
      simp only at h2 h3 k2 k3
      subst h2 h3 k2 k3
      have e1 := readsAll_len h4
      have e2 := readsAll_len k4
      have e1' : vs.size = xs.length := by rw [← e1]; simp
      have e2' : ws.size = ys.length := by rw [← e2]; simp
      refine richCompare_meets_room (op := .Lt) ⟨_, h1, rfl⟩ ⟨_, k1, rfl⟩ PySem.F.slot_tuple_lt PySem.F.entry_tuple_lt (PySem.F.args_tuple_lt_2 _ _) (tuple_ltAtU l l' vs ws n n' dd dd' sl sl' k c) ⟨h1, k1, by omega, fun j j1 j2 hj => ?_, fun j1 j2 => ?_, fun e => by rw [hc (by omega), e1', e2'], show Value.bool c ≠ Value.notImplemented ∧ Q (.bool c) s from ⟨(fun x => nomatch x), h⟩⟩ hu
      · obtain ⟨x, xa, ex, rx⟩ := readsAll_nth h4 j (by simpa using j1)
        obtain ⟨y, ya, ey, ry⟩ := readsAll_nth k4 j (by simpa using j2)
        exact he j x y _ _ _ _ hj ex ey (by simpa using rx) (by simpa using ry)
      · obtain ⟨x, xa, ex, rx⟩ := readsAll_nth h4 k (by simpa using j1)
        obtain ⟨y, ya, ey, ry⟩ := readsAll_nth k4 k (by simpa using j2)
        exact hd x y _ _ _ _ ex ey (by simpa using rx) (by simpa using ry)

def intsN (r : List Nat) : List Int := r.map fun (x : Nat) => (x : Int)
theorem first_offU : ∀ r q : List Nat, ∃ k, k ≤ min r.length q.length ∧ (∀ j, j < k → r[j]? = q[j]?) ∧ (∀ a b, r[k]? = some a → q[k]? = some b → a ≠ b ∧ HT.lexLt (intsN r) (intsN q) = decide (a < b)) ∧ (k = min r.length q.length → HT.lexLt (intsN r) (intsN q) = decide (r.length < q.length))
  | [], q => ⟨0, Nat.zero_le _, fun j h => absurd h (Nat.not_lt_zero _), fun a b h => by simp at h, fun _ => by
      cases q with
      | nil => rfl
      | cons b q => show true = _; simp⟩
  | a :: r, [] => ⟨0, Nat.zero_le _, fun j h => absurd h (Nat.not_lt_zero _), fun a b _ h => by simp at h, fun _ => by show false = _; simp⟩
  | a :: r, b :: q => by
    have el : HT.lexLt (intsN (a :: r)) (intsN (b :: q)) = if (a : Int) = (b : Int) then HT.lexLt (intsN r) (intsN q) else decide ((a : Int) < (b : Int)) := HT.lexLt_cons ..
    by_cases c : a = b
    · obtain ⟨k, h1, h2, h3, h4⟩ := first_offU r q
      rw [if_pos (by omega)] at el
      refine ⟨k + 1, by simp only [List.length_cons]; omega, fun j hj => ?_, fun x y hx hy => ?_, fun hk => ?_⟩
      · cases j with
        | zero => simp [c]
        | succ j => simpa using h2 j (by omega)
      · rw [el]; exact h3 x y (by simpa using hx) (by simpa using hy)
      · rw [el, h4 (by simp only [List.length_cons] at hk; omega)]; exact decide_eq_decide.mpr ⟨fun h => by simp only [List.length_cons]; omega, fun h => by simp only [List.length_cons] at h; omega⟩
    · rw [if_neg (by omega)] at el
      refine ⟨0, Nat.zero_le _, fun j hj => absurd hj (Nat.not_lt_zero _), fun x y hx hy => ?_, fun hk => by simp only [List.length_cons] at hk; omega⟩
      cases hx; cases hy
      exact ⟨c, by rw [el]; exact decide_eq_decide.mpr ⟨fun h => by omega, fun h => by omega⟩⟩
/-- tuples of numbers, of any lengths -/
theorem cmp_lt_ndU {A : Around} {s : Shared} {a b : Value} {r q : List Nat} {as bs : List Addr} (ra : Reads s.heap a (.tuple (nd r)) as) (rb : Reads s.heap b (.tuple (nd q)) bs) (hu : A.units < cLine) : CmpAt .Lt A s a b (HT.lexLt (intsN r) (intsN q)) := by
  obtain ⟨k, hk, heq, hne, hall⟩ := first_offU r q
  refine cmp_lt_tupU k _ ra rb (by simpa [nd] using hk) hu (fun j x y v w as bs hj hx hy rx ry => ?_) (fun x y v w as bs hx hy rx ry => ?_) (fun e => by rw [hall (by simpa [nd] using e)]; simp [nd])
  · have := heq j hj
    simp only [nd, List.getElem?_map] at hx hy
    rw [this] at hx
    rw [hx] at hy
    cases hy
    obtain ⟨m, _, rfl⟩ := Option.map_eq_some_iff.mp hx
    cases rx with
    | int _ t =>
      cases ry with
      | int _ t' =>
        have := SeqAt.EqAt.int_int (A := A.in1) (s := s) (m : Int) t (m : Int) t'
        simpa using this
  · simp only [nd, List.getElem?_map] at hx hy
    obtain ⟨m, hm, rfl⟩ := Option.map_eq_some_iff.mp hx
    obtain ⟨m', hm', rfl⟩ := Option.map_eq_some_iff.mp hy
    obtain ⟨q1, q2⟩ := hne m m' hm hm'
    cases rx with
    | int _ t =>
      cases ry with
      | int _ t' =>
        refine ⟨?_, ?_⟩
        · have := SeqAt.EqAt.int_int (A := A.in1) (s := s) (m : Int) t (m' : Int) t'
          have e : ((m : Int) == (m' : Int)) = false := by simpa using fun h : (m : Int) = m' => q1 (by omega)
          rwa [e] at this
        · have := cmp_lt_int A.in1 s m m' t t'
          have e : decide ((m : Int) < (m' : Int)) = HT.lexLt (intsN r) (intsN q) := by rw [q2]; exact decide_eq_decide.mpr ⟨fun h => by omega, fun h => by omega⟩
          rwa [e] at this
end L2
namespace L2
open PySem PySem.Spec PyProof.Rows PySem.W
def bd (a b : Nat) (c : List Nat) : PyData := .tuple [.int a, .int b, .tuple (nd c)]
def bkey (a b : Nat) (c : List Nat) : List Int := intsN (a :: b :: c)
theorem bkey_lt (a b a' b' : Nat) (c c' : List Nat) : HT.lexLt (bkey a b c) (bkey a' b' c') = if a = a' then (if b = b' then HT.lexLt (intsN c) (intsN c') else decide (b < b')) else decide (a < a') := by
  show HT.lexLt ((a : Int) :: (b : Int) :: intsN c) ((a' : Int) :: (b' : Int) :: intsN c') = _
  rw [HT.lexLt_cons, HT.lexLt_cons]
  by_cases e : a = a'
  · rw [if_pos e, if_pos (by omega)]
    by_cases f : b = b'
    · rw [if_pos f, if_pos (by omega)]
    · rw [if_neg f, if_neg (by omega)]; exact decide_eq_decide.mpr ⟨fun h => by omega, fun h => by omega⟩
  · rw [if_neg e, if_neg (by omega)]; exact decide_eq_decide.mpr ⟨fun h => by omega, fun h => by omega⟩
theorem reads_bd {h : Heap} {x : Value} {a b : Nat} {c : List Nat} {as : List Addr} (r : Reads h x (bd a b c) as) : ∃ (p : Addr) (o : Obj) (vs : Array Value) (n : Nat) (t t' : Tok) (v : Value) (bs : List Addr), x = .ref p ∧ h.get? p = some o ∧ o.cls = .type "tuple" ∧ o.data = .seq vs n ∧ vs.toList = [.int a t, .int b t', v] ∧ Reads h v (.tuple (nd c)) bs := by
  cases r with
  | tuple h1 h2 h3 h4 =>
    rename_i p o vs n
    generalize hv : vs.toList = L at h4
    cases h4 with
    | cons r1 t1 =>
      cases t1 with
      | cons r2 t2 =>
        cases t2 with
        | cons r3 t3 =>
          cases t3
          cases r1 with
          | int _ t =>
            cases r2 with
            | int _ t' => exact ⟨p, o, vs, n, t, t', _, _, rfl, h1, h2, h3, hv, r3⟩
theorem ask_band {prog : Program} {w : World} {A : Around} {E : Value → Shared → Prop} {s : Shared} {x y : Value} {a b a' b' : Nat} {c c' : List Nat} {as bs : List Addr} {Q : Bool → Shared → Prop} (rx : Reads s.heap x (bd a b c) as) (ry : Reads s.heap y (bd a' b' c') bs) (hu : A.units + 4 < cLine)
    (h : Q (HT.lexLt (bkey a b c) (bkey a' b' c')) s) : wpAny (model prog w) A (keyLt' (tuples' true) x y) Q E s := by
  obtain ⟨p, o, vs, n, t1, t2, v, _, rfl, g1, _, g3, gv, r3⟩ := reads_bd rx
  obtain ⟨p', o', ws, n', t1', t2', v', _, rfl, k1, _, k3, kv, q3⟩ := reads_bd ry
  refine kat_lt g1 g3 k1 k3 ?_
  have e1 : vs.size = 3 := by rw [← Array.length_toList, gv]; rfl
  have e2 : ws.size = 3 := by rw [← Array.length_toList, kv]; rfl
  rw [gv, kv, e1, e2]
  rw [bkey_lt] at h
  refine kat_cons (SeqAt.EqAt.int_int (A := A) (s := s) (a : Int) t1 (a' : Int) t1' prog w _ _ (kat_go (fun e => kat_yes ?_) (fun e => kat_no ?_)))
  · have ea : a = a' := by have := eq_of_beq e; omega
    rw [if_pos ea] at h
    refine kat_cons (SeqAt.EqAt.int_int (A := A) (s := s) (b : Int) t2 (b' : Int) t2' prog w _ _ (kat_go (fun e => kat_yes ?_) (fun e => kat_no ?_)))
    · have eb : b = b' := by have := eq_of_beq e; omega
      rw [if_pos eb] at h
      have eq2 : PyData.eqv (.tuple (nd c)) (.tuple (nd c')) = decide (c = c') := nd_eqv c c'
      have deep := nd_deep c
      have d1 : (PyData.tuple (nd c)).depth ≤ 3 := by
        show PyData.depthAll (nd c) + 1 ≤ 3
        have := nd_depth1 c
        omega
      have := SeqAt.eqAt_reads (.tuple (nd c)) (.tuple (nd c')) A s v v' _ _ r3 q3 (nd_lay c) (nd_lay c') (by omega)
      rw [eq2] at this
      refine kat_cons (this prog w _ _ (kat_go (fun e => kat_yes (kat_nil ?_)) (fun e => kat_no ?_)))
      · have ec : c = c' := of_decide_eq_true e
        rw [ec, lex_irr] at h
        exact h
      · show wpAny (model prog w) A (oneLt' false v v') Q _ s
        exact kat_one v v' (cmp_lt_ndU r3 q3 (by omega) prog w _ _ h)
    · have eb : ¬ b = b' := fun z => by rw [z] at e; simp at e
      rw [if_neg eb] at h
      show wpAny (model prog w) A (oneLt' false _ _) Q _ s
      refine kat_one _ _ (cmp_lt_int A s b b' t2 t2' prog w _ _ ?_)
      have ed : decide ((b : Int) < (b' : Int)) = decide (b < b') := decide_eq_decide.mpr ⟨fun h => by omega, fun h => by omega⟩
      rw [ed]; exact h
  · have ea : ¬ a = a' := fun z => by rw [z] at e; simp at e
    rw [if_neg ea] at h
    show wpAny (model prog w) A (oneLt' true _ _) Q _ s
    refine oneLt_int ?_
    have ed : decide ((a : Int) < (a' : Int)) = decide (a < a') := decide_eq_decide.mpr ⟨fun h => by omega, fun h => by omega⟩
    rw [ed]; exact h
def BandAt (H : Hp) (x : Addr) (a b : Nat) (c : List Nat) : Prop := ∃ t, H x = some (.tup [.int (a : Int), .int (b : Int), .ref t]) ∧ H t = some (.tup (nv c))
theorem BandAt.dt {K : PySem.W.Frag} {H : Hp} {x : Addr} {a b : Nat} {c : List Nat} (h : BandAt H x a b c) : Dt K H (.ref x) (bd a b c) := by
  obtain ⟨t, h1, h2⟩ := h
  exact .tup (SqT.of h1) (.cons (.int _) (.cons (.int _) (.cons (.tup (SqT.of h2) (nd_all c)) .nil)))
section
variable {X : Cx}
def rSortedB (K : PySem.W.Frag) : List V → Hp → VK → Prop := fun xs H Q => ∃ (p : Addr) (as : List Addr) (A B : Nat → Nat) (C : Nat → List Nat), xs = [.ref p] ∧ SqL K H p (as.map V.ref) ∧ as.length < 64 ∧
  (∀ i, i < as.length → BandAt H (as.getD i 0) (A i) (B i) (C i)) ∧
  ∀ (l : Addr) (π : List Nat), H l = none → π.Perm (List.range as.length) → π.Pairwise (fun i j => HT.lexLt (bkey (A j) (B j) (C j)) (bkey (A i) (B i) (C i)) = false) → Q (.ref l) (upd H l (.lst ((π.map fun i => as.getD i 0).map V.ref)))
theorem kat_tups {h : Heap} : ∀ {as : List Addr} (F : Nat → Value), (∀ i, i < as.length → ∃ (o : Obj) (xs : Array Value) (n : Nat), h.get? (as.getD i 0) = some o ∧ o.cls = .type "tuple" ∧ o.data = .seq xs n ∧ xs[0]? = some (F i)) → KatTups h (as.map Value.ref) ((List.range as.length).map F)
  | [], _, _ => KatTups.nil
  | a :: as, F, g => by
    obtain ⟨o, xs, n, h1, h2, h3, h4⟩ := g 0 (by simp)
    have ih := kat_tups (as := as) (fun i => F (i + 1)) fun i hi => by simpa using g (i + 1) (by simpa using hi)
    rw [List.length_cons, List.range_succ_eq_map, List.map_cons, List.map_cons, List.map_map]
    exact KatTups.cons (by simpa using h1) h2 h3 h4 ih
theorem call_sortedB (hc : X.calm = true) (hu : X.A.units + 10 < cLine) : CallR X (.builtin "sorted") (rSortedB X.K) := by
  intro pins s σ H xs us Q I rr h
  obtain ⟨p, as, A, B, C, rfl, hq, h64, hB, q⟩ := h
  obtain ⟨u, rfl, ru⟩ := vals1 rr
  obtain rfl : u = Value.ref p := ru
  obtain ⟨its, rv, pl, hz⟩ := I.list hq
  have ei := vals_refs rv
  subst ei
  have hlen : (as.map Value.ref).length = as.length := List.length_map ..
  have hget : ∀ i, i < as.length → (as.map Value.ref).getD i Value.none = .ref (as.getD i 0) := fun i hi => by
    simp [List.getD_eq_getElem?_getD, hi]
  let lt : Nat → Nat → Bool := fun i j => HT.lexLt (bkey (A i) (B i) (C i)) (bkey (A j) (B j) (C j))
  have hkl : ∀ i j, i < as.length → j < as.length → kl (rank lt as.length) i j = lt i j := fun i j hi hj => rank_kl (lt := lt) (fun i => lex_irr _) (fun i j k h1 h2 => lex_tr (b := bkey (A j) (B j) (C j)) h1 h2) (fun i j k h => lex_nt (b := bkey (A j) (B j) (C j)) h) hi hj
  have hrd : ∀ i, i < as.length → ∃ ps, Reads s.heap (.ref (as.getD i 0)) (bd (A i) (B i) (C i)) ps := fun i hi => Dt.reads I (hB i hi).dt rfl
  have hfst : ∀ i, ∃ v : Value, i < as.length → ∃ (t : Tok) (o : Obj) (xs : Array Value) (n : Nat), v = .int (A i) t ∧ s.heap.get? (as.getD i 0) = some o ∧ o.cls = .type "tuple" ∧ o.data = .seq xs n ∧ xs[0]? = some v := fun i => by
    by_cases hi : i < as.length
    · obtain ⟨ps, r⟩ := hrd i hi
      obtain ⟨p', o, vs, n, t, t', v, _, e, g1, g2, g3, gv, _⟩ := reads_bd r
      injection e with e
      subst e
      exact ⟨.int (A i) t, fun _ => ⟨t, o, vs, n, rfl, g1, g2, g3, by rw [← Array.getElem?_toList, gv]; rfl⟩⟩
    · exact ⟨.none, fun z => absurd z hi⟩
  refine sorted_list_by (rank lt as.length) (tuples' true) pl.isList (by rw [hlen]; exact h64) (I.ok.hd hc) hu (fun c A' E' R s' _ hs hR => ?_) (fun c A' i j C' s' hu' hs hi hj hC => ?_) (fun h1 h2 tk e π p1 p2 hk he hk2 => ?_)
  · let F : Nat → Value := fun i => Classical.choose (hfst i)
    have hF : ∀ i, i < as.length → ∃ (t : Tok) (o : Obj) (xs : Array Value) (n : Nat), F i = .int (A i) t ∧ s.heap.get? (as.getD i 0) = some o ∧ o.cls = .type "tuple" ∧ o.data = .seq xs n ∧ xs[0]? = some (F i) := fun i hi => Classical.choose_spec (hfst i) hi
    refine kat_kind (T := .type "int") (kat_tups F fun i hi => ?_) (by simp; rw [hlen] at c; omega) (fun v hv => ?_) rfl (hR s'.toks)
    · obtain ⟨t, o, xs, n, _, g1, g2, g3, g4⟩ := hF i hi
      exact ⟨o, xs, n, hs _ _ g1, g2, g3, g4⟩
    · obtain ⟨i, hi, rfl⟩ := List.mem_map.mp hv
      obtain ⟨t, _, _, _, e, _⟩ := hF i (List.mem_range.mp hi)
      rw [e]
      exact fun A'' Q'' E'' s'' hs'' q'' => wpAny_pure q''
  · rw [hlen] at hi hj
    unfold kas_ask
    rw [hget i hi, hget j hj]
    obtain ⟨pa, ra⟩ := hrd i hi
    obtain ⟨pb, rb⟩ := hrd j hj
    have hC := hC s'.toks
    rw [hkl i j hi hj] at hC
    exact ask_band (Reads.keeps hs ra) (Reads.keeps hs rb) (by omega) hC
  · rw [hlen] at p1
    have I1 : Inv X pins σ H { s with heap := h1, toks := tk } := I.kept hk
    have hl : (π.map fun i => as.getD i 0).length < 64 := by rw [List.length_map, p1.length_eq, List.length_range]; exact h64
    have hv : (π.map fun i => (as.map Value.ref).getD i Value.none) = (π.map fun i => as.getD i 0).map Value.ref := by
      rw [List.map_map]
      refine List.map_congr_left fun i hi => ?_
      exact hget i (List.mem_range.mp (p1.mem_iff.mp hi))
    rw [hv] at he
    refine ⟨.ref h1.objs.size, _, I1.laid (a := h1.objs.size) (o := .lst ((π.map fun i => as.getD i 0).map V.ref)) (h' := h2) (t' := tk) hk2 (Nat.le_refl _) ⟨?_, _, e, refs_vals _, he⟩, rfl, q _ π (I1.hok.fresh (Nat.le_refl _)) p1 ?_⟩
    · rw [List.length_map]; exact Nat.le_of_lt (small1000 (by omega))
    · refine p2.imp_of_mem fun {i j} hi hj hij => ?_
      have hi := List.mem_range.mp (p1.mem_iff.mp hi)
      have hj := List.mem_range.mp (p1.mem_iff.mp hj)
      have := hkl j i hj hi
      show lt j i = false
      rw [← this]
      exact decide_eq_false (by omega)
end
end L2
namespace Sq
/-- a row with a square of the edge meets it again -/
theorem meets {n : Nat} {u S : List Nat} (ru : Row n u) (lt : ∀ x ∈ S, x < n) (e : Nat → Bool) (h : S.any e = true) : ∃ w, 1 ≤ w ∧ w ≤ n ∧ (S.map fun x => it u x w).any e = true := by
  obtain ⟨x, hx, ex⟩ := List.any_eq_true.mp h
  have hxn := lt x hx
  have hp := per_is ru hxn
  refine ⟨per n u x, ?_, ?_, ?_⟩
  · unfold per; omega
  · have := (cyc_is ru hxn).len ru hxn
    rwa [cyc_len] at this
  · rw [List.any_eq_true]
    exact ⟨_, List.mem_map.mpr ⟨x, hx, rfl⟩, by rw [hp.1]; exact ex⟩
end Sq
namespace Sq
def hits (E S : List Nat) : Bool := S.any fun x => decide (x ∈ E)
def ups (u S : List Nat) (w : Nat) : List Nat := S.map fun x => it u x w
def shifted (E S W : List Nat) (t : Nat) : Bool := (List.range S.length).any fun k => decide (nx S k ∈ E) && decide (nx W ((k + t) % S.length) ∈ E)
def wid (n : Nat) (u E S : List Nat) : Nat := ((List.range n).find? fun k => hits E (ups u S (k + 1))).getD 0 + 1
def shifts (E S W : List Nat) : List Nat := (List.range S.length).filter (shifted E S W)
def bandOf (n : Nat) (u E S : List Nat) : Nat × Nat × List Nat := (S.length, wid n u E S, shifts E S (ups u S (wid n u E S)))
def bandsOf (n : Nat) (r u E : List Nat) : List (Nat × Nat × List Nat) := ((rounds n r).filter (hits E)).map (bandOf n u E)
theorem ups_zero (u S : List Nat) : ups u S 0 = S := by
  show S.map (fun x => x) = S
  simp
theorem ups_succ (u S : List Nat) (w : Nat) : ups u S (w + 1) = (ups u S w).map (nx u) := by
  show S.map (fun x => nx u (it u x w)) = (S.map fun x => it u x w).map (nx u)
  rw [List.map_map]; rfl
theorem ups_one (u S : List Nat) : ups u S 1 = S.map (nx u) := by rw [ups_succ, ups_zero]
theorem ups_len (u S : List Nat) (w : Nat) : (ups u S w).length = S.length := by simp [ups]
theorem ups_lt {n : Nat} {u S : List Nat} (ru : Row n u) (lt : ∀ x ∈ S, x < n) (w : Nat) : ∀ y ∈ ups u S w, y < n := fun y hy => by
  obtain ⟨x, hx, rfl⟩ := List.mem_map.mp hy
  exact it_lt ru (lt x hx) w
theorem wid_is {n : Nat} {u S E : List Nat} (ru : Row n u) (lt : ∀ x ∈ S, x < n) (h : hits E S = true) :
    hits E (ups u S (wid n u E S)) = true ∧ (∀ i, 1 ≤ i → i < wid n u E S → hits E (ups u S i) = false) ∧ 1 ≤ wid n u E S ∧ wid n u E S ≤ n := by
  obtain ⟨w, h1, h2, h3⟩ := meets ru lt (fun x => decide (x ∈ E)) h
  have hs : ((List.range n).find? fun k => hits E (ups u S (k + 1))).isSome = true := by
    rw [List.find?_isSome]
    exact ⟨w - 1, List.mem_range.mpr (by omega), by rw [show w - 1 + 1 = w from by omega]; exact h3⟩
  obtain ⟨k, hk⟩ := Option.isSome_iff_exists.mp hs
  have e : wid n u E S = k + 1 := by unfold wid; rw [hk]; rfl
  have hp := List.find?_some hk
  have hm := List.mem_range.mp (List.mem_of_find?_eq_some hk)
  refine ⟨by rw [e]; exact hp, fun i hi hlt => ?_, by omega, by omega⟩
  rw [e] at hlt
  rw [List.find?_range_eq_some] at hk
  have := hk.2.2 (i - 1) (by omega)
  rw [show i - 1 + 1 = i from by omega] at this
  cases c : hits E (ups u S i) with
  | false => rfl
  | true => rw [c] at this; simp at this
/-- below the next edge, right and up may be exchanged -/
theorem comm {n : Nat} {r u S E : List Nat} (rr : Row n r) (ru : Row n u) (lt : ∀ x ∈ S, x < n) (cl : ∀ x ∈ S, nx r x ∈ S)
    (un : ∀ k, k < n → k ∉ E → nx u (nx r (nx (back u) (nx (back r) k))) = k) {w : Nat} (hw : ∀ i, 1 ≤ i → i < w → hits E (ups u S i) = false) :
    ∀ j, j < w → ∀ t x, x ∈ S → it u (it r x t) j = it r (it u x j) t
  | 0, _, _, _, _ => rfl
  | j + 1, hj, 0, x, hx => rfl
  | j + 1, hj, t + 1, x, hx => by
    have cls : ∀ t, it r x t ∈ S := fun t => by
      induction t with
      | zero => exact hx
      | succ t ih => exact cl _ ih
    have ih := comm rr ru lt cl un hw (j + 1) hj t x hx
    have ihj := comm rr ru lt cl un hw j (by omega) 1 (it r x t) (cls t)
    have hx' := cls t
    have hy : it u (it r x t) j < n := it_lt ru (lt _ hx') j
    have e1 : it u (it r x (t + 1)) (j + 1) = nx u (nx r (it u (it r x t) j)) := by
      show nx u (it u (nx r (it r x t)) j) = _
      exact congrArg (nx u) ihj
    have hk : nx u (nx r (it u (it r x t) j)) < n := ru.nlt (rr.nlt hy)
    have hnE : nx u (nx r (it u (it r x t) j)) ∉ E := fun hE => by
      have := hw (j + 1) (by omega) hj
      have : hits E (ups u S (j + 1)) = true := by
        unfold hits
        rw [List.any_eq_true]
        exact ⟨_, List.mem_map.mpr ⟨_, cls (t + 1), e1⟩, decide_eq_true hE⟩
      simp_all
    have hu := un _ hk hnE
    have b1 := rr.back.nlt hk
    have b2 := ru.back.nlt b1
    have e2 := rr.inj b2 hy (ru.inj (rr.nlt b2) (rr.nlt hy) hu)
    have e3 : nx (back r) (nx u (nx r (it u (it r x t) j))) = nx u (it u (it r x t) j) := by
      have := congrArg (nx u) e2
      rwa [nx_back' ru b1] at this
    have e4 : nx u (nx r (it u (it r x t) j)) = nx r (nx u (it u (it r x t) j)) := by
      have := congrArg (nx r) e3
      rwa [nx_back' rr hk] at this
    rw [e1, e4]
    exact congrArg (nx r) ih
theorem shifted_eq {n : Nat} {r u E : List Nat} {x0 : Nat} (rr : Row n r) (ru : Row n u) (hx0 : x0 < n)
    (un : ∀ k, k < n → k ∉ E → nx u (nx r (nx (back u) (nx (back r) k))) = k) (h : hits E (cyc n r x0) = true) (t : Nat) :
    shifted E (cyc n r x0) (ups u (cyc n r x0) (wid n u E (cyc n r x0))) t = (cyc n r x0).any fun x => decide (x ∈ E) && decide (nx u (it r (it u x (wid n u E (cyc n r x0) - 1)) t) ∈ E) := by
  have lt : ∀ x ∈ cyc n r x0, x < n := fun y hy => cyc_lt rr hx0 hy
  have hc := cyc_is rr hx0
  obtain ⟨h1, h2, h3, h4⟩ := wid_is ru lt h
  generalize wid n u E (cyc n r x0) = w at *
  have cl : ∀ x ∈ cyc n r x0, nx r x ∈ cyc n r x0 := fun x hx => by
    obtain ⟨i, hi, rfl⟩ := mem_it rr hx
    exact it_mem rr hx0 (i + 1)
  have hp := per_is rr hx0
  have hmod : ∀ j, it r x0 (j % per n r x0) = it r x0 j := fun j => by
    have hq : ∀ q, it r x0 (per n r x0 * q) = x0 := fun q => by
      induction q with
      | zero => rfl
      | succ q ih => rw [Nat.mul_succ, it_add, ih, hp.1]
    conv => rhs; rw [← Nat.div_add_mod j (per n r x0), it_add, hq]
  unfold shifted
  rw [cyc_len]
  conv => rhs; unfold cyc; rw [List.any_map]
  have key : ∀ k, k < per n r x0 → (decide (nx (cyc n r x0) k ∈ E) && decide (nx (ups u (cyc n r x0) w) ((k + t) % per n r x0) ∈ E)) = (decide (it r x0 k ∈ E) && decide (nx u (it r (it u (it r x0 k) (w - 1)) t) ∈ E)) := fun k hk => by
    have g1 : nx (cyc n r x0) k = it r x0 k := by
      have := hc.get (i := k) (by rw [cyc_len]; exact hk)
      unfold nx; rw [List.getD_eq_getElem?_getD, this]; rfl
    have hj : (k + t) % per n r x0 < per n r x0 := Nat.mod_lt _ (by omega)
    have g2 : nx (ups u (cyc n r x0) w) ((k + t) % per n r x0) = nx u (it r (it u (it r x0 k) (w - 1)) t) := by
      have := hc.get (i := (k + t) % per n r x0) (by rw [cyc_len]; exact hj)
      unfold ups
      rw [nx_map this, hmod, it_add]
      obtain ⟨w', rfl⟩ : ∃ w', w = w' + 1 := ⟨w - 1, by omega⟩
      rw [Nat.add_sub_cancel]
      show nx u (it u (it r (it r x0 k) t) w') = _
      rw [comm rr ru lt cl un h2 w' (by omega) t _ (it_mem rr hx0 k)]
    rw [g1, g2]
  apply Bool.eq_iff_iff.mpr
  rw [List.any_eq_true, List.any_eq_true]
  constructor
  · rintro ⟨k, hk, e⟩
    exact ⟨k, hk, by rw [← e]; exact (key k (List.mem_range.mp hk)).symm⟩
  · rintro ⟨k, hk, e⟩
    exact ⟨k, hk, by rw [← e]; exact key k (List.mem_range.mp hk)⟩
end Sq
namespace Sq
def rds (n : Nat) (w : List Nat) (i : Nat) : List (List Nat) := ((List.range i).filter (lead n w)).map (cyc n w)
theorem rds_count {n : Nat} {w : List Nat} (i : Nat) : (rds n w i).length ≤ i := by
  unfold rds
  rw [List.length_map]
  have := List.length_filter_le (lead n w) (List.range i)
  rwa [List.length_range] at this
theorem rounds_mem {n : Nat} {w M : List Nat} (h : M ∈ rounds n w) : ∃ x, x < n ∧ lead n w x = true ∧ M = cyc n w x := by
  obtain ⟨l, hl, rfl⟩ := List.mem_map.mp h
  obtain ⟨h1, h2⟩ := List.mem_filter.mp hl
  exact ⟨l, List.mem_range.mp h1, h2, rfl⟩
end Sq
namespace K1
open PySem L2 Sq
abbrev Bd : Type := Nat × Nat × List Nat
def bk (b : Bd) : List Int := bkey b.1 b.2.1 b.2.2
theorem intsN_inj : ∀ {a b : List Nat}, intsN a = intsN b → a = b
  | [], [], _ => rfl
  | [], _ :: _, h => by cases h
  | _ :: _, [], h => by cases h
  | x :: a, y :: b, h => by
    have h' : (x : Int) :: intsN a = (y : Int) :: intsN b := h
    have h1 := (List.cons.inj h').1
    have h2 := intsN_inj (List.cons.inj h').2
    rw [h2, show x = y from by omega]
def sortedB (bs : List Bd) : Prop := bs.Pairwise fun x y => HT.lexLt (bk y) (bk x) = false
def BsAt (H : Hp) : List Addr → List Bd → Prop
  | [], [] => True
  | a :: as, b :: bs => BandAt H a b.1 b.2.1 b.2.2 ∧ BsAt H as bs
  | _, _ => False
theorem BsAt.len {H : Hp} : ∀ {as : List Addr} {bs : List Bd}, BsAt H as bs → as.length = bs.length
  | [], [], _ => rfl
  | _ :: as, _ :: Ms, ⟨_, h2⟩ => by simp [BsAt.len h2]
  | [], _ :: _, h => h.elim
  | _ :: _, [], h => h.elim
theorem BsAt.get {H : Hp} : ∀ {as : List Addr} {bs : List Bd}, BsAt H as bs → ∀ {i : Nat} {a : Addr}, as[i]? = some a → ∃ b, bs[i]? = some b ∧ BandAt H a b.1 b.2.1 b.2.2
  | [], [], _, i, a, h => by simp at h
  | b :: as, M :: Ms, ⟨h1, h2⟩, 0, a, h => by simp at h; subst h; exact ⟨M, rfl, h1⟩
  | b :: as, M :: Ms, ⟨h1, h2⟩, i + 1, a, h => by
    obtain ⟨M', e1, e2⟩ := BsAt.get h2 (i := i) (a := a) (by simpa using h)
    exact ⟨M', by simpa using e1, e2⟩
  | [], _ :: _, h, _, _, _ => h.elim
  | _ :: _, [], h, _, _, _ => h.elim
theorem BsAt.snoc {H : Hp} : ∀ {as : List Addr} {Ms : List Bd} {a : Addr} {M : Bd}, BsAt H as Ms → BandAt H a M.1 M.2.1 M.2.2 → BsAt H (as ++ [a]) (Ms ++ [M])
  | [], [], _, _, _, h => ⟨h, trivial⟩
  | _ :: _, _ :: _, _, _, ⟨h1, h2⟩, h => ⟨h1, BsAt.snoc h2 h⟩
  | [], _ :: _, _, _, h, _ => h.elim
  | _ :: _, [], _, _, h, _ => h.elim
theorem BsAt.mono {H H' : Hp} (e : ∀ b xs, H b = some (.tup xs) → H' b = some (.tup xs)) : ∀ {as : List Addr} {bs : List Bd}, BsAt H as bs → BsAt H' as bs
  | [], [], _ => trivial
  | _ :: _, _ :: _, ⟨⟨t, h1, h3⟩, h2⟩ => ⟨⟨t, e _ _ h1, e _ _ h3⟩, BsAt.mono e h2⟩
  | [], _ :: _, h => h.elim
  | _ :: _, [], h => h.elim
theorem tup_upd {H : Hp} {d : Addr} {o : HO} {ys : List V} (hd : H d = some (.lst ys)) : ∀ b xs, H b = some (.tup xs) → upd H d o b = some (.tup xs) := fun b xs h => by
  rw [upd_ne (fun e => by rw [e, hd] at h; cases h)]; exact h
theorem tup_new {H : Hp} {d : Addr} {o : HO} (hd : H d = none) : ∀ b xs, H b = some (.tup xs) → upd H d o b = some (.tup xs) := fun b xs h => by
  rw [upd_ne (fun e => by rw [e, hd] at h; cases h)]; exact h
theorem BsAt.same {H H' : Hp} {as : List Addr} {bs : List Bd} (s : Same H H') (h : BsAt H as bs) : BsAt H' as bs := BsAt.mono (fun b xs h => s _ _ h) h
theorem BsAt.pick {H : Hp} {as : List Addr} {bs : List Bd} (h : BsAt H as bs) : ∀ π : List Nat, (∀ i ∈ π, i < as.length) → BsAt H (π.map fun i => as.getD i 0) (π.map fun i => bs.getD i (0, 0, []))
  | [], _ => trivial
  | i :: π, hi => by
    refine ⟨?_, BsAt.pick h π fun j hj => hi j (by simp [hj])⟩
    have hlt := hi i (by simp)
    have ha : as[i]? = some as[i] := List.getElem?_eq_getElem hlt
    obtain ⟨b, hb, hB⟩ := h.get ha
    show BandAt H (as.getD i 0) (bs.getD i (0, 0, [])).1 (bs.getD i (0, 0, [])).2.1 (bs.getD i (0, 0, [])).2.2
    have e1 : as.getD i 0 = as[i] := by rw [List.getD_eq_getElem?_getD, ha]; rfl
    have e2 : bs.getD i (0, 0, []) = b := by rw [List.getD_eq_getElem?_getD, hb]; rfl
    rw [e1, e2]
    exact hB
theorem range_getD {α : Type} (d : α) (l : List α) : (List.range l.length).map (fun i => l.getD i d) = l := by
  apply List.ext_getElem?
  intro i
  by_cases h : i < l.length
  · simp [h]
  · simp [h, Nat.le_of_not_lt h]
/-- sorted(l), l a list of bands -/
theorem sortB_at {K : PySem.W.Frag} {H : Hp} {p : Addr} {as : List Addr} {bs : List Bd} {Q : VK} (hp : H p = some (.lst (as.map V.ref))) (h : BsAt H as bs) (hl : as.length < 64)
    (k : ∀ (l : Addr) (as' : List Addr) (bs' : List Bd), H l = none → BsAt (upd H l (.lst (as'.map V.ref))) as' bs' → bs'.Perm bs → sortedB bs' → Q (.ref l) (upd H l (.lst (as'.map V.ref)))) : rSortedB K [.ref p] H Q := by
  have hlen := h.len
  refine ⟨p, as, fun i => (bs.getD i (0, 0, [])).1, fun i => (bs.getD i (0, 0, [])).2.1, fun i => (bs.getD i (0, 0, [])).2.2, rfl, SqL.of hp, hl, fun i hi => ?_, fun l π hl0 hπ hs => ?_⟩
  · have := (h.pick [i] (by simpa using hi)).1
    exact this
  · refine k l _ (π.map fun i => bs.getD i (0, 0, [])) hl0 (BsAt.mono (tup_new hl0) (h.pick π fun i hi => List.mem_range.mp (hπ.mem_iff.mp hi))) ?_ ?_
    · have := hπ.map (fun i => bs.getD i ((0, 0, []) : Bd))
      rw [hlen, range_getD] at this
      exact this
    · exact List.pairwise_map.mpr hs
theorem compIfC {K : PySem.W.Frag} {Hc : Hp} {tl te : TE} {tt : TT} {g : TG} {m : Nat} {pull : List Nat} {Q : VK} {σ : St} (Pr : Hp → Addr → Prop) (hj : ∀ R : VK, (∀ H1 a, Pr H1 a → R (.ref a) H1) → tl σ Hc R)
    (k : ∀ H1 a, Pr H1 a → tCompIf (iList K (fun _ H R => R (.ref a) H)) m pull g tt te σ H1 Q) : tCompIf (iList K tl) m pull g tt te σ Hc Q := hj _ fun H1 a h => k H1 a h
/-- [band(row) for row in rows if test(row)] -/
theorem compBands {K : PySem.W.Frag} {Hc : Hp} {a : Addr} {rs : List Addr} {Ms : List (List Nat)} {te : TE} {tt : TT} {pull : List Nat} {Q : VK} {σ : St} {rest : St} (p : List Nat → Bool) (g : List Nat → Bd)
    (hp : Hc a = some (.lst (rv rs))) (hL : Lsts Hc rs Ms) (hb : bst 1 pull σ = none :: rest)
    (htt : ∀ (b : Addr) (M : List Nat) (H : Hp) (R : Bool → Hp → Prop), M ∈ Ms → Same Hc H → H b = some (.lst (nv M)) → (∀ H', Same H H' → R (p M) H') → tt (some (.ref b) :: rest) H R)
    (hte : ∀ (b : Addr) (M : List Nat) (H : Hp) (R : VK), M ∈ Ms → p M = true → Same Hc H → H b = some (.lst (nv M)) → (∀ (H' : Hp) (x : Addr), Same H H' → BandAt H' x (g M).1 (g M).2.1 (g M).2.2 → R (.ref x) H') → te (some (.ref b) :: rest) H R)
    (hm : Ms.length ≤ 1000)
    (k : ∀ (H' : Hp) (d : Addr) (as : List Addr), Same Hc H' → Hc d = none → BsAt H' as ((Ms.filter p).map g) → H' d = some (.lst (as.map V.ref)) → Q (.ref d) H') :
    tCompIf (iList K (fun _ H R => R (.ref a) H)) 1 pull (gName 0) tt te σ Hc Q := by
  have hlen := hL.len
  refine ⟨a, rfl, ⟨_, SqL.of hp⟩, fun d hd => ?_⟩
  rw [hb]
  refine compIf_ex (J := Itl K a) (Q := fun d H' => Q (.ref d) H') rs.length (fun i xs σ H9 => (∃ o, σ = o :: rest) ∧ Same Hc H9 ∧ ∃ as : List Addr, xs = as.map V.ref ∧ as.length ≤ i ∧ BsAt H9 as (((Ms.take i).filter p).map g)) ⟨⟨_, rfl⟩, same_upd (Same.refl _) hd, [], rfl, Nat.le_refl _, trivial⟩ ?_ ?_
  · rintro i xs σ H9 hi ⟨⟨o, rfl⟩, s9, as, rfl, la, hB⟩ hd9
    have hq := SqL.of (K := K) (s9 _ _ hp)
    have ha : rs[i]? = some rs[i] := List.getElem?_eq_getElem hi
    generalize rs[i] = b at ha
    obtain ⟨M, hM, hb9⟩ := hL.get ha
    have hmM := List.mem_of_getElem? hM
    have hmi : (rv rs)[i]? = some (.ref b) := rv_get ha
    refine ⟨⟨_, _, hq, hmi⟩, fun y H4 ⟨e1, hy⟩ => ?_⟩
    subst e1
    have hy := hy _ hq
    rw [hmi] at hy
    cases hy
    refine htt b M _ _ hmM s9 (s9 _ _ hb9) fun H5 s5 => ?_
    have ef : ((Ms.take (i + 1)).filter p).map g = ((Ms.take i).filter p).map g ++ ([M].filter p).map g := by
      rw [List.take_add_one, hM, List.filter_append, List.map_append]; rfl
    cases e : p M with
    | true =>
      have e3 : [M].filter p = [M] := by simp [e]
      rw [if_pos rfl]
      refine hte b M _ _ hmM e (s9.trans s5) (s5 _ _ (s9 _ _ hb9)) fun H6 x s6 hx => ?_
      have hd6 := s6 _ _ (s5 _ _ hd9)
      refine xpost hi hd6 (by rw [List.length_map]; omega) ⟨⟨_, rfl⟩, same_upd ((s9.trans s5).trans s6) hd, as ++ [x], by simp, by simp; omega, ?_⟩
      rw [ef, e3]
      refine BsAt.mono (tup_upd hd6) (BsAt.snoc (hB.same (s5.trans s6)) hx)
    | false =>
      have e3 : [M].filter p = [] := by simp [e]
      rw [if_neg (by decide)]
      refine xskip hi (s5 _ _ hd9) ⟨⟨_, rfl⟩, s9.trans s5, as, rfl, by omega, ?_⟩
      rw [ef, e3, List.map_nil, List.append_nil]
      exact hB.same s5
  · rintro xs σ H9 ⟨⟨o, rfl⟩, s9, as, rfl, la, hB⟩ hd9
    rw [hlen, List.take_length] at hB
    exact ⟨⟨_, SqL.of (s9 _ _ hp), by rw [rv_len]; exact Nat.le_refl _⟩, k H9 d as s9 hd hB hd9⟩
end K1
namespace K1
open Sq
end K1
namespace K1
open PySem L2 Sq
/-- left, down, right, up -/
def later (r u : List Nat) : List Nat := (List.range r.length).map fun k => nx u (nx r (nx (back u) (nx (back r) k)))
theorem later_len (r u : List Nat) : (later r u).length = r.length := by simp [later]
theorem later_nx {n : Nat} {r u : List Nat} (rr : Row n r) {k : Nat} (hk : k < n) : nx (later r u) k = nx u (nx r (nx (back u) (nx (back r) k))) := by
  have : k < r.length := by rw [rr.len]; exact hk
  simp [nx, later, List.getD, this]
theorem later_row {n : Nat} {r u : List Nat} (rr : Row n r) (ru : Row n u) : Row n (later r u) := by
  refine row_of (by rw [later_len, rr.len]) (fun i hi => ?_) (fun i j hi hj e => ?_)
  · rw [later_nx rr hi]; exact ru.nlt (rr.nlt (ru.back.nlt (rr.back.nlt hi)))
  · rw [later_nx rr hi, later_nx rr hj] at e
    have a := rr.back.nlt hi
    have b := rr.back.nlt hj
    exact rr.back.inj hi hj (ru.back.inj a b (rr.inj (ru.back.nlt a) (ru.back.nlt b) (ru.inj (rr.nlt (ru.back.nlt a)) (rr.nlt (ru.back.nlt b)) e)))
theorem later_map {n : Nat} {r u : List Nat} (rr : Row n r) : (back r).map (fun x => nx u (nx r (nx (back u) x))) = later r u := by
  refine List.ext_getElem? fun i => ?_
  by_cases hi : i < n
  · have h1 := rr.back.get hi
    have h2 : (later r u)[i]? = some (nx (later r u) i) := by
      have : i < (later r u).length := by rw [later_len, rr.len]; exact hi
      rw [List.getElem?_eq_getElem this]; unfold nx; rw [List.getD_eq_getElem?_getD, List.getElem?_eq_getElem this]; rfl
    rw [h2, List.getElem?_map, h1, later_nx rr hi]; rfl
  · have e1 := rr.len
    have e2 := rr.back.len
    rw [List.getElem?_eq_none (by rw [List.length_map]; omega), List.getElem?_eq_none (by rw [later_len]; omega)]
def spTurn : Sp := fun vs H Q _ => ∃ (a : Addr) (n : Nat) (r u : List Nat), vs = [.ref a] ∧ ShAt H a r u ∧ Row n r ∧ Row n u ∧ n ≤ 36 ∧ ∀ (H' : Hp) (l : Addr), Same H H' → H l = none → H' l = some (.lst (nv (later r u))) → Q (.ref l) H'
section
variable {P : Program} {w : World} {K : PySem.W.Frag} {mg : Str → Option Value} {base : Heap}
abbrev nTr : List Str := ["sheet", "left", "down"]
theorem scTr : FnScope nTr ["sheet"] (defScope sTurnRow) := ⟨rfl, rfl, rfl, by decide +kernel, rfl, by decide +kernel, by decide +kernel⟩
theorem ndTr : (["square", "sheet", "down"] : List Str).Nodup := by decide +kernel
theorem ok_turn {f fb : Addr} {fd fdb : FuncData} (F : Fn K mg "turn_row" sTurnRow ["sheet"] f fd) (FB : Fn K mg "back_row" sBackRow ["row"] fb fdb) (GB : FnOk P w K mg base CX0 1 fb fdb ["row"] spBackRow) :
    FnOk P w K mg base CX0 5 f fd ["sheet"] spTurn := by
  refine F.F.ok scTr (fun vs H Q E h => ?_) (fun cdv A outer s H vs Q E hr h => ?_)
  · obtain ⟨a, n, r, u, rfl, _⟩ := h; rfl
  · obtain ⟨a, n, r, u, rfl, ⟨p, q, h1, h2, h3⟩, rr, ru, hn, k⟩ := h
    have hr1 : Room 1 _ := hr.mono (by decide)
    refine ⟨_, pss_cons (ps_set (i := 1) scTr.nd rfl (Or.inl rfl) (pe_call GB hr1 rfl FB.m FB.F.kp FB.b .nil pass0 (pa_cons (pe_ix ix_tup (pv 0) pe_int (fun _ _ => rfl)) pa_nil)))
      (pss_cons (ps_set (i := 2) scTr.nd rfl (Or.inr rfl) (pe_call GB hr1 rfl FB.m FB.F.kp FB.b .nil pass0 (pa_cons (pe_ix ix_tup (pv 0) pe_int (fun _ _ => rfl)) pa_nil)))
      (pss_one (ps_ret (pe_comp (N := nTr) (names := (defScope sTurnRow).names) (N' := ["square", "sheet", "down"]) (k := 1) (pull := [0, 2]) (te := tOp (rIxT K) (tOp (rIxT K) (tVar 1) (tC (.int 1))) (tOp (rIxT K) (tOp (rIxT K) (tVar 1) (tC (.int 0))) (tOp (rIxT K) (tVar 2) (tVar 0)))) rfl
        ⟨by rfl, by decide +kernel, by decide +kernel, by rfl, by decide +kernel, by decide +kernel⟩ rfl rfl (pi_tup (pv 1)) (fun _ _ _ _ _ _ => pg_name (i := 0) ndTr rfl (Or.inl rfl))
        (fun _ _ _ _ _ _ => pe_ix ix_tup (pe_ix ix_tup (pv 1) pe_int (fun _ _ => rfl)) (pe_ix ix_tup (pe_ix ix_tup (pv 1) pe_int (fun _ _ => rfl)) (pe_ix ix_tup (pv 2) (pv 0) (fun _ _ => rfl)) (fun _ _ => rfl)) (fun _ _ => rfl)))))), ?_⟩
    refine ⟨_, rfl, a, _, 0, _, rfl, rfl, SqT.of h1, atI_nat (j := 0) rfl, p, n, r, rfl, h2, rr, hn, fun H1 l1 s1 hl1 => ?_⟩
    refine ⟨_, rfl, a, _, 1, _, rfl, rfl, SqT.of (s1 _ _ h1), atI_nat (j := 1) rfl, q, n, u, rfl, s1 _ _ h3, ru, hn, fun H2 l2 s2 hl2 => ?_⟩
    have s12 := s1.trans s2
    refine compTupN (r := back r) (rest := [some (.ref a), some (.ref l2)]) (fun x => nx u (nx r (nx (back u) x))) rfl (SqT.of (s2 _ _ hl1)) rfl (fun x H3 R hx s3 hR => ?_) (by rw [rr.back.len]; omega) fun H3 d s3 hd hd3 => ?_
    · have hx := rr.back.lt x hx
      have s13 := s12.trans s3
      refine ⟨_, rfl, a, _, 1, _, rfl, rfl, SqT.of (s13 _ _ h1), atI_nat (j := 1) rfl, ?_⟩
      refine ⟨_, rfl, a, _, 0, _, rfl, rfl, SqT.of (s13 _ _ h1), atI_nat (j := 0) rfl, ?_⟩
      refine ⟨_, rfl, _, rfl, l2, _, _, _, rfl, rfl, SqT.of (s3 _ _ hl2), atI_nat (nv_get (ru.back.get hx)), ?_⟩
      refine ⟨p, _, _, _, rfl, rfl, SqT.of (s13 _ _ h2), atI_nat (nv_get (rr.get (ru.back.nlt hx))), ?_⟩
      exact ⟨q, _, _, _, rfl, rfl, SqT.of (s13 _ _ h3), atI_nat (nv_get (ru.get (rr.nlt (ru.back.nlt hx)))), hR⟩
    · rw [later_map rr] at hd3
      exact k H3 d (s12.trans s3) (by
        cases e : H d with
        | none => rfl
        | some o => have := s12 _ _ e; rw [this] at hd; cases hd) hd3
end
end K1
namespace K1
open PySem L2 Sq
def spCorners : Sp := fun vs H Q _ => ∃ (a : Addr) (n : Nat) (r u : List Nat), vs = [.ref a] ∧ ShAt H a r u ∧ Row n r ∧ Row n u ∧ n ≤ 36 ∧
  ∀ (H' : Hp) (l : Addr) (as : List Addr), Same H H' → H l = none → H' l = some (.lst (rv as)) → (∀ a ∈ as, H a = none) → Lsts H' as (rounds n (later r u)) → Q (.ref l) H'
section
variable {P : Program} {w : World} {K : PySem.W.Frag} {mg : Str → Option Value} {base : Heap}
theorem scCo : FnScope ["sheet"] ["sheet"] (defScope sCorners) := ⟨rfl, rfl, rfl, by decide +kernel, rfl, by decide +kernel, by decide +kernel⟩
theorem ok_corners {f fc ft : Addr} {fd fdc fdt : FuncData} (F : Fn K mg "corners" sCorners ["sheet"] f fd) (FT : Fn K mg "turn_row" sTurnRow ["sheet"] ft fdt) (GT : FnOk P w K mg base CX0 5 ft fdt ["sheet"] spTurn)
    (FC : Fn K mg "cycles" sCycles ["row"] fc fdc) (GC : FnOk P w K mg base CX0 2 fc fdc ["row"] (spCycles K)) : FnOk P w K mg base CX0 6 f fd ["sheet"] spCorners := by
  refine F.F.ok scCo (fun vs H Q E h => ?_) (fun cdv A outer s H vs Q E hr h => ?_)
  · obtain ⟨a, n, r, u, rfl, _⟩ := h; rfl
  · obtain ⟨a, n, r, u, rfl, hsh, rr, ru, hn, k⟩ := h
    have hr2 : Room 2 _ := hr.mono (by decide)
    refine ⟨_, pss_one (ps_ret (pe_call GC hr2 rfl FC.m FC.F.kp FC.b .nil pass0 (pa_cons (pe_call GT hr rfl FT.m FT.F.kp FT.b .nil pass0 (pa_cons (pv 0) pa_nil)) pa_nil))), ?_⟩
    refine ⟨_, rfl, a, n, r, u, rfl, hsh, rr, ru, hn, fun H1 l1 s1 _ hl1 => ?_⟩
    exact ⟨l1, n, _, rfl, .inl (SqL.of hl1), later_row rr ru, hn, fun H2 l as s2 f2 hl fr hL => k H2 l as (s1.trans s2) (s1.free f2) hl (fun a ha => s1.free (fr a ha)) hL⟩
end
end K1
namespace Sq
def roughs (n : Nat) (w : List Nat) : List Nat := ((rounds n w).filter fun M => decide (1 < M.length)).flatten
def notPlain (n : Nat) (w : List Nat) : List Nat := (List.range n).filter fun x => !decide (nx w x = x)
theorem flat_sub {α : Type} (p : List α → Bool) : ∀ l : List (List α), ((l.filter p).flatten).Sublist l.flatten
  | [] => List.Sublist.refl _
  | a :: l => by
    by_cases h : p a = true
    · rw [List.filter_cons_of_pos h, List.flatten_cons, List.flatten_cons]
      exact List.Sublist.append_left (flat_sub p l) a
    · rw [List.filter_cons_of_neg h, List.flatten_cons]
      exact (flat_sub p l).trans (List.sublist_append_right _ _)
section
variable {n : Nat} {w : List Nat}
theorem it_fix {x : Nat} (h : nx w x = x) : ∀ i, it w x i = x
  | 0 => rfl
  | i + 1 => by show nx w (it w x i) = x; rw [it_fix h i, h]
theorem rough_mem (rw' : Row n w) {l x : Nat} (hl : l < n) (hx : x ∈ cyc n w l) : 1 < (cyc n w l).length ↔ nx w x ≠ x := by
  have hxn := cyc_lt rw' hl hx
  constructor
  · intro h e
    have hlx : l = x := by
      obtain ⟨i, _, rfl⟩ := mem_it rw' (cyc_symm rw' hl hx)
      exact it_fix e i
    subst hlx
    exact (cyc_is rw' hl).new 1 (Nat.le_refl _) h e
  · intro h
    have hp := (cyc_is rw' hl).pos
    rcases Nat.lt_or_ge 1 (cyc n w l).length with c | c
    · exact c
    · have h1 : (cyc n w l).length = 1 := by omega
      have hb := (cyc_is rw' hl).back
      rw [h1] at hb
      obtain ⟨i, hi, rfl⟩ := mem_it rw' hx
      rw [cyc_len] at h1
      have : i = 0 := by omega
      subst this
      exact absurd hb h
theorem roughs_perm (rw' : Row n w) : (roughs n w).Perm (notPlain n w) := by
  have hp := rounds_perm rw'
  have nd : (rounds n w).flatten.Nodup := hp.nodup_iff.mpr List.nodup_range
  refine (List.perm_ext_iff_of_nodup (List.Nodup.sublist (flat_sub _ _) nd) (List.Nodup.sublist List.filter_sublist List.nodup_range)).mpr fun x => ?_
  constructor
  · intro h
    obtain ⟨M, hM, hx⟩ := List.mem_flatten.mp h
    obtain ⟨h1, h2⟩ := List.mem_filter.mp hM
    obtain ⟨l, hl, rfl⟩ := List.mem_map.mp h1
    have hl := List.mem_range.mp (List.mem_filter.mp hl).1
    have := (rough_mem rw' hl hx).mp (of_decide_eq_true h2)
    exact List.mem_filter.mpr ⟨List.mem_range.mpr (cyc_lt rw' hl hx), by show (!decide (nx w x = x)) = true; rw [decide_eq_false this]; rfl⟩
  · intro h
    obtain ⟨h1, h2⟩ := List.mem_filter.mp h
    have h2 : nx w x ≠ x := fun e => by
      have h2 : (!decide (nx w x = x)) = true := h2
      rw [decide_eq_true e] at h2; cases h2
    obtain ⟨l, hl, hld, hx⟩ := has_lead rw' (List.mem_range.mp h1)
    exact List.mem_flatten.mpr ⟨_, List.mem_filter.mpr ⟨List.mem_map.mpr ⟨l, List.mem_filter.mpr ⟨List.mem_range.mpr hl, hld⟩, rfl⟩, decide_eq_true ((rough_mem rw' hl hx).mpr h2)⟩, hx⟩
theorem notPlain_sorted : (notPlain n w).Pairwise (· ≤ ·) := List.Pairwise.filter _ (range_sorted n)
theorem roughs_nd (rw' : Row n w) : (roughs n w).Nodup := (roughs_perm rw').nodup_iff.mpr (List.Nodup.sublist List.filter_sublist List.nodup_range)
theorem roughs_len (rw' : Row n w) : (roughs n w).length ≤ n := by
  rw [(roughs_perm rw').length_eq]
  have := List.length_filter_le (fun x => !decide (nx w x = x)) (List.range n)
  rwa [List.length_range] at this
end
end Sq
namespace K1
open PySem L2 Sq
def ik (x : Nat) : Key := Sum.inl (x : Int)
def bord (n : Nat) (w : List Nat) : List Nat := if notPlain n w = [] then [0] else notPlain n w
def spRough : Sp := fun vs H Q _ => ∃ (a : Addr) (n : Nat) (r u : List Nat), vs = [.ref a] ∧ ShAt H a r u ∧ Row n r ∧ Row n u ∧ n ≤ 36 ∧
  ∀ (H' : Hp) (d : Addr) (kvs : List (Key × V)), Same H H' → H d = none → H' d = some (.dK kvs) → kvs.map (·.1) = (roughs n (later r u)).map ik → Q (.ref d) H'
def spBorders : Sp := fun vs H Q _ => ∃ (a : Addr) (n : Nat) (r u : List Nat), vs = [.ref a] ∧ ShAt H a r u ∧ Row n r ∧ Row n u ∧ n ≤ 36 ∧
  ∀ (H' : Hp) (l : Addr), Same H H' → H l = none → H' l = some (.lst (nv (bord n (later r u)))) → Q (.ref l) H'
theorem val_none {kvs : List (Key × V)} {F : List Nat} (h : kvs.map (·.1) = F.map ik) {y : Nat} (hy : y ∉ F) : valV kvs (ik y) = none := by
  cases e : valV kvs (ik y) with
  | none => rfl
  | some v =>
    have := valV_in e
    rw [h] at this
    obtain ⟨x, hx, ex⟩ := List.mem_map.mp this
    have : x = y := by have := Sum.inl.inj ex; omega
    exact absurd (this ▸ hx) hy
section
variable {P : Program} {w : World} {K : PySem.W.Frag} {mg : Str → Option Value} {base : Heap}
abbrev nRs : List Str := ["sheet", "least", "corner", "square"]
theorem scRs : FnScope nRs ["sheet"] (defScope sRoughSquares) := ⟨rfl, rfl, rfl, by decide +kernel, rfl, by decide +kernel, by decide +kernel⟩
set_option maxHeartbeats 2000000 in
theorem ok_rough {f fc : Addr} {fd fdc : FuncData} (T : Bi mg) (F : Fn K mg "rough_squares" sRoughSquares ["sheet"] f fd) (FC : Fn K mg "corners" sCorners ["sheet"] fc fdc) (GC : FnOk P w K mg base CX0 6 fc fdc ["sheet"] spCorners) :
    FnOk P w K mg base CX0 7 f fd ["sheet"] spRough := by
  refine F.F.ok scRs (fun vs H Q E h => ?_) (fun cdv A outer s H vs Q E hr h => ?_)
  · obtain ⟨a, n, r, u, rfl, _⟩ := h; rfl
  · obtain ⟨a, n, r, u, rfl, hsh, rr, ru, hn, k⟩ := h
    have hu := hu_of hr
    refine ⟨_, pss_cons (ps_set (i := 1) scRs.nd rfl (Or.inl rfl) pe_dnewK)
      (pss_cons (ps_for PassesOwn.never rfl (pi_list (pe_call GC hr rfl FC.m FC.F.kp FC.b .nil pass0 (pa_cons (pv 0) pa_nil))) (pg_name (i := 2) scRs.nd rfl (Or.inl rfl))
        (pss_one (ps_if (pt_cmpR op_gt (pe_callB call_len_seq rfl T.len PySem.boot_len (pa_cons (pv 2) pa_nil)) pe_int (nomark _))
          (pss_one (ps_for PassesOwn.never rfl (pi_list (pv 2)) (pg_name (i := 3) scRs.nd rfl (Or.inl rfl))
            (pss_one (ps_dput hu (pv 1) (pv 3) (pe_ix ix_list (pv 2) pe_int (fun _ _ => rfl)) rfl)))) pss_nil)))
      (pss_one (ps_ret (pv 1)))), ?_⟩
    intro d hd
    have s0 : Same H (upd H d (.dK [])) := same_upd (Same.refl H) hd
    have rl := later_row rr ru
    refine ⟨_, rfl, a, n, r, u, rfl, hsh.same s0, rr, ru, hn, fun H1 l as s1 fl hl fr hL => ?_⟩
    have e1 : H1 d = some (.dK []) := s1 _ _ upd_same
    have hlen := hL.len
    have hnd := roughs_nd rl
    have hrl := roughs_len rl
    have ndl : l ≠ d := fun e => by rw [e, upd_same] at fl; cases fl
    refine ⟨l, rfl, ⟨_, SqL.of hl⟩, for_list (K := K) (a := l) (xs := rv as) (fun i σ H2 => ∃ o2 o3 kvs, σ = [some (.ref a), some (.ref d), o2, o3] ∧ (∀ b o, b ≠ d → H1 b = some o → H2 b = some o) ∧ H2 d = some (.dK kvs) ∧ kvs.map (·.1) = ((((rounds n (later r u)).take i).filter fun M => decide (1 < M.length)).flatten).map ik) ⟨_, _, [], rfl, fun _ _ _ h => h, e1, rfl⟩ (fun i σ H2 _ ⟨_, _, _, _, s2, _⟩ => SqL.of (s2 _ _ ndl hl)) ?_ ?_⟩
    · rintro i x σ H2 hx ⟨o2, o3, kvs, rfl, s2, h2d, hk⟩
      have hi : i < as.length := by
        have := (List.getElem?_eq_some_iff.mp hx).1
        rwa [rv_len] at this
      have ha : as[i]? = some as[i] := List.getElem?_eq_getElem hi
      generalize as[i] = b at ha
      rw [rv_get ha] at hx
      cases hx
      obtain ⟨M, hM, hB⟩ := hL.get ha
      have nbd : b ≠ d := fun e => by
        have := fr b (List.mem_of_getElem? ha)
        rw [e, upd_same] at this; cases this
      have hB2 := s2 _ _ nbd hB
      have hfl : (((rounds n (later r u)).take (i + 1)).filter fun M => decide (1 < M.length)).flatten = ((((rounds n (later r u)).take i).filter fun M => decide (1 < M.length)).flatten) ++ (if 1 < M.length then M else []) := by
        rw [List.take_add_one, hM, List.filter_append, List.flatten_append]
        congr 1
        by_cases c : 1 < M.length
        · simp [c]
        · simp [c]
      have hsplit : roughs n (later r u) = ((((rounds n (later r u)).take (i + 1)).filter fun M => decide (1 < M.length)).flatten) ++ ((((rounds n (later r u)).drop (i + 1)).filter fun M => decide (1 < M.length)).flatten) := by
        unfold roughs
        rw [← List.flatten_append, ← List.filter_append, List.take_append_drop]
      refine ⟨_, rfl, b, _, rfl, .inl (SqL.of hB2), _, _, rfl, rfl, _, rfl, ?_⟩
      rw [nv_len]
      refine ite2 (fun hgt => ?_) (fun hle => ?_)
      · have hgt : (1 : Int) < (M.length : Int) := of_decide_eq_true hgt
        have hgt' : 1 < M.length := by omega
        rw [if_pos hgt'] at hfl
        generalize hFe : (((rounds n (later r u)).take i).filter fun M => decide (1 < M.length)).flatten = Fl at hk hfl
        rw [hfl] at hsplit
        have hnd2 : (Fl ++ M).Nodup := by rw [hsplit] at hnd; exact (List.nodup_append.mp hnd).1
        have hlen2 : Fl.length + M.length ≤ 36 := by
          have := congrArg List.length hsplit
          rw [List.length_append, List.length_append] at this
          omega
        have h0 : M[0]? = some (M[0]'(by omega)) := List.getElem?_eq_getElem (by omega)
        refine ⟨_, rfl, b, rfl, ⟨_, SqL.of hB2⟩, for_list (K := K) (a := b) (xs := nv M) (fun j σ H3 => ∃ o3 kvs, σ = [some (.ref a), some (.ref d), some (.ref b), o3] ∧ (∀ b o, b ≠ d → H1 b = some o → H3 b = some o) ∧ H3 d = some (.dK kvs) ∧ kvs.map (·.1) = (Fl ++ M.take j).map ik) ⟨_, kvs, rfl, s2, h2d, by rw [List.take_zero, List.append_nil]; exact hk⟩ (fun j σ H3 _ ⟨_, _, _, s3, _⟩ => SqL.of (s3 _ _ nbd hB)) ?_ ?_⟩
        · rintro j v σ H3 hv ⟨o3, kvs3, rfl, s3, h3d, hk3⟩
          obtain ⟨y, hy, rfl⟩ := nv_get' hv
          have hj : j < M.length := (List.getElem?_eq_some_iff.mp hy).1
          have hB3 := s3 _ _ nbd hB
          have hmt : M.take (j + 1) = M.take j ++ [y] := by rw [List.take_add_one, hy]; rfl
          have hny : y ∉ Fl ++ M.take j := by
            have e : Fl ++ M = (Fl ++ M.take j) ++ (y :: M.drop (j + 1)) := by
              rw [List.append_assoc]
              congr 1
              have e1 : y = M[j] := by rw [List.getElem?_eq_getElem hj] at hy; exact (Option.some.inj hy).symm
              rw [e1, ← List.drop_eq_getElem_cons hj, List.take_append_drop]
            rw [e] at hnd2
            exact fun z => (List.nodup_append.mp hnd2).2.2 y z y (by simp) rfl
          have hvn := val_none hk3 hny
          have hkl : kvs3.length = (Fl ++ M.take j).length := by simpa using congrArg List.length hk3
          have hkl2 : (Fl ++ M.take j).length ≤ 36 := by rw [List.length_append, List.length_take]; omega
          refine ⟨_, rfl, b, _, 0, _, rfl, rfl, SqL.of hB3, atI_nat (j := 0) (nv_get h0), _, rfl, _, rfl, d, _, rfl, DPut.k (k := ik y) h3d (by rw [hkl]; exact small1000 (by omega)), ?_⟩
          rw [putK_new _ hvn]
          refine ⟨_, _, rfl, fun c o hc ho => by rw [upd_ne hc]; exact s3 c o hc ho, upd_same, ?_⟩
          rw [List.map_append, hk3, hmt]
          simp
        · rintro σ H3 ⟨o3, kvs3, rfl, s3, h3d, hk3⟩
          rw [nv_len, List.take_length] at hk3
          exact ⟨_, _, _, rfl, s3, h3d, by rw [hfl]; exact hk3⟩
      · have hle : ¬ (1 : Int) < (M.length : Int) := fun z => hle (decide_eq_true z)
        rw [if_neg (by omega), List.append_nil] at hfl
        exact ⟨_, _, kvs, rfl, s2, h2d, by rw [hfl]; exact hk⟩
    · rintro σ H2 ⟨o2, o3, kvs, rfl, s2, h2d, hk⟩
      rw [rv_len, hlen, List.take_length] at hk
      exact ⟨_, rfl, k H2 d kvs (fun b o ho => s2 _ _ (fun e => by rw [e, hd] at ho; cases ho) (s1 _ _ (s0 _ _ ho))) hd h2d hk⟩
theorem scBo : FnScope ["sheet", "rough"] ["sheet"] (defScope sBorders) := ⟨rfl, rfl, rfl, by decide +kernel, rfl, by decide +kernel, by decide +kernel⟩
theorem ok_borders {f fc : Addr} {fd fdc : FuncData} (T : Bi mg) (F : Fn K mg "borders" sBorders ["sheet"] f fd) (FC : Fn K mg "rough_squares" sRoughSquares ["sheet"] fc fdc) (GC : FnOk P w K mg base CX0 7 fc fdc ["sheet"] spRough) :
    FnOk P w K mg base CX0 8 f fd ["sheet"] spBorders := by
  refine F.F.ok scBo (fun vs H Q E h => ?_) (fun cdv A outer s H vs Q E hr h => ?_)
  · obtain ⟨a, n, r, u, rfl, _⟩ := h; rfl
  · obtain ⟨a, n, r, u, rfl, hsh, rr, ru, hn, k⟩ := h
    refine ⟨_, pss_cons (ps_set (i := 1) scBo.nd rfl (Or.inl rfl) (pe_call GC hr rfl FC.m FC.F.kp FC.b .nil pass0 (pa_cons (pv 0) pa_nil)))
      (pss_cons (ps_if (pt_cmpR op_eq (pe_callB call_lenD rfl T.len PySem.boot_len (pa_cons (pv 1) pa_nil)) pe_int (nomark _)) (pss_one (ps_ret (pe_lst (pa_cons pe_int pa_nil)))) pss_nil)
      (pss_one (ps_ret (pe_callB (call_sorted rfl) rfl T.sorted boot_sorted (pa_cons (pv 1) pa_nil))))), ?_⟩
    have rl := later_row rr ru
    have hp := roughs_perm rl
    have hrl := roughs_len rl
    refine ⟨_, rfl, a, n, r, u, rfl, hsh, rr, ru, hn, fun H1 d kvs s1 fd' hd hk => ?_⟩
    have hkl : kvs.length = (roughs n (later r u)).length := by simpa using congrArg List.length hk
    refine ⟨_, rfl, d, _, rfl, hd, rfl, _, rfl, ?_⟩
    refine ite2 (fun h0 => ?_) (fun h0 => ?_)
    · have h0 := V.int.inj (of_decide_eq_true h0)
      have e : notPlain n (later r u) = [] := List.length_eq_zero_iff.mp (by rw [← hp.length_eq]; omega)
      refine ⟨by show 1 ≤ sizeLine; decide, fun l hl => k _ l (same_upd s1 (s1.free hl)) (s1.free hl) ?_⟩
      unfold bord
      rw [if_pos e, upd_same]; rfl
    · have h0 : ¬ (V.int (kvs.length : Int) = V.int 0) := fun z => h0 (decide_eq_true z)
      have e : ¬ notPlain n (later r u) = [] := fun z => h0 (by
        have := hp.length_eq
        rw [z, List.length_nil] at this
        congr 1; omega)
      refine ⟨_, rfl, d, _, rfl, .inr (.inr ⟨kvs, hd, hk⟩), by omega, fun l S hl pS sS => ?_⟩
      have eS : S = notPlain n (later r u) := sorted_unique (pS.trans hp) sS notPlain_sorted
      subst eS
      refine k _ l (same_upd s1 (s1.free hl)) (s1.free hl) ?_
      unfold bord
      rw [if_neg e, upd_same]
end
end K1
namespace K1
open PySem L2 Sq
theorem unitsD {A : Around} {k : Nat} (hr : Room k A) {d e : PyData} (h : d.depth ≤ 64) : A.units + min d.depth e.depth < cLine :=
  Nat.lt_of_le_of_lt (Nat.add_le_add_left (Nat.le_trans (Nat.min_le_left _ _) h) _) hr.units
end K1
namespace Sq
def shear (n : Nat) (u v : List Nat) (c : Nat) : List Nat := (List.range n).map fun k => nx u (it v k c)
theorem shear_nx {n : Nat} {u v : List Nat} {c k : Nat} (hk : k < n) : nx (shear n u v c) k = nx u (it v k c) := by
  have : (List.range n)[k]? = some k := by simp [hk]
  exact nx_map this
theorem it_inj {n : Nat} {v : List Nat} (rv : Row n v) : ∀ c {i j : Nat}, i < n → j < n → it v i c = it v j c → i = j
  | 0, _, _, _, _, h => h
  | c + 1, _, _, hi, hj, h => it_inj rv c hi hj (rv.inj (it_lt rv hi c) (it_lt rv hj c) h)
theorem shear_row {n : Nat} {u v : List Nat} (ru : Row n u) (rv : Row n v) (c : Nat) : Row n (shear n u v c) := by
  refine row_of (by simp [shear]) (fun i hi => ?_) (fun i j hi hj h => ?_)
  · rw [shear_nx hi]; exact ru.nlt (it_lt rv hi c)
  · rw [shear_nx hi, shear_nx hj] at h
    exact it_inj rv c hi hj (ru.inj (it_lt rv hi c) (it_lt rv hj c) h)
section
variable {n : Nat} {r u v E : List Nat} {x0 : Nat}
theorem it_step' (w : List Nat) (x : Nat) : ∀ j, it w x (j + 1) = it w (nx w x) j
  | 0 => rfl
  | j + 1 => congrArg (nx w) (it_step' w x j)
theorem it_comm1 {a b : List Nat} {n : Nat} (ra : Row n a) (rb : Row n b) (h : ∀ x, x < n → nx a (nx b x) = nx b (nx a x)) : ∀ c x, x < n → nx a (it b x c) = it b (nx a x) c
  | 0, _, _ => rfl
  | c + 1, x, hx => by
    show nx a (nx b (it b x c)) = nx b (it b (nx a x) c)
    rw [h _ (it_lt rb hx c), it_comm1 ra rb h c x hx]
theorem back_comm (rr : Row n r) : ∀ x, x < n → nx r (nx (back r) x) = nx (back r) (nx r x) := fun x hx => by rw [nx_back' rr hx, nx_back rr hx]
/-- the corners of the sheared sheet are the old ones -/
theorem shear_later (rr : Row n r) (ru : Row n u) (rv : Row n v) (hv : ∀ x, x < n → nx r (nx v x) = nx v (nx r x)) (c : Nat) {k : Nat} (hk : k < n) :
    nx (shear n u v c) (nx r (nx (back (shear n u v c)) (nx (back r) k))) = nx u (nx r (nx (back u) (nx (back r) k))) := by
  have rs := shear_row ru rv c
  have h1 := rr.back.nlt hk
  have h2 := rs.back.nlt h1
  have e1 := nx_back' rs h1
  rw [shear_nx h2] at e1
  have h3 := it_lt rv h2 c
  have e2 : it v (nx (back (shear n u v c)) (nx (back r) k)) c = nx (back u) (nx (back r) k) := by
    have := congrArg (nx (back u)) e1
    rwa [nx_back ru h3] at this
  rw [shear_nx (rr.nlt h2), ← it_comm1 rr rv hv c _ h2, e2]
theorem per_mul (rr : Row n r) (hx0 : x0 < n) : ∀ q, it r x0 (per n r x0 * q) = x0
  | 0 => rfl
  | q + 1 => by rw [Nat.mul_succ, it_add, per_mul rr hx0 q, (per_is rr hx0).1]
theorem it_mod (rr : Row n r) (hx0 : x0 < n) (j : Nat) : it r x0 (j % per n r x0) = it r x0 j := by
  conv => rhs; rw [← Nat.div_add_mod j (per n r x0), it_add, per_mul rr hx0]
theorem cyc_mul (rr : Row n r) (hx0 : x0 < n) {x : Nat} (hx : x ∈ cyc n r x0) (q : Nat) : it r x (per n r x0 * q) = x := by
  obtain ⟨i, hi, rfl⟩ := mem_it rr hx
  rw [← it_add, Nat.add_comm, it_add, per_mul rr hx0]
theorem cyc_shut (rr : Row n r) (hx0 : x0 < n) {x : Nat} (hx : x ∈ cyc n r x0) : ∀ j, it r x j ∈ cyc n r x0 := fun j => by
  obtain ⟨i, hi, rfl⟩ := mem_it rr hx
  rw [← it_add]; exact it_mem rr hx0 _
theorem wid_uniq (ru : Row n u) {S : List Nat} {w : Nat} (h1 : hits E (ups u S w) = true) (h2 : ∀ i, 1 ≤ i → i < w → hits E (ups u S i) = false) (h3 : 1 ≤ w) (h4 : w ≤ n) : wid n u E S = w := by
  have : (List.range n).find? (fun k => hits E (ups u S (k + 1))) = some (w - 1) := by
    rw [List.find?_range_eq_some]
    refine ⟨by rw [show w - 1 + 1 = w from by omega]; exact h1, List.mem_range.mpr (by omega), fun j hj => ?_⟩
    rw [h2 (j + 1) (by omega) (by omega)]; rfl
  unfold wid
  rw [this]
  show w - 1 + 1 = w
  omega
/-- v moves the squares of a row by e -/
structure Moves (n : Nat) (r u v E : List Nat) (x0 c e w : Nat) : Prop where
  mv : ∀ x ∈ cyc n r x0, it v x c = it r x e
  cm : ∀ j, j < w → ∀ x ∈ cyc n r x0, it v (it u x j) c = it u (it v x c) j
theorem moves_back (rr : Row n r) (ru : Row n u) (hx0 : x0 < n) (un : ∀ k, k < n → k ∉ E → nx u (nx r (nx (back u) (nx (back r) k))) = k)
    {w : Nat} (hw : ∀ i, 1 ≤ i → i < w → hits E (ups u (cyc n r x0) i) = false) (c : Nat) : Moves n r u (back r) E x0 c (c * (per n r x0 - 1)) w := by
  have hp : 1 ≤ per n r x0 := by unfold per; omega
  have hlt : ∀ y ∈ cyc n r x0, y < n := fun y hy => cyc_lt rr hx0 hy
  have one : ∀ x ∈ cyc n r x0, nx (back r) x = it r x (per n r x0 - 1) := fun x hx => by
    have h1 := cyc_mul rr hx0 hx 1
    rw [Nat.mul_one] at h1
    have h2 : nx r (it r x (per n r x0 - 1)) = x := by
      have : it r x (per n r x0 - 1 + 1) = x := by rw [show per n r x0 - 1 + 1 = per n r x0 from by omega]; exact h1
      exact this
    have := congrArg (nx (back r)) h2
    rw [nx_back rr (it_lt rr (hlt x hx) _)] at this
    exact this.symm
  have bs : ∀ x ∈ cyc n r x0, nx (back r) x ∈ cyc n r x0 := fun x hx => by rw [one x hx]; exact cyc_shut rr hx0 hx _
  have bsc : ∀ c, ∀ x ∈ cyc n r x0, it (back r) x c ∈ cyc n r x0 := fun c => by
    induction c with
    | zero => exact fun x hx => hx
    | succ c ih => exact fun x hx => bs _ (ih x hx)
  have one' : ∀ j, j < w → ∀ x ∈ cyc n r x0, nx (back r) (it u x j) = it u (nx (back r) x) j := fun j hj x hx => by
    have h1 := comm rr ru hlt (fun y hy => cyc_shut rr hx0 hy 1) un hw j hj 1 _ (bs x hx)
    have h2 : it r (nx (back r) x) 1 = x := nx_back' rr (hlt x hx)
    rw [h2] at h1
    have := congrArg (nx (back r)) h1
    rw [this]
    exact nx_back rr (it_lt ru (hlt _ (bs x hx)) j)
  constructor
  · intro x hx
    induction c with
    | zero => rw [Nat.zero_mul]; rfl
    | succ c ih =>
      show nx (back r) (it (back r) x c) = _
      rw [one _ (bsc c x hx), ih, ← it_add, Nat.succ_mul]
  · intro j hj x hx
    induction c with
    | zero => rfl
    | succ c ih =>
      show nx (back r) (it (back r) (it u x j) c) = it u (nx (back r) (it (back r) x c)) j
      rw [ih, one' j hj _ (bsc c x hx)]
theorem shear_it (rr : Row n r) (ru : Row n u) (rv : Row n v) (hx0 : x0 < n) {c e w : Nat} (m : Moves n r u v E x0 c e w) :
    ∀ j, j ≤ w → ∀ x ∈ cyc n r x0, it (shear n u v c) x j = it u (it r x (e * j)) j
  | 0, _, x, _ => by rw [Nat.mul_zero]; rfl
  | j + 1, hj, x, hx => by
    have hs := cyc_shut rr hx0 hx (e * j)
    show nx (shear n u v c) (it (shear n u v c) x j) = _
    rw [shear_it rr ru rv hx0 m j (by omega) x hx, shear_nx (it_lt ru (cyc_lt rr hx0 hs) j), m.cm j (by omega) _ hs, m.mv _ hs, ← it_add, Nat.mul_succ]
    rfl
theorem shear_hits (rr : Row n r) (ru : Row n u) (rv : Row n v) (hx0 : x0 < n) {c e w : Nat} (m : Moves n r u v E x0 c e w) {j : Nat} (hj : j ≤ w) :
    hits E (ups (shear n u v c) (cyc n r x0) j) = hits E (ups u (cyc n r x0) j) := by
  have hp : 1 ≤ per n r x0 := by unfold per; omega
  apply Bool.eq_iff_iff.mpr
  unfold hits ups
  rw [List.any_eq_true, List.any_eq_true]
  constructor
  · rintro ⟨y, hy, h⟩
    obtain ⟨x, hx, rfl⟩ := List.mem_map.mp hy
    exact ⟨_, List.mem_map.mpr ⟨it r x (e * j), cyc_shut rr hx0 hx _, (shear_it rr ru rv hx0 m j hj x hx).symm⟩, h⟩
  · rintro ⟨y, hy, h⟩
    obtain ⟨x, hx, rfl⟩ := List.mem_map.mp hy
    have hs := cyc_shut rr hx0 hx ((e * j) * (per n r x0 - 1))
    refine ⟨_, List.mem_map.mpr ⟨it r x ((e * j) * (per n r x0 - 1)), hs, ?_⟩, h⟩
    rw [shear_it rr ru rv hx0 m j hj _ hs, ← it_add]
    have : e * j * (per n r x0 - 1) + e * j = per n r x0 * (e * j) := by
      obtain ⟨q, hq⟩ : ∃ q, per n r x0 = q + 1 := ⟨per n r x0 - 1, by omega⟩
      rw [hq, Nat.add_sub_cancel, Nat.add_mul, Nat.one_mul, Nat.mul_comm]
    rw [this, cyc_mul rr hx0 hx]
theorem shear_wid (rr : Row n r) (ru : Row n u) (rv : Row n v) (hx0 : x0 < n) {c e : Nat} (h : hits E (cyc n r x0) = true) (m : Moves n r u v E x0 c e (wid n u E (cyc n r x0))) :
    wid n (shear n u v c) E (cyc n r x0) = wid n u E (cyc n r x0) := by
  obtain ⟨h1, h2, h3, h4⟩ := wid_is ru (fun y hy => cyc_lt rr hx0 hy) h
  refine wid_uniq (shear_row ru rv c) ?_ (fun i hi hlt => ?_) h3 h4
  · rw [shear_hits rr ru rv hx0 m (Nat.le_refl _)]; exact h1
  · rw [shear_hits rr ru rv hx0 m (Nat.le_of_lt hlt)]; exact h2 i hi hlt
theorem shear_shifted (rr : Row n r) (ru : Row n u) (rv : Row n v) (hx0 : x0 < n) {c e w : Nat} (m : Moves n r u v E x0 c e w) (q : Nat) :
    shifted E (cyc n r x0) (ups (shear n u v c) (cyc n r x0) w) q = shifted E (cyc n r x0) (ups u (cyc n r x0) w) ((q + e * w) % (cyc n r x0).length) := by
  have hp : 1 ≤ per n r x0 := by unfold per; omega
  have hc := cyc_is rr hx0
  have key : ∀ k, nx (ups (shear n u v c) (cyc n r x0) w) ((k + q) % per n r x0) = nx (ups u (cyc n r x0) w) ((k + (q + e * w) % per n r x0) % per n r x0) := fun k => by
    have g : ∀ j, (cyc n r x0)[j % per n r x0]? = some (it r x0 (j % per n r x0)) := fun j => hc.get (by rw [cyc_len]; exact Nat.mod_lt _ hp)
    unfold ups
    rw [nx_map (g _), nx_map (g _), shear_it rr ru rv hx0 m w (Nat.le_refl _) _ (it_mem rr hx0 _), it_mod rr hx0, it_mod rr hx0, ← it_add]
    congr 1
    rw [← it_mod rr hx0 (k + (q + e * w) % per n r x0), Nat.add_mod_mod, it_mod rr hx0, Nat.add_assoc]
  unfold shifted
  rw [cyc_len]
  congr 1
  funext k
  rw [key k]
end
end Sq
namespace Sq
section
variable {n : Nat} {r u r' u' f E E' : List Nat}
/-- f leads w to w' -/
def Lds (n : Nat) (w w' f : List Nat) : Prop := ∀ x, x < n → nx w' (nx f x) = nx f (nx w x)
theorem Lds.it (rw' : Row n r) (h : Lds n r r' f) {x : Nat} (hx : x < n) : ∀ j, it r' (nx f x) j = nx f (it r x j)
  | 0 => rfl
  | j + 1 => by
    show nx r' (Sq.it r' (nx f x) j) = nx f (nx r (Sq.it r x j))
    rw [Lds.it rw' h hx j, h _ (it_lt rw' hx j)]
theorem cyc_lds (rr : Row n r) (rr' : Row n r') (rf : Row n f) (h : Lds n r r' f) {x : Nat} (hx : x < n) : cyc n r' (nx f x) = (cyc n r x).map (nx f) := by
  refine (Cyc.eq rr' (rf.nlt hx) ?_).symm
  have c := cyc_is rr hx
  have hl : ((cyc n r x).map (nx f)).length = per n r x := by rw [List.length_map, cyc_len]
  have hp := per_is rr hx
  constructor
  · rw [List.length_map]; exact c.pos
  · rw [hl]
    unfold cyc
    rw [List.map_map]
    exact List.map_congr_left fun j _ => (h.it rr hx j).symm
  · rw [hl, h.it rr hx, hp.1]
  · intro i h1 h2
    rw [hl] at h2
    rw [h.it rr hx]
    exact fun e => hp.2 i h1 h2 (rf.inj (it_lt rr hx i) hx e)
theorem ups_lds (ru : Row n u) (h : Lds n u u' f) {S : List Nat} (lt : ∀ x ∈ S, x < n) (j : Nat) : ups u' (S.map (nx f)) j = (ups u S j).map (nx f) := by
  unfold ups
  rw [List.map_map, List.map_map]
  exact List.map_congr_left fun x hx => h.it ru (lt x hx) j
theorem hits_lds (hE : ∀ x, x < n → (nx f x ∈ E' ↔ x ∈ E)) {S : List Nat} (lt : ∀ x ∈ S, x < n) : hits E' (S.map (nx f)) = hits E S := by
  unfold hits
  rw [List.any_map]
  apply Bool.eq_iff_iff.mpr
  rw [List.any_eq_true, List.any_eq_true]
  constructor
  · rintro ⟨x, hx, e⟩
    exact ⟨x, hx, decide_eq_true ((hE x (lt x hx)).mp (of_decide_eq_true e))⟩
  · rintro ⟨x, hx, e⟩
    exact ⟨x, hx, decide_eq_true ((hE x (lt x hx)).mpr (of_decide_eq_true e))⟩
theorem nx_mapf {S : List Nat} {k : Nat} (hk : k < S.length) : nx (S.map (nx f)) k = nx f (nx S k) := by
  have : S[k]? = some (nx S k) := by
    show S[k]? = some (S.getD k 0)
    rw [List.getD_eq_getElem?_getD, List.getElem?_eq_getElem hk]; rfl
  exact nx_map this
theorem nx_in {S : List Nat} {k : Nat} (hk : k < S.length) : nx S k ∈ S := by
  have : S[k]? = some (nx S k) := by
    show S[k]? = some (S.getD k 0)
    rw [List.getD_eq_getElem?_getD, List.getElem?_eq_getElem hk]; rfl
  exact List.mem_of_getElem? this
theorem shifted_lds (hE : ∀ x, x < n → (nx f x ∈ E' ↔ x ∈ E)) {S W : List Nat} (lt : ∀ x ∈ S, x < n) (ltW : ∀ x ∈ W, x < n) (hl : W.length = S.length) (t : Nat) : shifted E' (S.map (nx f)) (W.map (nx f)) t = shifted E S W t := by
  unfold shifted
  rw [List.length_map]
  have key : ∀ k, k < S.length → (decide (nx (S.map (nx f)) k ∈ E') && decide (nx (W.map (nx f)) ((k + t) % S.length) ∈ E')) = (decide (nx S k ∈ E) && decide (nx W ((k + t) % S.length) ∈ E)) := fun k hk => by
    have hj : (k + t) % S.length < W.length := by rw [hl]; exact Nat.mod_lt _ (by omega)
    rw [nx_mapf hk, nx_mapf hj]
    have e1 : decide (nx f (nx S k) ∈ E') = decide (nx S k ∈ E) := by rw [decide_eq_decide]; exact hE _ (lt _ (nx_in hk))
    have e2 : decide (nx f (nx W ((k + t) % S.length)) ∈ E') = decide (nx W ((k + t) % S.length) ∈ E) := by rw [decide_eq_decide]; exact hE _ (ltW _ (nx_in hj))
    rw [e1, e2]
  apply Bool.eq_iff_iff.mpr
  rw [List.any_eq_true, List.any_eq_true]
  constructor
  · rintro ⟨k, hk, e⟩
    exact ⟨k, hk, by rw [← key k (List.mem_range.mp hk)]; exact e⟩
  · rintro ⟨k, hk, e⟩
    exact ⟨k, hk, by rw [key k (List.mem_range.mp hk)]; exact e⟩
/-- a band keeps its numbers -/
theorem band_lds (rr : Row n r) (rr' : Row n r') (ru : Row n u) (rf : Row n f) (h : Lds n r r' f) (h' : Lds n u u' f) (hE : ∀ x, x < n → (nx f x ∈ E' ↔ x ∈ E)) {x : Nat} (hx : x < n) :
    bandOf n u' E' (cyc n r' (nx f x)) = bandOf n u E (cyc n r x) := by
  have lt : ∀ y ∈ cyc n r x, y < n := fun y hy => cyc_lt rr hx hy
  rw [cyc_lds rr rr' rf h hx]
  generalize cyc n r x = S at lt
  have hw : wid n u' E' (S.map (nx f)) = wid n u E S := by
    unfold wid
    congr 2
    congr 1
    funext k
    rw [ups_lds ru h' lt, hits_lds hE (ups_lt ru lt _)]
  unfold bandOf
  rw [hw, List.length_map, ups_lds ru h' lt]
  congr 2
  unfold shifts
  rw [List.length_map]
  congr 1
  funext t
  exact shifted_lds hE lt (ups_lt ru lt _) (ups_len _ _ _) t
/-- the same row, begun elsewhere -/
theorem cyc_same (rr : Row n r) {x y : Nat} (hx : x < n) (h : y ∈ cyc n r x) : ∀ z, z ∈ cyc n r y ↔ z ∈ cyc n r x := fun z =>
  ⟨fun hz => cyc_trans rr hx h hz, fun hz => cyc_trans rr (cyc_lt rr hx h) (cyc_symm rr hx h) hz⟩
theorem per_same (rr : Row n r) {x y : Nat} (hx : x < n) (h : y ∈ cyc n r x) : (cyc n r y).length = (cyc n r x).length := by
  have hy := cyc_lt rr hx h
  have n1 := (cyc_is rr hx).nd rr hx
  have n2 := (cyc_is rr hy).nd rr hy
  exact ((List.perm_ext_iff_of_nodup n2 n1).mpr (cyc_same rr hx h)).length_eq
theorem hits_mem {S T : List Nat} (h : ∀ z, z ∈ S ↔ z ∈ T) : hits E S = hits E T := by
  unfold hits
  apply Bool.eq_iff_iff.mpr
  rw [List.any_eq_true, List.any_eq_true]
  exact ⟨fun ⟨x, hx, e⟩ => ⟨x, (h x).mp hx, e⟩, fun ⟨x, hx, e⟩ => ⟨x, (h x).mpr hx, e⟩⟩
theorem ups_mem {S T : List Nat} (h : ∀ z, z ∈ S ↔ z ∈ T) (j : Nat) : ∀ z, z ∈ ups u S j ↔ z ∈ ups u T j := fun z => by
  unfold ups
  rw [List.mem_map, List.mem_map]
  exact ⟨fun ⟨x, hx, e⟩ => ⟨x, (h x).mp hx, e⟩, fun ⟨x, hx, e⟩ => ⟨x, (h x).mpr hx, e⟩⟩
theorem band_same (rr : Row n r) (ru : Row n u) (un : ∀ k, k < n → k ∉ E → nx u (nx r (nx (back u) (nx (back r) k))) = k) {x y : Nat} (hx : x < n) (h : y ∈ cyc n r x) (hh : hits E (cyc n r x) = true) :
    bandOf n u E (cyc n r y) = bandOf n u E (cyc n r x) := by
  have hy := cyc_lt rr hx h
  have hm := cyc_same rr hx h
  have hl := per_same rr hx h
  have hh' : hits E (cyc n r y) = true := by rw [hits_mem hm]; exact hh
  have hw : wid n u E (cyc n r y) = wid n u E (cyc n r x) := by
    unfold wid
    congr 2
    congr 1
    funext k
    exact hits_mem (ups_mem hm _)
  have hs : ∀ t, shifted E (cyc n r y) (ups u (cyc n r y) (wid n u E (cyc n r y))) t = shifted E (cyc n r x) (ups u (cyc n r x) (wid n u E (cyc n r x))) t := fun t => by
    rw [shifted_eq rr ru hy un hh' t, shifted_eq rr ru hx un hh t, hw]
    apply Bool.eq_iff_iff.mpr
    rw [List.any_eq_true, List.any_eq_true]
    exact ⟨fun ⟨x, hx, e⟩ => ⟨x, (hm x).mp hx, e⟩, fun ⟨x, hx, e⟩ => ⟨x, (hm x).mpr hx, e⟩⟩
  show ((cyc n r y).length, wid n u E (cyc n r y), shifts E (cyc n r y) (ups u (cyc n r y) (wid n u E (cyc n r y)))) = ((cyc n r x).length, wid n u E (cyc n r x), shifts E (cyc n r x) (ups u (cyc n r x) (wid n u E (cyc n r x))))
  have e3 : shifts E (cyc n r y) (ups u (cyc n r y) (wid n u E (cyc n r y))) = shifts E (cyc n r x) (ups u (cyc n r x) (wid n u E (cyc n r x))) := by
    unfold shifts
    rw [hl]
    congr 1
    funext t
    exact hs t
  rw [e3, hl, hw]
theorem bandsOf_leads : bandsOf n r u E = ((List.range n).filter fun x => lead n r x && hits E (cyc n r x)).map fun x => bandOf n u E (cyc n r x) := by
  unfold bandsOf rounds
  rw [List.filter_map, List.map_map, List.filter_filter]
  congr 1
  congr 1
  funext x
  exact Bool.and_comm _ _
open Classical in
noncomputable def ldo (n : Nat) (w : List Nat) (x : Nat) : Nat := if h : ∃ l, l < n ∧ lead n w l = true ∧ x ∈ cyc n w l then choose h else 0
theorem ldo_is (rr : Row n r) {x : Nat} (hx : x < n) : ldo n r x < n ∧ lead n r (ldo n r x) = true ∧ x ∈ cyc n r (ldo n r x) := by
  have h := has_lead rr hx
  unfold ldo
  rw [dif_pos h]
  exact Classical.choose_spec h
/-- the bands of a sheet under other numbers: the same -/
theorem bands_lds (rr : Row n r) (rr' : Row n r') (ru : Row n u) (ru' : Row n u') (rf : Row n f) (h : Lds n r r' f) (h' : Lds n u u' f) (hE : ∀ x, x < n → (nx f x ∈ E' ↔ x ∈ E))
    (un' : ∀ k, k < n → k ∉ E' → nx u' (nx r' (nx (back u') (nx (back r') k))) = k) : (bandsOf n r' u' E').Perm (bandsOf n r u E) := by
  rw [bandsOf_leads, bandsOf_leads]
  have hhit : ∀ x, x < n → hits E' (cyc n r' (nx f x)) = hits E (cyc n r x) := fun x hx => by
    rw [cyc_lds rr rr' rf h hx]; exact hits_lds hE fun y hy => cyc_lt rr hx hy
  have hmem : ∀ x y, x < n → y < n → (nx f y ∈ cyc n r' (nx f x) ↔ y ∈ cyc n r x) := fun x y hx hy => by
    rw [cyc_lds rr rr' rf h hx, List.mem_map]
    constructor
    · rintro ⟨z, hz, e⟩
      rw [← rf.inj (cyc_lt rr hx hz) hy e]; exact hz
    · intro hy'; exact ⟨y, hy', rfl⟩
  have hA : ∀ x, x ∈ (List.range n).filter (fun x => lead n r x && hits E (cyc n r x)) ↔ x < n ∧ lead n r x = true ∧ hits E (cyc n r x) = true := fun x => by
    rw [List.mem_filter, List.mem_range, Bool.and_eq_true]
  have hA' : ∀ x, x ∈ (List.range n).filter (fun x => lead n r' x && hits E' (cyc n r' x)) ↔ x < n ∧ lead n r' x = true ∧ hits E' (cyc n r' x) = true := fun x => by
    rw [List.mem_filter, List.mem_range, Bool.and_eq_true]
  have hφ : ∀ x, x < n → ldo n r' (nx f x) < n ∧ lead n r' (ldo n r' (nx f x)) = true ∧ nx f x ∈ cyc n r' (ldo n r' (nx f x)) := fun x hx => ldo_is rr' (rf.nlt hx)
  have nd1 : ((List.range n).filter fun x => lead n r x && hits E (cyc n r x)).Nodup := List.Nodup.sublist List.filter_sublist List.nodup_range
  have nd2 : ((List.range n).filter fun x => lead n r' x && hits E' (cyc n r' x)).Nodup := List.Nodup.sublist List.filter_sublist List.nodup_range
  have hp : (((List.range n).filter fun x => lead n r x && hits E (cyc n r x)).map fun x => ldo n r' (nx f x)).Perm ((List.range n).filter fun x => lead n r' x && hits E' (cyc n r' x)) := by
    refine (List.perm_ext_iff_of_nodup ?_ nd2).mpr fun z => ?_
    · refine List.pairwise_map.mpr (List.Pairwise.imp_of_mem (fun {a b} ha hb hne hab => hne ?_) nd1)
      obtain ⟨a1, a2, a3⟩ := (hA a).mp ha
      obtain ⟨b1, b2, b3⟩ := (hA b).mp hb
      obtain ⟨p1, p2, p3⟩ := hφ a a1
      obtain ⟨q1, q2, q3⟩ := hφ b b1
      rw [hab] at p3
      have : nx f b ∈ cyc n r' (nx f a) := cyc_trans rr' (rf.nlt a1) (cyc_symm rr' q1 p3) q3
      have := (hmem a b a1 b1).mp this
      exact lead_unique rr a1 b1 a2 b2 this (it_mem rr b1 0)
    · rw [List.mem_map, hA']
      constructor
      · rintro ⟨x, hx, rfl⟩
        obtain ⟨a1, a2, a3⟩ := (hA x).mp hx
        obtain ⟨p1, p2, p3⟩ := hφ x a1
        exact ⟨p1, p2, by rw [← hits_mem (cyc_same rr' p1 p3), hhit x a1]; exact a3⟩
      · rintro ⟨z1, z2, z3⟩
        obtain ⟨m, hm, rfl⟩ : ∃ m, m < n ∧ nx f m = z := ⟨nx (back f) z, rf.back.nlt z1, nx_back' rf z1⟩
        obtain ⟨l1, l2, l3⟩ := ldo_is rr hm
        refine ⟨ldo n r m, (hA _).mpr ⟨l1, l2, ?_⟩, ?_⟩
        · rw [← hits_mem (cyc_same rr l1 l3), ← hhit m hm]; exact z3
        · obtain ⟨p1, p2, p3⟩ := hφ _ l1
          have h1 : nx f m ∈ cyc n r' (nx f (ldo n r m)) := (hmem _ _ l1 hm).mpr l3
          exact lead_unique rr' p1 z1 p2 z2 (cyc_trans rr' p1 p3 h1) (it_mem rr' z1 0)
  have e : ((List.range n).filter fun x => lead n r x && hits E (cyc n r x)).map (fun x => bandOf n u E (cyc n r x)) = (((List.range n).filter fun x => lead n r x && hits E (cyc n r x)).map fun x => ldo n r' (nx f x)).map fun x => bandOf n u' E' (cyc n r' x) := by
    rw [List.map_map]
    refine List.map_congr_left fun x hx => ?_
    obtain ⟨a1, a2, a3⟩ := (hA x).mp hx
    obtain ⟨p1, p2, p3⟩ := hφ x a1
    show bandOf n u E (cyc n r x) = bandOf n u' E' (cyc n r' (ldo n r' (nx f x)))
    rw [← band_lds rr rr' ru rf h h' hE a1]
    exact band_same rr' ru' un' p1 p3 (by rw [← hits_mem (cyc_same rr' p1 p3), hhit x a1]; exact a3)
  rw [e]
  exact (hp.map _).symm
end
end Sq
namespace Sq
def brd (n : Nat) (w : List Nat) : List Nat := if notPlain n w = [] then [0] else notPlain n w
section
variable {n : Nat} {r u a b a' b' f lt lt' : List Nat}
theorem mem_np {w : List Nat} {k : Nat} : k ∈ notPlain n w ↔ k < n ∧ nx w k ≠ k := by
  unfold notPlain
  rw [List.mem_filter, List.mem_range]
  simp
theorem brd_un {w : List Nat} {k : Nat} (hk : k < n) (h : k ∉ brd n w) : nx w k = k := by
  refine Decidable.byContradiction fun c => h ?_
  have m : k ∈ notPlain n w := mem_np.mpr ⟨hk, c⟩
  unfold brd
  rw [if_neg (List.ne_nil_of_mem m)]
  exact m
theorem plain_one (rr : Row n r) (h1 : 1 ≤ n) : bandsOf n r u [0] = [bandOf n u [0] (cyc n r 0)] := by
  rw [bandsOf_leads]
  have nd : ((List.range n).filter fun x => lead n r x && hits [0] (cyc n r x)).Nodup := List.Nodup.sublist List.filter_sublist List.nodup_range
  have h0 : (0 : Nat) ∈ cyc n r 0 := it_mem rr (by omega) 0
  have hp : ((List.range n).filter fun x => lead n r x && hits [0] (cyc n r x)).Perm [0] := by
    refine (List.perm_ext_iff_of_nodup nd (by simp)).mpr fun x => ?_
    rw [List.mem_filter, List.mem_range, Bool.and_eq_true, List.mem_singleton]
    constructor
    · rintro ⟨hx, hl, hh⟩
      unfold hits at hh
      obtain ⟨y, hy, e⟩ := List.any_eq_true.mp hh
      have e0 : y = 0 := by simpa using of_decide_eq_true e
      subst e0
      exact lead_unique rr hx (by omega) hl lead_zero hy h0
    · rintro rfl
      refine ⟨by omega, lead_zero, ?_⟩
      unfold hits
      exact List.any_eq_true.mpr ⟨0, h0, by simp⟩
  rw [List.perm_singleton.mp hp]
  rfl
theorem plain_comm (ra : Row n a) (rb : Row n b) (hlt : ∀ k, k < n → nx lt k = nx b (nx a (nx (back b) (nx (back a) k)))) (h : notPlain n lt = []) : ∀ x, x < n → nx b (nx a x) = nx a (nx b x) := fun x hx => by
  have hk : nx a (nx b x) < n := ra.nlt (rb.nlt hx)
  have h1 : nx lt (nx a (nx b x)) = nx a (nx b x) := by
    refine Decidable.byContradiction fun c => ?_
    have := mem_np.mpr ⟨hk, c⟩
    rw [h] at this
    cases this
  rw [hlt _ hk, nx_back ra (rb.nlt hx), nx_back rb hx] at h1
  exact h1
theorem plain_homog (s : Sheet n r u) (ra : Row n a) (rb : Row n b) (c1 : Lds n a a r) (c2 : Lds n a a u) (c3 : Lds n b b r) (c4 : Lds n b b u) : ∀ y, y < n → bandOf n b [y] (cyc n a y) = bandOf n b [0] (cyc n a 0) := by
  have one : ∀ {g : List Nat} {x z : Nat}, Row n g → x < n → z < n → (nx g z ∈ [nx g x] ↔ z ∈ [x]) := fun {g x z} rg hx hz => by
    rw [List.mem_singleton, List.mem_singleton]
    exact ⟨fun e => rg.inj hz hx e, fun e => by rw [e]⟩
  refine s.conn (fun y => bandOf n b [y] (cyc n a y) = bandOf n b [0] (cyc n a 0)) rfl fun x hx h => ⟨?_, ?_⟩
  · show bandOf n b [nx r x] (cyc n a (nx r x)) = _
    rw [band_lds ra ra rb s.row c1 c3 (E := [x]) (fun z hz => one s.row hx hz) hx]; exact h
  · show bandOf n b [nx u x] (cyc n a (nx u x)) = _
    rw [band_lds ra ra rb s.col c2 c4 (E := [x]) (fun z hz => one s.col hx hz) hx]; exact h
theorem np_lds (rl : Row n lt) (rf : Row n f) (hl : Lds n lt lt' f) {x : Nat} (hx : x < n) : nx f x ∈ notPlain n lt' ↔ x ∈ notPlain n lt := by
  rw [mem_np, mem_np, hl x hx]
  constructor
  · rintro ⟨_, h⟩; exact ⟨hx, fun e => h (by rw [e])⟩
  · rintro ⟨_, h⟩
    exact ⟨rf.nlt hx, fun e => h (rf.inj (rl.nlt hx) hx e)⟩
theorem np_nil (rl : Row n lt) (rf : Row n f) (hl : Lds n lt lt' f) : notPlain n lt' = [] ↔ notPlain n lt = [] := by
  constructor
  · intro h
    refine List.eq_nil_iff_forall_not_mem.mpr fun x hx => ?_
    have := (np_lds rl rf hl (mem_np.mp hx).1).mpr hx
    rw [h] at this; cases this
  · intro h
    refine List.eq_nil_iff_forall_not_mem.mpr fun x hx => ?_
    have hxn := (mem_np.mp hx).1
    have e := nx_back' rf hxn
    rw [← e] at hx
    have := (np_lds rl rf hl (rf.back.nlt hxn)).mp hx
    rw [h] at this; cases this
theorem back_lds (ra : Row n a) (ra' : Row n a') (rf : Row n f) (h : Lds n a a' f) : Lds n (back a) (back a') f := fun x hx => by
  have h1 := h _ (ra.back.nlt hx)
  rw [nx_back' ra hx] at h1
  rw [← h1, nx_back ra' (rf.nlt (ra.back.nlt hx))]
theorem later_lds (ra : Row n a) (ra' : Row n a') (rb : Row n b) (rb' : Row n b') (rf : Row n f) (h : Lds n a a' f) (h' : Lds n b b' f)
    (hlt : ∀ k, k < n → nx lt k = nx b (nx a (nx (back b) (nx (back a) k)))) (hlt' : ∀ k, k < n → nx lt' k = nx b' (nx a' (nx (back b') (nx (back a') k)))) : Lds n lt lt' f := fun x hx => by
  have x1 := ra.back.nlt hx
  have x2 := rb.back.nlt x1
  have x3 := ra.nlt x2
  rw [hlt' _ (rf.nlt hx), hlt _ hx, back_lds ra ra' rf h x hx, back_lds rb rb' rf h' _ x1, h _ x2, h' _ x3]
/-- the bands of a sheet under other numbers: the same, as they stand in any order -/
theorem bands_ren (s : Sheet n r u) (ra : Row n a) (ra' : Row n a') (rb : Row n b) (rb' : Row n b') (rf : Row n f) (rl : Row n lt) (h : Lds n a a' f) (h' : Lds n b b' f)
    (hlt : ∀ k, k < n → nx lt k = nx b (nx a (nx (back b) (nx (back a) k)))) (hlt' : ∀ k, k < n → nx lt' k = nx b' (nx a' (nx (back b') (nx (back a') k))))
    (pl : notPlain n lt = [] → Lds n a a r ∧ Lds n a a u ∧ Lds n b b r ∧ Lds n b b u) : (bandsOf n a' b' (brd n lt')).Perm (bandsOf n a b (brd n lt)) := by
  have hl := later_lds ra ra' rb rb' rf h h' hlt hlt'
  have hpos := s.pos
  by_cases c : notPlain n lt = []
  · have c' := (np_nil rl rf hl).mpr c
    unfold brd
    rw [if_pos c, if_pos c', plain_one ra hpos, plain_one ra' hpos]
    obtain ⟨p1, p2, p3, p4⟩ := pl c
    have hy : nx (back f) 0 < n := rf.back.nlt (by omega)
    have ey := nx_back' rf (show 0 < n by omega)
    have e := band_lds (E := [nx (back f) 0]) (E' := [0]) ra ra' rb rf h h' (fun x hx => by
      rw [List.mem_singleton, List.mem_singleton]
      exact ⟨fun e => rf.inj hx hy (by rw [e, ey]), fun e => by rw [e, ey]⟩) hy
    rw [ey] at e
    rw [e, plain_homog s ra rb p1 p2 p3 p4 _ hy]
  · have c' : ¬ notPlain n lt' = [] := fun z => c ((np_nil rl rf hl).mp z)
    refine bands_lds ra ra' rb rb' rf h h' (fun x hx => ?_) fun k hk hn => ?_
    · unfold brd
      rw [if_neg c, if_neg c']
      exact np_lds rl rf hl hx
    · rw [← hlt' k hk]; exact brd_un hk hn
end
end Sq
namespace K1
open PySem L2 Sq
theorem bord_un {n : Nat} {r u : List Nat} (rr : Row n r) {k : Nat} (hk : k < n) (h : k ∉ bord n (later r u)) : nx u (nx r (nx (back u) (nx (back r) k))) = k := by
  rw [← later_nx rr hk]
  exact brd_un hk h
theorem bandsOf_len {n : Nat} {r u M : List Nat} : (bandsOf n r u M).length ≤ n := by
  unfold bandsOf
  rw [List.length_map]
  exact Nat.le_trans (List.length_filter_le _ _) (rds_count (n := n) (w := r) n)
theorem bandsOf_sh {n : Nat} {r u M : List Nat} (rr : Row n r) {b : Bd} (h : b ∈ bandsOf n r u M) : b.2.2.length ≤ n := by
  obtain ⟨S, hS, rfl⟩ := List.mem_map.mp h
  obtain ⟨x, hx, _, rfl⟩ := rounds_mem (List.mem_filter.mp hS).1
  have h1 := (cyc_is rr hx).len rr hx
  show ((List.range _).filter _).length ≤ n
  have := List.length_filter_le (shifted M (cyc n r x) (ups u (cyc n r x) (wid n u M (cyc n r x)))) (List.range (cyc n r x).length)
  rw [List.length_range] at this
  omega
end K1
namespace Sq
section
variable {n : Nat} {r u E : List Nat}
theorem cyc_up (rr : Row n r) (ru : Row n u) (un : ∀ k, k < n → k ∉ E → nx u (nx r (nx (back u) (nx (back r) k))) = k) {x : Nat} (hx : x < n)
    {w : Nat} (hw : ∀ i, 1 ≤ i → i < w → hits E (ups u (cyc n r x) i) = false) {j : Nat} (hj : j < w) : cyc n r (it u x j) = ups u (cyc n r x) j := by
  have hlt : ∀ y ∈ cyc n r x, y < n := fun y hy => cyc_lt rr hx hy
  have hc : ∀ t, it u (it r x t) j = it r (it u x j) t := fun t => comm rr ru hlt (fun y hy => cyc_shut rr hx hy 1) un hw j hj t x (it_mem rr hx 0)
  refine (Cyc.eq rr (it_lt ru hx j) ?_).symm
  have hl : (ups u (cyc n r x) j).length = per n r x := by rw [ups_len, cyc_len]
  have hp := per_is rr hx
  constructor
  · rw [ups_len]; exact (cyc_is rr hx).pos
  · rw [hl]
    unfold ups cyc
    rw [List.map_map]
    exact List.map_congr_left fun t _ => hc t
  · rw [hl, ← hc, hp.1]
  · intro i h1 h2
    rw [hl] at h2
    rw [← hc]
    exact fun e => hp.2 i h1 h2 (it_inj ru j (it_lt rr hx i) hx e)
theorem shut_back {w : List Nat} (rw' : Row n w) {T : Nat → Prop} (hT : ∀ x, x < n → T x → T (nx w x)) {y : Nat} (hy : y < n) (h : T (nx w y)) : T y := by
  have hp := per_is rw' hy
  have h1 : 1 ≤ per n w y := by unfold per; omega
  have key : ∀ j, T (it w (nx w y) j) := fun j => by
    induction j with
    | zero => exact h
    | succ j ih => exact hT _ (it_lt rw' (rw'.nlt hy) j) ih
  have := key (per n w y - 1)
  rwa [← it_step', show per n w y - 1 + 1 = per n w y from by omega, hp.1] at this
/-- a square of the row u^j(row of x) -/
def Gd (n : Nat) (r u E : List Nat) (y : Nat) : Prop := ∃ x, x < n ∧ lead n r x = true ∧ hits E (cyc n r x) = true ∧ ∃ j, j < wid n u E (cyc n r x) ∧ y ∈ cyc n r (it u x j)
theorem hits_of {S : List Nat} {y : Nat} (h1 : y ∈ S) (h2 : y ∈ E) : hits E S = true := by
  unfold hits
  exact List.any_eq_true.mpr ⟨y, h1, decide_eq_true h2⟩
theorem Gd.row (rr : Row n r) (ru : Row n u) {y : Nat} (hy : y < n) (h : hits E (cyc n r y) = true) : Gd n r u E y := by
  obtain ⟨l1, l2, l3⟩ := ldo_is rr hy
  have hh : hits E (cyc n r (ldo n r y)) = true := by rw [← hits_mem (cyc_same rr l1 l3)]; exact h
  obtain ⟨_, _, w3, _⟩ := wid_is ru (fun z hz => cyc_lt rr l1 hz) hh
  exact ⟨_, l1, l2, hh, 0, by omega, l3⟩
theorem Gd.right (rr : Row n r) (ru : Row n u) {y : Nat} (h : Gd n r u E y) : Gd n r u E (nx r y) := by
  obtain ⟨x, hx, hl, hh, j, hj, hy⟩ := h
  exact ⟨x, hx, hl, hh, j, hj, cyc_shut rr (it_lt ru hx j) hy 1⟩
theorem Gd.up (rr : Row n r) (ru : Row n u) (un : ∀ k, k < n → k ∉ E → nx u (nx r (nx (back u) (nx (back r) k))) = k) {y : Nat} (h : Gd n r u E y) : Gd n r u E (nx u y) := by
  obtain ⟨x, hx, hl, hh, j, hj, hy⟩ := h
  have hlt : ∀ y ∈ cyc n r x, y < n := fun y hy => cyc_lt rr hx hy
  obtain ⟨w1, w2, w3, w4⟩ := wid_is ru hlt hh
  rw [cyc_up rr ru un hx w2 hj] at hy
  obtain ⟨z, hz, rfl⟩ := List.mem_map.mp hy
  have hzn := hlt z hz
  by_cases c : j + 1 < wid n u E (cyc n r x)
  · refine ⟨x, hx, hl, hh, j + 1, c, ?_⟩
    rw [cyc_up rr ru un hx w2 c]
    exact List.mem_map.mpr ⟨z, hz, rfl⟩
  · have ej : j + 1 = wid n u E (cyc n r x) := by omega
    have hyn : nx u (it u z j) < n := it_lt ru hzn (j + 1)
    refine Gd.row rr ru hyn ?_
    refine Decidable.byContradiction fun hn => ?_
    have hno : ∀ i, it r (it u z (j + 1)) i ∉ E := fun i hi => hn (hits_of (it_mem rr hyn i) hi)
    have key : ∀ i, it r (it u z (j + 1)) i = it u (it r z i) (j + 1) := fun i => by
      induction i with
      | zero => rfl
      | succ i ih =>
        have hzi := cyc_shut rr hx hz i
        have hzin := hlt _ hzi
        have hun := hno (i + 1)
        have e0 : it r (it u z (j + 1)) (i + 1) = nx r (nx u (it u (it r z i) j)) := by
          show nx r (it r (it u z (j + 1)) i) = _
          rw [ih]; rfl
        have hy1 : it u (it r z i) j < n := it_lt ru hzin j
        have hk : nx r (nx u (it u (it r z i) j)) < n := rr.nlt (ru.nlt hy1)
        rw [e0] at hun ⊢
        have := un _ hk hun
        rw [nx_back rr (ru.nlt hy1), nx_back ru hy1] at this
        rw [← this]
        show nx u (nx r (it u (it r z i) j)) = nx u (it u (nx r (it r z i)) j)
        have cm := comm rr ru hlt (fun y hy => cyc_shut rr hx hy 1) un w2 j hj 1 (it r z i) hzi
        exact congrArg (nx u) cm.symm
    unfold hits at w1
    obtain ⟨v, hv, e⟩ := List.any_eq_true.mp w1
    obtain ⟨z2, hz2, rfl⟩ := List.mem_map.mp hv
    have hz2' := (cyc_same rr hx hz z2).mpr hz2
    obtain ⟨i, _, rfl⟩ := mem_it rr hz2'
    have e := of_decide_eq_true e
    rw [← ej, ← key i] at e
    exact hno i e
theorem Gd.all (s : Sheet n r u) (un : ∀ k, k < n → k ∉ E → nx u (nx r (nx (back u) (nx (back r) k))) = k) {e : Nat} (he : e ∈ E) (hen : e < n) : ∀ y, y < n → Gd n r u E y := by
  have rr := s.row
  have ru := s.col
  have h0 : Gd n r u E 0 := by
    refine Classical.byContradiction fun hn => ?_
    have := s.conn (fun y => ¬ Gd n r u E y) hn (fun x hx h => ⟨fun g => h (shut_back (T := Gd n r u E) rr (fun y _ => Gd.right rr ru) hx g), fun g => h (shut_back (T := Gd n r u E) ru (fun y _ => Gd.up rr ru un) hx g)⟩) e hen
    exact this (Gd.row rr ru hen (hits_of (it_mem rr hen 0) he))
  exact s.conn (Gd n r u E) h0 fun x hx h => ⟨Gd.right rr ru h, Gd.up rr ru un h⟩
theorem lvl_le (rr : Row n r) (ru : Row n u) (un : ∀ k, k < n → k ∉ E → nx u (nx r (nx (back u) (nx (back r) k))) = k) {x x' j j' : Nat} (hx : x < n) (hx' : x' < n)
    (hl : lead n r x = true) (hl' : lead n r x' = true) (hh : hits E (cyc n r x) = true) (hh' : hits E (cyc n r x') = true) (hj : j < wid n u E (cyc n r x)) (hj' : j' < wid n u E (cyc n r x')) (hle : j ≤ j')
    (h : it u x' j' ∈ cyc n r (it u x j)) : x = x' ∧ j = j' := by
  obtain ⟨w1, w2, w3, w4⟩ := wid_is ru (fun y hy => cyc_lt rr hx hy) hh
  obtain ⟨v1, v2, v3, v4⟩ := wid_is ru (fun y hy => cyc_lt rr hx' hy) hh'
  rw [cyc_up rr ru un hx w2 hj] at h
  obtain ⟨y, hy, ey⟩ := List.mem_map.mp h
  obtain ⟨d, rfl⟩ : ∃ d, j' = d + j := ⟨j' - j, by omega⟩
  rw [it_add] at ey
  have hy' : y = it u x' d := it_inj ru j (cyc_lt rr hx hy) (it_lt ru hx' d) ey
  subst hy'
  have hhd : hits E (cyc n r (it u x' d)) = true := by rw [hits_mem (cyc_same rr hx hy)]; exact hh
  have hd : d = 0 := by
    rcases Nat.eq_zero_or_pos d with c | c
    · exact c
    · rw [cyc_up rr ru un hx' v2 (by omega), v2 d c (by omega)] at hhd
      cases hhd
  subst hd
  exact ⟨lead_unique rr hx hx' hl hl' hy (it_mem rr hx' 0), by omega⟩
theorem ldo_same (rr : Row n r) {y z : Nat} (hy : y < n) (hz : z < n) (h : ldo n r y = ldo n r z) : z ∈ cyc n r y := by
  obtain ⟨l1, l2, l3⟩ := ldo_is rr hy
  obtain ⟨m1, m2, m3⟩ := ldo_is rr hz
  rw [← h] at m3
  exact cyc_trans rr hy (cyc_symm rr l1 l3) m3
/-- each row stands in one band, at one height -/
theorem leads_perm (s : Sheet n r u) (un : ∀ k, k < n → k ∉ E → nx u (nx r (nx (back u) (nx (back r) k))) = k) {e : Nat} (he : e ∈ E) (hen : e < n) :
    ((List.range n).filter (lead n r)).Perm (((List.range n).filter fun x => lead n r x && hits E (cyc n r x)).flatMap fun x => (List.range (wid n u E (cyc n r x))).map fun j => ldo n r (it u x j)) := by
  have rr := s.row
  have ru := s.col
  have hA : ∀ x, x ∈ (List.range n).filter (fun x => lead n r x && hits E (cyc n r x)) ↔ x < n ∧ lead n r x = true ∧ hits E (cyc n r x) = true := fun x => by
    rw [List.mem_filter, List.mem_range, Bool.and_eq_true]
  have nd0 : ((List.range n).filter (lead n r)).Nodup := List.Nodup.sublist List.filter_sublist List.nodup_range
  have nd1 : ((List.range n).filter fun x => lead n r x && hits E (cyc n r x)).Nodup := List.Nodup.sublist List.filter_sublist List.nodup_range
  have inj : ∀ {x x' j j'}, x < n → x' < n → lead n r x = true → lead n r x' = true → hits E (cyc n r x) = true → hits E (cyc n r x') = true → j < wid n u E (cyc n r x) → j' < wid n u E (cyc n r x') → ldo n r (it u x j) = ldo n r (it u x' j') → x = x' ∧ j = j' := fun {x x' j j'} hx hx' hl hl' hh hh' hj hj' e => by
    rcases Nat.le_total j j' with c | c
    · exact lvl_le rr ru un hx hx' hl hl' hh hh' hj hj' c (ldo_same rr (it_lt ru hx j) (it_lt ru hx' j') e)
    · obtain ⟨a, b⟩ := lvl_le rr ru un hx' hx hl' hl hh' hh hj' hj c (ldo_same rr (it_lt ru hx' j') (it_lt ru hx j) e.symm)
      exact ⟨a.symm, b.symm⟩
  refine (List.perm_ext_iff_of_nodup nd0 ?_).mpr fun z => ?_
  · refine List.pairwise_flatMap.mpr ⟨fun x hx => ?_, ?_⟩
    · obtain ⟨a1, a2, a3⟩ := (hA x).mp hx
      refine List.pairwise_map.mpr (List.Pairwise.imp_of_mem (fun {i j} hi hj hne e => hne ?_) List.nodup_range)
      exact (inj a1 a1 a2 a2 a3 a3 (List.mem_range.mp hi) (List.mem_range.mp hj) e).2
    · refine List.Pairwise.imp_of_mem (fun {x x'} hx hx' hne y hy y' hy' e => hne ?_) nd1
      obtain ⟨a1, a2, a3⟩ := (hA x).mp hx
      obtain ⟨b1, b2, b3⟩ := (hA x').mp hx'
      obtain ⟨j, hj, rfl⟩ := List.mem_map.mp hy
      obtain ⟨j', hj', rfl⟩ := List.mem_map.mp hy'
      exact (inj a1 b1 a2 b2 a3 b3 (List.mem_range.mp hj) (List.mem_range.mp hj') e).1
  · rw [List.mem_filter, List.mem_range, List.mem_flatMap]
    constructor
    · rintro ⟨hz, hl⟩
      obtain ⟨x, hx, hxl, hh, j, hj, hy⟩ := Gd.all s un he hen z hz
      refine ⟨x, (hA x).mpr ⟨hx, hxl, hh⟩, List.mem_map.mpr ⟨j, List.mem_range.mpr hj, ?_⟩⟩
      obtain ⟨l1, l2, l3⟩ := ldo_is rr (it_lt ru hx j)
      exact lead_unique rr l1 hz l2 hl (cyc_trans rr l1 l3 hy) (it_mem rr hz 0)
    · rintro ⟨x, hx, hz⟩
      obtain ⟨a1, a2, a3⟩ := (hA x).mp hx
      obtain ⟨j, hj, rfl⟩ := List.mem_map.mp hz
      obtain ⟨l1, l2, l3⟩ := ldo_is rr (it_lt ru a1 j)
      exact ⟨l1, l2⟩
/-- the lengths of the rows, and the bands -/
theorem cover (s : Sheet n r u) (un : ∀ k, k < n → k ∉ E → nx u (nx r (nx (back u) (nx (back r) k))) = k) {e : Nat} (he : e ∈ E) (hen : e < n) :
    ((rounds n r).map List.length).Perm ((bandsOf n r u E).flatMap fun b => List.replicate b.2.1 b.1) := by
  have rr := s.row
  have ru := s.col
  have hA : ∀ x, x ∈ (List.range n).filter (fun x => lead n r x && hits E (cyc n r x)) ↔ x < n ∧ lead n r x = true ∧ hits E (cyc n r x) = true := fun x => by
    rw [List.mem_filter, List.mem_range, Bool.and_eq_true]
  have hp := (leads_perm s un he hen).map fun l => (cyc n r l).length
  have e1 : (rounds n r).map List.length = ((List.range n).filter (lead n r)).map fun l => (cyc n r l).length := by
    unfold rounds
    rw [List.map_map]; rfl
  rw [e1]
  refine hp.trans ?_
  rw [List.map_flatMap, bandsOf_leads, List.flatMap_map]
  refine List.Perm.of_eq ?_
  have cg : ∀ (l : List Nat) (f g : Nat → List Nat), (∀ x ∈ l, f x = g x) → l.flatMap f = l.flatMap g := fun l f g h => by
    induction l with
    | nil => rfl
    | cons a l ih => rw [List.flatMap_cons, List.flatMap_cons, h a (by simp), ih fun x hx => h x (by simp [hx])]
  refine cg _ _ _ fun x hx => ?_
  obtain ⟨a1, a2, a3⟩ := (hA x).mp hx
  obtain ⟨w1, w2, w3, w4⟩ := wid_is ru (fun y hy => cyc_lt rr a1 hy) a3
  rw [List.map_map]
  show (List.range (wid n u E (cyc n r x))).map _ = List.replicate (wid n u E (cyc n r x)) (cyc n r x).length
  apply List.ext_getElem?
  intro i
  rw [List.getElem?_map, List.getElem?_replicate]
  by_cases c : i < wid n u E (cyc n r x)
  · rw [if_pos c]
    have : (List.range (wid n u E (cyc n r x)))[i]? = some i := by simp [c]
    rw [this]
    show some (cyc n r (ldo n r (it u x i))).length = _
    obtain ⟨l1, l2, l3⟩ := ldo_is rr (it_lt ru a1 i)
    rw [← per_same rr l1 l3, cyc_up rr ru un a1 w2 c, ups_len]
  · rw [if_neg c, List.getElem?_eq_none (by simp; omega)]; rfl
theorem cover_sum (s : Sheet n r u) (un : ∀ k, k < n → k ∉ E → nx u (nx r (nx (back u) (nx (back r) k))) = k) {e : Nat} (he : e ∈ E) (hen : e < n) :
    ((bandsOf n r u E).map fun b => b.1 * b.2.1).sum = n := by
  have h1 := (cover s un he hen).sum_nat
  rw [← List.length_flatten, (rounds_perm s.row).length_eq, List.length_range] at h1
  have key : ∀ bs : List (Nat × Nat × List Nat), (bs.map fun b => b.1 * b.2.1).sum = (bs.flatMap fun b => List.replicate b.2.1 b.1).sum := fun bs => by
    induction bs with
    | nil => rfl
    | cons b bs ih => rw [List.map_cons, List.sum_cons, List.flatMap_cons, List.sum_append, ih, List.sum_replicate_nat, Nat.mul_comm]
  rw [key]; exact h1.symm
theorem cover_count (s : Sheet n r u) (un : ∀ k, k < n → k ∉ E → nx u (nx r (nx (back u) (nx (back r) k))) = k) {e : Nat} (he : e ∈ E) (hen : e < n) (l : Nat) :
    ((rounds n r).map List.length).count l = ((bandsOf n r u E).map fun b => if b.1 = l then b.2.1 else 0).sum := by
  rw [(cover s un he hen).count_eq, List.count_flatMap]
  congr 1
  refine List.map_congr_left fun b _ => ?_
  show List.count l (List.replicate b.2.1 b.1) = _
  rw [List.count_replicate]
  by_cases c : b.1 = l <;> simp [c]
theorem shifts_ne {S W : List Nat} (h1 : hits E S = true) (h2 : hits E W = true) (hl : W.length = S.length) : shifts E S W ≠ [] := by
  unfold hits at h1 h2
  obtain ⟨x, hx, ex⟩ := List.any_eq_true.mp h1
  obtain ⟨y, hy, ey⟩ := List.any_eq_true.mp h2
  obtain ⟨i, hi, rfl⟩ := List.mem_iff_getElem.mp hx
  obtain ⟨j, hj, rfl⟩ := List.mem_iff_getElem.mp hy
  have nxg : ∀ {X : List Nat} {i : Nat} (h : i < X.length), nx X i = X[i] := fun {X i} h => by
    show X.getD i 0 = _
    rw [List.getD_eq_getElem?_getD, List.getElem?_eq_getElem h]; rfl
  have hL : 0 < S.length := by omega
  refine List.ne_nil_of_mem (a := (j + (S.length - i)) % S.length) (List.mem_filter.mpr ⟨List.mem_range.mpr (Nat.mod_lt _ hL), ?_⟩)
  unfold shifted
  refine List.any_eq_true.mpr ⟨i, List.mem_range.mpr hi, ?_⟩
  have e : (i + (j + (S.length - i)) % S.length) % S.length = j := by
    rw [Nat.add_mod_mod, show i + (j + (S.length - i)) = j + S.length from by omega, Nat.add_mod_right, Nat.mod_eq_of_lt (by omega)]
  rw [e, nxg hi, nxg hj, ex, ey]; rfl
end
end Sq
namespace K1
open PySem L2 Sq
theorem cov_of {n : Nat} {r u : List Nat} (s : Sheet n r u) {as : List Addr} {bs : List Bd} (hl : as.length = bs.length) (hp : bs.Perm (bandsOf n r u (bord n (later r u)))) :
    (∀ b ∈ bs, 1 ≤ b.1 ∧ b.1 ≤ 36 ∧ 1 ≤ b.2.1 ∧ b.2.1 ≤ 36 ∧ b.2.2.length ≤ 36 ∧ b.2.2 ≠ [] ∧ b.2.2 = (List.range b.1).filter fun t => decide (t ∈ b.2.2)) ∧ as.length ≤ 36 ∧ (bs.map fun b => b.1 * b.2.1).sum = n ∧ (∀ x, ((rounds n r).map List.length).count x = (bs.map fun b => if b.1 = x then b.2.1 else 0).sum) := by
  have rr := s.row
  have ru := s.col
  have hn := s.most
  have hpos := s.pos
  have un : ∀ k, k < n → k ∉ bord n (later r u) → nx u (nx r (nx (back u) (nx (back r) k))) = k := fun k hk h => bord_un rr hk h
  obtain ⟨e, he, hen⟩ : ∃ e, e ∈ bord n (later r u) ∧ e < n := by
    unfold bord
    split
    · exact ⟨0, by simp, by omega⟩
    · rename_i c
      obtain ⟨e, he⟩ := List.exists_mem_of_ne_nil _ c
      exact ⟨e, he, (mem_np.mp he).1⟩
  generalize bord n (later r u) = M at *
  refine ⟨fun b hb => ?_, ?_, ?_, fun x => ?_⟩
  · have hm := hp.mem_iff.mp hb
    have hsl := bandsOf_sh rr hm
    obtain ⟨S, hS, rfl⟩ := List.mem_map.mp hm
    obtain ⟨hS1, hh⟩ := List.mem_filter.mp hS
    obtain ⟨x, hx, _, rfl⟩ := rounds_mem hS1
    have hC := cyc_is rr hx
    have h1 := hC.len rr hx
    have h2 := hC.pos
    obtain ⟨w1, w2, w3, w4⟩ := wid_is ru (fun y hy => cyc_lt rr hx hy) hh
    refine ⟨h2, by show (cyc n r x).length ≤ 36; omega, w3, by show wid n u M (cyc n r x) ≤ 36; omega, by omega, shifts_ne hh w1 (ups_len _ _ _), ?_⟩
    show shifts M (cyc n r x) (ups u (cyc n r x) (wid n u M (cyc n r x))) = (List.range (cyc n r x).length).filter fun t => decide (t ∈ shifts M (cyc n r x) (ups u (cyc n r x) (wid n u M (cyc n r x))))
    unfold shifts
    refine List.filter_congr fun t ht => ?_
    apply Bool.eq_iff_iff.mpr
    rw [decide_eq_true_iff, List.mem_filter]
    exact ⟨fun h => ⟨ht, h⟩, fun h => h.2⟩
  · have := hp.length_eq
    have h2 := bandsOf_len (n := n) (r := r) (u := u) (M := M)
    omega
  · rw [(hp.map fun b => b.1 * b.2.1).sum_nat]
    exact cover_sum s un he hen
  · rw [(hp.map fun b => if b.1 = x then b.2.1 else 0).sum_nat]
    exact cover_count s un he hen x
end K1
namespace Sq
section
variable {n : Nat} {r u E E' : List Nat}
end
end Sq
namespace Sq
section
variable {n : Nat} {r u d E E' : List Nat}
end
section
variable {n : Nat} {r u a b lt lt' : List Nat}
end
end Sq
namespace Sq
variable {n : Nat} {r u : List Nat}
/-- what is closed under a row turned round is closed under the row -/
theorem shut_turn (h : Row n r) {T : Nat → Prop} (hT : ∀ x, x < n → T x → T (nx (back r) x)) {x : Nat} (hx : x < n) (tx : T x) : T (nx r x) := by
  have hb := h.back
  have all : ∀ k, T (it (back r) x k) := by
    intro k
    induction k with
    | zero => exact tx
    | succ k ih => exact hT _ (it_lt hb hx k) ih
  have hp := (per_is hb hx).1
  have pos : 0 < per n (back r) x := Nat.succ_pos _
  obtain ⟨k, hk⟩ : ∃ k, per n (back r) x = k + 1 := ⟨per n (back r) x - 1, by omega⟩
  rw [hk] at hp
  have hz := it_lt hb hx k
  have e : nx (back r) (it (back r) x k) = x := hp
  rw [back_nx h hz] at e
  have h2 := h.nx_idx hz
  rw [e] at h2
  rw [h2]; exact all k
theorem Sheet.up (h : Sheet n r u) : Sheet n r (back u) where
  pos := h.pos
  most := h.most
  row := h.row
  col := h.col.back
  conn := fun T t0 hT x hx => h.conn T t0 (fun y hy ty => ⟨(hT y hy ty).1, shut_turn h.col (fun z hz tz => (hT z hz tz).2) hy ty⟩) x hx
end Sq
namespace Sq
section
variable {n nb : Nat} {r u rb ub m m' : List Nat}
end
end Sq
namespace Sq
theorem shut_compl {n : Nat} {r M : List Nat} (hr : Row n r) (nd : M.Nodup) (lt : ∀ x ∈ M, x < n) (sh : ∀ x ∈ M, nx r x ∈ M) {x : Nat} (hx : x < n) (hn : x ∉ M) : nx r x ∉ M := fun z => by
  have nd' : (M.map (nx r)).Nodup := List.pairwise_map.mpr (List.Pairwise.imp_of_mem (fun {a b} ha hb hne e => hne (hr.inj (lt a ha) (lt b hb) e)) nd)
  have := full nd' (l' := M) (fun y hy => by obtain ⟨w, hw, rfl⟩ := List.mem_map.mp hy; exact sh w hw) (by simp) _ z
  obtain ⟨w, hw, e⟩ := List.mem_map.mp this
  exact hn (hr.inj (lt w hw) hx e ▸ hw)
end Sq
namespace Sq
end Sq
namespace Sq
end Sq
namespace Sq
section
variable {n nb : Nat} {r u rb ub m : List Nat}
theorem Sheet.swap (h : Sheet n r u) : Sheet n u r := ⟨h.pos, h.most, h.col, h.row, fun T h0 hT => h.conn T h0 fun x hx hx' => ⟨(hT x hx hx').2, (hT x hx hx').1⟩⟩
theorem Sheet.turn (h : Sheet n r u) : Sheet n (back u) r := h.up.swap
theorem Sheet.shear (h : Sheet n r u) : Sheet n r (cmp n u (back r)) where
  pos := h.pos
  most := h.most
  row := h.row
  col := cmp_row h.col h.row.back
  conn := fun T h0 hT => h.conn T h0 fun x hx hx' => by
    refine ⟨(hT x hx hx').1, ?_⟩
    have h1 := h.row.nlt hx
    have := (hT _ h1 (hT x hx hx').1).2
    rw [cmp_nx h1, nx_back h.row hx] at this
    exact this
end
end Sq
namespace K1
open PySem L2 Sq
end K1
namespace K1
open PySem L2 Sq
abbrev lvl (p q : Int) : List Int := [wt0 p q, wt1 p q, -q, p]
def spTl : Sp := fun vs H Q _ => ∃ p q : Int, vs = [.int p, .int q] ∧ Way p q ∧ Int.gcd p q = 1 ∧ ∀ (H' : Hp) (l : Addr), Same H H' → H' l = some (.tup ((lvl p q).map V.int)) → wt0 p q * p + wt1 p q * q = 1 → Bt 600 (wt0 p q) → Bt 600 (wt1 p q) → Q (.ref l) H'
section
variable {P : Program} {w : World} {K : PySem.W.Frag} {mg : Str → Option Value} {base : Heap}
abbrev n_tl : List Str := ["p", "q", "weights"]
theorem sc_tl : FnScope n_tl ["p", "q"] (defScope sToLevel) := ⟨rfl, rfl, rfl, by decide +kernel, rfl, by decide +kernel, by decide +kernel⟩
theorem ok_tl {f fn fw : Addr} {fd dn dw : FuncData} (F : Fn K mg "to_level" sToLevel ["p", "q"] f fd) (FN : Fn K mg "need_straight_way" sNeedStraightWay ["p", "q"] fn dn) (GN : FnOk P w K mg base CX0 2 fn dn ["p", "q"] spNS)
    (FW : Fn K mg "weights_to_one" sWeightsToOne ["p", "q"] fw dw) (GW : FnOk P w K mg base CX0 1 fw dw ["p", "q"] spWo) : FnOk P w K mg base CX0 3 f fd ["p", "q"] spTl := by
  refine F.F.ok sc_tl (fun vs H Q E h => ?_) (fun cdv A outer s H vs Q E hr h => ?_)
  · obtain ⟨p, q, rfl, _⟩ := h; rfl
  · obtain ⟨p, q, rfl, hw, hg, k⟩ := h
    have hr1 : Room 1 _ := hr.mono (by decide)
    have hr2 : Room 2 _ := hr.mono (by decide)
    refine ⟨_, (pss_cons (ps_expr (pe_call GN hr2 rfl FN.m FN.F.kp FN.b .nil pass0 (pa_cons (pv 0) (pa_cons (pv 1) pa_nil))))
      (pss_cons (ps_set (i := 2) sc_tl.nd rfl (Or.inl rfl) (pe_call GW hr1 rfl FW.m FW.F.kp FW.b .nil pass0 (pa_cons (pv 0) (pa_cons (pv 1) pa_nil))))
      (pss_one (ps_ret (pe_tup (pa_cons (pe_ix ix_tup (pv 2) pe_int (fun _ _ => rfl)) (pa_cons (pe_ix ix_tup (pv 2) pe_int (fun _ _ => rfl)) (pa_cons (pe_un un_neg (pv 1)) (pa_cons (pv 0) pa_nil))))))))), ?_⟩
    refine ⟨_, rfl, _, rfl, p, q, rfl, hw, hg, ?_⟩
    refine ⟨_, rfl, _, rfl, p, q, rfl, hw, hg, fun H1 l s1 hl e b0 b1 => ?_⟩
    have hl := SqT.of (K := K) hl
    refine ⟨_, rfl, l, _, 0, _, rfl, rfl, hl, atI_nat (j := 0) rfl, ?_⟩
    refine ⟨_, rfl, l, _, 1, _, rfl, rfl, hl, atI_nat (j := 1) rfl, ?_⟩
    refine ⟨_, rfl, _, rfl, _, rfl, ?_⟩
    refine ⟨by show 4 ≤ sizeLine; decide, fun d hd => ?_⟩
    exact k _ d (same_upd s1 (s1.free hd)) upd_same e b0 b1
end
end K1
namespace Sq
open L2
structure Q4 where
  a : Int
  b : Int
  c : Int
  d : Int
def Q4.l (x : Q4) : List Int := [x.a, x.b, x.c, x.d]
def Q4.mul (x y : Q4) : Q4 := ⟨x.a * y.a + x.b * y.c, x.a * y.b + x.b * y.d, x.c * y.a + x.d * y.c, x.c * y.b + x.d * y.d⟩
def Q4.det (x : Q4) : Int := x.a * x.d - x.b * x.c
def Q4.bt (n : Nat) (x : Q4) : Prop := Bt n x.a ∧ Bt n x.b ∧ Bt n x.c ∧ Bt n x.d
def q1 : Q4 := ⟨1, 0, 0, 1⟩
def qS : Q4 := ⟨1, 1, 0, 1⟩
def qT : Q4 := ⟨0, -1, 1, 0⟩
def l4 (c : Nat) : Q4 := if c = 115 then qS else qT
def tb4 (z : List Nat) : Q4 := z.foldl (fun t c => (l4 c).mul t) q1
theorem Q4.ext' {x y : Q4} (h1 : x.a = y.a) (h2 : x.b = y.b) (h3 : x.c = y.c) (h4 : x.d = y.d) : x = y := by
  cases x; cases y; simp only at h1 h2 h3 h4; subst h1 h2 h3 h4; rfl
theorem mul_assoc4 (x y z : Q4) : (x.mul y).mul z = x.mul (y.mul z) := by
  refine Q4.ext' ?_ ?_ ?_ ?_ <;> simp only [Q4.mul] <;> grind
theorem mul_one4 (x : Q4) : x.mul q1 = x := by
  refine Q4.ext' ?_ ?_ ?_ ?_ <;> simp only [Q4.mul, q1] <;> grind
theorem one_mul4 (x : Q4) : q1.mul x = x := by
  refine Q4.ext' ?_ ?_ ?_ ?_ <;> simp only [Q4.mul, q1] <;> grind
theorem det_mul4 (x y : Q4) : (x.mul y).det = x.det * y.det := by simp only [Q4.mul, Q4.det]; grind
theorem fold4 : ∀ (z : List Nat) (t : Q4), z.foldl (fun t c => (l4 c).mul t) t = (tb4 z).mul t
  | [], t => by show t = q1.mul t; rw [one_mul4]
  | c :: z, t => by
    show z.foldl _ ((l4 c).mul t) = (z.foldl (fun t c => (l4 c).mul t) ((l4 c).mul q1)).mul t
    rw [fold4 z, fold4 z, mul_one4, mul_assoc4]
theorem tb4_app (x y : List Nat) : tb4 (x ++ y) = (tb4 y).mul (tb4 x) := by
  show (x ++ y).foldl _ q1 = _
  rw [List.foldl_append, fold4]; rfl
theorem tb4_snoc (z : List Nat) (c : Nat) : tb4 (z ++ [c]) = (l4 c).mul (tb4 z) := by
  show (z ++ [c]).foldl _ q1 = _
  rw [List.foldl_append]; rfl
theorem Q4.bt.mono {n m : Nat} {x : Q4} (h : x.bt n) (l : n ≤ m) : x.bt m := ⟨h.1.mono l, h.2.1.mono l, h.2.2.1.mono l, h.2.2.2.mono l⟩
end Sq
namespace Sq
open L2
theorem ilg (a b : Int) : a < b ∨ b ≤ a := by omega
theorem one_of {a d : Int} (h : a * d = 1) : a = 1 ∨ a = -1 := by
  have e : a.natAbs * d.natAbs = 1 := by rw [← Int.natAbs_mul, h]; rfl
  have h1 : d.natAbs ≠ 0 := fun z => by rw [z] at e; simp at e
  have h2 : a.natAbs ≠ 0 := fun z => by rw [z] at e; simp at e
  rcases Nat.lt_or_ge 1 a.natAbs with g | g
  · have := Nat.mul_le_mul (show 2 ≤ a.natAbs from g) (show 1 ≤ d.natAbs by omega)
    omega
  · omega
def qs (m : Int) : Q4 := ⟨1, m, 0, 1⟩
def shW (m : Int) : List Nat := if 0 ≤ m then (List.replicate m.toNat [115]).flatten else [116, 116, 116] ++ (List.replicate (-m).toNat [115, 116, 115]).flatten ++ [116]
theorem tb_s (n : Nat) : tb4 (List.replicate n [115]).flatten = qs n := by
  induction n with
  | zero => rfl
  | succ n ih =>
    rw [List.replicate_succ', List.flatten_append, tb4_app, ih]
    show (tb4 [115]).mul (qs n) = _
    refine Q4.ext' ?_ ?_ ?_ ?_ <;> simp [tb4, l4, qS, q1, qs, Q4.mul] <;> omega
theorem tb_sts (n : Nat) : tb4 (List.replicate n [115, 116, 115]).flatten = ⟨1, 0, n, 1⟩ := by
  induction n with
  | zero => rfl
  | succ n ih =>
    rw [List.replicate_succ', List.flatten_append, tb4_app, ih]
    show (tb4 [115, 116, 115]).mul ⟨1, 0, n, 1⟩ = _
    refine Q4.ext' ?_ ?_ ?_ ?_ <;> simp [tb4, l4, qS, qT, q1, Q4.mul] <;> omega
theorem tb_sh (m : Int) : tb4 (shW m) = qs m := by
  unfold shW
  split
  · rename_i h
    rw [tb_s]; unfold qs; rw [Int.toNat_of_nonneg h]
  · rename_i h
    rw [tb4_app, tb4_app, tb_sts]
    have e : ((-m).toNat : Int) = -m := Int.toNat_of_nonneg (by omega)
    rw [e]
    refine Q4.ext' ?_ ?_ ?_ ?_ <;> simp [tb4, l4, qS, qT, q1, qs, Q4.mul]
theorem sh_len (m : Int) : (shW m).length ≤ 4 + 3 * m.natAbs := by
  unfold shW
  split
  · rw [List.length_flatten, List.map_replicate, List.sum_replicate_nat, List.length_singleton]; omega
  · rw [List.length_append, List.length_append, List.length_flatten, List.map_replicate, List.sum_replicate_nat]
    have e : [115, 116, 115].length = 3 := rfl
    have e1 : [116, 116, 116].length = 3 := rfl
    have e2 : [116].length = 1 := rfl
    rw [e, e1, e2]; omega
theorem sh_len0 {m : Int} (h : 0 ≤ m) : (shW m).length = m.toNat := by
  unfold shW
  rw [if_pos h, List.length_flatten, List.map_replicate, List.sum_replicate_nat, List.length_singleton, Nat.mul_one]
theorem sh_st (m : Int) : ∀ c ∈ shW m, (c == 115 || c == 116) = true := by
  have rep : ∀ (n : Nat) (y : List Nat), (∀ c ∈ y, (c == 115 || c == 116) = true) → ∀ c ∈ (List.replicate n y).flatten, (c == 115 || c == 116) = true := fun n y h c hc => by
    obtain ⟨l, hl, hcl⟩ := List.mem_flatten.mp hc
    rw [(List.mem_replicate.mp hl).2] at hcl
    exact h c hcl
  unfold shW
  split
  · exact rep _ _ (by decide)
  · intro c hc
    rcases List.mem_append.mp hc with h | h
    · rcases List.mem_append.mp h with h | h
      · have : c = 116 := by simpa using h
        subst this; decide
      · exact rep _ _ (by decide) c h
    · rw [List.mem_singleton] at h; subst h; decide
/-- how often a shear is taken back -/
def mny (L : Q4) : Int := -((-L.a).fdiv L.c)
def wstep (L : Q4) : Q4 := (⟨0, 1, -1, 0⟩ : Q4).mul ((qs (-(mny L))).mul L)
theorem mny_spec (L : Q4) (h : L.c ≠ 0) : ∃ r, L.a = mny L * L.c - r ∧ ((0 < L.c ∧ 0 ≤ r ∧ r < L.c) ∨ (L.c < 0 ∧ L.c < r ∧ r ≤ 0)) := by
  rcases Int.lt_or_gt_of_ne h with hc | hc
  · have e1 : (-L.a).fdiv L.c = L.a / (-L.c) := by
      have : (-L.a).fdiv L.c = (-(-L.a)).fdiv (-L.c) := by rw [Int.neg_fdiv_neg]
      rw [this, Int.neg_neg, Int.fdiv_eq_ediv_of_nonneg _ (by omega)]
    have h1 := Int.mul_ediv_add_emod L.a (-L.c)
    have h2 := Int.emod_nonneg L.a (b := -L.c) (by omega)
    have h3 := Int.emod_lt_of_pos L.a (b := -L.c) (by omega)
    refine ⟨-(L.a % (-L.c)), ?_, .inr ⟨hc, by omega, by omega⟩⟩
    unfold mny
    rw [e1]
    grind
  · have e1 : (-L.a).fdiv L.c = (-L.a) / L.c := Int.fdiv_eq_ediv_of_nonneg _ (by omega)
    have h1 := Int.mul_ediv_add_emod (-L.a) L.c
    have h2 := Int.emod_nonneg (-L.a) (b := L.c) (by omega)
    have h3 := Int.emod_lt_of_pos (-L.a) (b := L.c) (by omega)
    refine ⟨(-L.a) % L.c, ?_, .inl ⟨hc, h2, h3⟩⟩
    unfold mny
    rw [e1]
    grind
def le60 (L : Q4) : Prop := L.a.natAbs ≤ 60 ∧ L.b.natAbs ≤ 60 ∧ L.c.natAbs ≤ 60 ∧ L.d.natAbs ≤ 60
theorem wstep_is (L : Q4) : wstep L = ⟨L.c, L.d, mny L * L.c - L.a, mny L * L.d - L.b⟩ := by
  refine Q4.ext' ?_ ?_ ?_ ?_ <;> simp only [wstep, Q4.mul, qs] <;> grind
theorem wstep_det {L : Q4} (h : L.det = 1) : (wstep L).det = 1 := by
  unfold wstep
  rw [det_mul4, det_mul4, h]
  simp [Q4.det, qs]
theorem wstep_back (z : List Nat) (L : Q4) : (tb4 ([116] ++ shW (mny L) ++ z)).mul (wstep L) = (tb4 z).mul L := by
  rw [tb4_app, tb4_app, tb_sh, mul_assoc4, mul_assoc4]
  congr 1
  refine Q4.ext' ?_ ?_ ?_ ?_ <;> simp [wstep, Q4.mul, qs, tb4, l4, qT, q1] <;> grind
theorem d_le {L : Q4} (h : L.det = 1) (hc : L.c.natAbs < L.a.natAbs) (hb : L.b.natAbs ≤ 60) : L.d.natAbs ≤ 60 := by
  have e : L.a * L.d = 1 + L.b * L.c := by unfold Q4.det at h; omega
  have e1 : L.a.natAbs * L.d.natAbs ≤ 1 + 60 * L.c.natAbs := by
    rw [← Int.natAbs_mul, e]
    have := Int.natAbs_add_le 1 (L.b * L.c)
    rw [Int.natAbs_mul] at this
    have := Nat.mul_le_mul_right L.c.natAbs hb
    omega
  rcases Nat.lt_or_ge 60 L.d.natAbs with h' | h'
  · have := Nat.mul_le_mul_left L.a.natAbs (show 61 ≤ L.d.natAbs from h')
    omega
  · exact h'
theorem core {a c m r : Int} (hc : 0 < c) (ha : c < a) (e : a = m * c - r) (h0 : 0 ≤ r) (h1 : r < c) : 2 ≤ m ∧ m - 1 ≤ a - c := by
  have hm : 2 ≤ m := by
    rcases ilg m 2 with h | h
    · have := Int.mul_le_mul_of_nonneg_right (show m ≤ 1 by omega) (Int.le_of_lt hc)
      omega
    · exact h
  refine ⟨hm, ?_⟩
  have := Int.mul_le_mul_of_nonneg_left (show 1 ≤ c by omega) (show 0 ≤ m - 2 by omega)
  have e2 : (m - 2) * c = m * c - 2 * c := by rw [Int.sub_mul]
  omega
theorem mny_le {L : Q4} (h : L.c ≠ 0) : (mny L).natAbs ≤ L.a.natAbs := by
  obtain ⟨r, e, hr⟩ := mny_spec L h
  generalize mny L = m at e
  generalize L.a = a at e ⊢
  generalize L.c = c at e h hr
  have key : ∀ a c r : Int, a = m * c - r → 0 < c → 0 ≤ r → r < c → m.natAbs ≤ a.natAbs := fun a c r e hc h0 h1 => by
    rcases ilg 0 m with hm | hm
    · have := Int.mul_le_mul_of_nonneg_left (show 1 ≤ c by omega) (show 0 ≤ m - 1 by omega)
      have e2 : (m - 1) * c = m * c - c := by rw [Int.sub_mul]; omega
      omega
    · have := Int.mul_le_mul_of_nonneg_left (show 1 ≤ c by omega) (show 0 ≤ -m by omega)
      have e2 : (-m) * c = -(m * c) := by rw [Int.neg_mul]
      omega
  rcases hr with ⟨hc, h0, h1⟩ | ⟨hc, h0, h1⟩
  · exact key a c r e hc h0 h1
  · have := key (-a) (-c) (-r) (by rw [e]; grind) (by omega) (by omega) (by omega)
    omega
structure WI (x L : Q4) (z : List Nat) : Prop where
  det : L.det = 1
  is : (tb4 z).mul L = x
  le : le60 L
  st : ∀ c ∈ z, (c == 115 || c == 116) = true
  ln : z = [] ∨ (L.c.natAbs < L.a.natAbs ∧ 0 ≤ L.a * L.c ∧ z.length ≤ 185 + 3 * (60 - L.a.natAbs))
theorem WI.step {x L : Q4} {z : List Nat} (h : WI x L z) (hc : L.c ≠ 0) : WI x (wstep L) ([116] ++ shW (mny L) ++ z) ∧ (wstep L).c.natAbs < L.c.natAbs := by
  obtain ⟨r, e, hr⟩ := mny_spec L hc
  have hm := mny_le hc
  have ew := wstep_is L
  have ec : (wstep L).c = r := by rw [ew]; show mny L * L.c - L.a = r; omega
  have ea : (wstep L).a = L.c := by rw [ew]
  have eb : (wstep L).b = L.d := by rw [ew]
  have lt : (wstep L).c.natAbs < (wstep L).a.natAbs := by rw [ec, ea]; omega
  have dt := wstep_det h.det
  obtain ⟨l1, l2, l3, g4⟩ := h.le
  have ld := d_le dt lt (by rw [eb]; exact g4)
  refine ⟨⟨dt, by rw [wstep_back]; exact h.is, ⟨by rw [ea]; exact l3, by rw [eb]; exact g4, by rw [ec]; omega, ld⟩, ?_, .inr ⟨lt, ?_, ?_⟩⟩, by rw [ec]; omega⟩
  · intro c hc
    rcases List.mem_append.mp hc with h1 | h1
    · rcases List.mem_append.mp h1 with h2 | h2
      · rw [List.mem_singleton] at h2; subst h2; decide
      · exact sh_st _ c h2
    · exact h.st c h1
  · rw [ea, ec]
    rcases hr with ⟨q, h0, h1⟩ | ⟨q, h0, h1⟩
    · exact Int.mul_nonneg (by omega) h0
    · have := Int.mul_nonneg (show 0 ≤ -L.c by omega) (show 0 ≤ -r by omega)
      rw [Int.neg_mul_neg] at this; exact this
  · rw [ea, List.length_append, List.length_append, List.length_singleton]
    rcases h.ln with hz | ⟨g1, g2, g3⟩
    · subst hz
      have := sh_len (mny L)
      rw [List.length_nil]; omega
    · have hm2 : 2 ≤ mny L ∧ mny L - 1 ≤ L.a.natAbs - L.c.natAbs := by
        generalize mny L = m at e ⊢
        generalize L.a = a at e g1 g2 ⊢
        generalize L.c = c at e hr hc g1 g2 ⊢
        rcases hr with ⟨q, h0, h1⟩ | ⟨q, h0, h1⟩
        · have ha : 0 < a := by
            rcases ilg 0 a with h | h
            · exact h
            · have := Int.mul_lt_mul_of_pos_right (show a < 0 by omega) q
              omega
          have := core q (by omega) e h0 h1
          omega
        · have ha : a < 0 := by
            rcases ilg a 0 with h | h
            · exact h
            · have := Int.mul_lt_mul_of_pos_right (show 0 < a by omega) (show 0 < -c by omega)
              have e9 : a * -c = -(a * c) := Int.mul_neg _ _
              omega
          have := core (a := -a) (c := -c) (m := m) (r := -r) (by omega) (by omega) (by rw [e]; grind) (by omega) (by omega)
          omega
      have := sh_len0 (show 0 ≤ mny L by omega)
      omega
/-- the word -/
def wend (L : Q4) (z : List Nat) : List Nat := if L.a = 1 then shW L.b ++ z else [116, 116] ++ shW (-L.b) ++ z
theorem WI.fin {x L : Q4} {z : List Nat} (h : WI x L z) (hc : L.c = 0) : tb4 (wend L z) = x ∧ (wend L z).length ≤ 1000 ∧ ∀ c ∈ wend L z, (c == 115 || c == 116) = true := by
  obtain ⟨l1, l2, l3, g4⟩ := h.le
  have zl : z.length ≤ 365 := by
    rcases h.ln with hz | ⟨g1, g2, g3⟩
    · subst hz; simp
    · omega
  have ad : L.a * L.d = 1 := by have := h.det; unfold Q4.det at this; rw [hc] at this; omega
  have ha : (L.a = 1 ∧ L.d = 1) ∨ (L.a = -1 ∧ L.d = -1) := by
    have := one_of ad
    rcases this with e | e
    · rw [e] at ad; left; omega
    · rw [e] at ad; right; omega
  unfold wend
  rcases ha with ⟨e1, e2⟩ | ⟨e1, e2⟩
  · rw [if_pos e1]
    refine ⟨?_, ?_, ?_⟩
    · rw [tb4_app, tb_sh, ← h.is]
      congr 1
      exact Q4.ext' e1.symm rfl hc.symm e2.symm
    · have := sh_len L.b
      rw [List.length_append]; omega
    · intro c hc
      rcases List.mem_append.mp hc with h1 | h1
      · exact sh_st _ c h1
      · exact h.st c h1
  · rw [if_neg (by omega)]
    refine ⟨?_, ?_, ?_⟩
    · rw [tb4_app, tb4_app, tb_sh, ← h.is]
      congr 1
      refine Q4.ext' ?_ ?_ ?_ ?_ <;> simp [Q4.mul, qs, tb4, l4, qT, q1, e1, e2, hc]
    · have := sh_len (-L.b)
      have e3 : [116, 116].length = 2 := rfl
      rw [List.length_append, List.length_append, e3]; omega
    · intro c hc
      rcases List.mem_append.mp hc with h1 | h1
      · rcases List.mem_append.mp h1 with h2 | h2
        · have : c = 116 := by simpa using h2
          subst this; decide
        · exact sh_st _ c h2
      · exact h.st c h1
theorem WI.start {x : Q4} (hd : x.det = 1) (hl : le60 x) : WI x x [] := ⟨hd, one_mul4 x, hl, fun _ h => (List.not_mem_nil h).elim, .inl rfl⟩
end Sq
namespace Sq
open L2
def wlp : Nat → Q4 → List Nat → List Nat
  | 0, L, z => wend L z
  | n + 1, L, z => if L.c = 0 then wend L z else wlp n (wstep L) ([116] ++ shW (mny L) ++ z)
def wordF (x : Q4) : List Nat := wlp x.c.natAbs x []
theorem wlp_end {n : Nat} {L : Q4} {z : List Nat} (h : L.c = 0) : wlp n L z = wend L z := by
  cases n with
  | zero => rfl
  | succ n => exact if_pos h
theorem wlp_go {n : Nat} {L : Q4} {z : List Nat} (h : L.c ≠ 0) : wlp (n + 1) L z = wlp n (wstep L) ([116] ++ shW (mny L) ++ z) := if_neg h
theorem wlp_ok {x : Q4} : ∀ (n : Nat) (L : Q4) (z : List Nat), WI x L z → L.c.natAbs ≤ n → tb4 (wlp n L z) = x ∧ (wlp n L z).length ≤ 1000 ∧ ∀ c ∈ wlp n L z, (c == 115 || c == 116) = true
  | 0, L, z, h, hc => h.fin (by omega)
  | n + 1, L, z, h, hc => by
    by_cases e : L.c = 0
    · rw [wlp_end e]; exact h.fin e
    · rw [wlp_go e]
      obtain ⟨h1, h2⟩ := h.step e
      exact wlp_ok n _ _ h1 (by omega)
theorem wordF_ok {x : Q4} (hd : x.det = 1) (hl : le60 x) : tb4 (wordF x) = x ∧ (wordF x).length ≤ 1000 ∧ ∀ c ∈ wordF x, (c == 115 || c == 116) = true := wlp_ok _ x [] (WI.start hd hl) (Nat.le_refl _)
theorem bt_le60 {x : Q4} (h : le60 x) : x.bt 6 := by
  obtain ⟨h1, h2, h3, h4⟩ := h
  exact ⟨by show x.a.natAbs < 2 ^ 6; omega, by show x.b.natAbs < 2 ^ 6; omega, by show x.c.natAbs < 2 ^ 6; omega, by show x.d.natAbs < 2 ^ 6; omega⟩
theorem wstep_mid {L : Q4} : (qs (-(mny L))).mul L = ⟨-(wstep L).c, -(wstep L).d, (wstep L).a, (wstep L).b⟩ := by
  rw [wstep_is]
  refine Q4.ext' ?_ ?_ ?_ ?_ <;> simp only [Q4.mul, qs] <;> grind
theorem le60_mid {L : Q4} (h : le60 (wstep L)) : le60 ((qs (-(mny L))).mul L) := by
  rw [wstep_mid]
  obtain ⟨h1, h2, h3, h4⟩ := h
  exact ⟨by show (-(wstep L).c).natAbs ≤ 60; omega, by show (-(wstep L).d).natAbs ≤ 60; omega, h1, h2⟩
theorem WI.len {x L : Q4} {z : List Nat} (h : WI x L z) : z.length ≤ 365 := by
  rcases h.ln with hz | ⟨g1, g2, g3⟩
  · subst hz; simp
  · omega
end Sq
namespace K1
open PySem L2 Sq
theorem mv1_sheet {n c : Nat} {x : List Nat × List Nat} (h : Sheet n x.1 x.2) : Sheet n (mv1 n c x).1 (mv1 n c x).2 := by
  unfold mv1
  split
  · exact h.shear
  · exact h.turn
theorem mvs_sheet {n : Nat} : ∀ (z : List Nat) {x : List Nat × List Nat}, Sheet n x.1 x.2 → Sheet n (mvs n z x).1 (mvs n z x).2
  | [], _, h => h
  | c :: z, x, h => mvs_sheet z (x := mv1 n c x) (mv1_sheet h)
abbrev NB (n : Nat) (x : List Nat × List Nat) : List Bd := bandsOf n x.1 x.2 (bord n (later x.1 x.2))
/-- the table of a direction -/
def lq (p q : Int) : Q4 := ⟨wt0 p q, wt1 p q, -q, p⟩
end K1
namespace Sq
open L2
structure WCong (R : List Nat → List Nat → Prop) : Prop where
  refl : ∀ w, R w w
  symm : ∀ {a b}, R a b → R b a
  trans : ∀ {a b c}, R a b → R b c → R a c
  app : ∀ {a b c d}, R a b → R c d → R (a ++ c) (b ++ d)
  tb : ∀ {a b}, R a b → tb4 a = tb4 b
  h4 : R [116, 116, 116, 116] []
  h6 : R [115, 116, 115, 116, 115, 116] [116, 116]
variable {R : List Nat → List Nat → Prop}
/-- tttt may stand behind -/
theorem WCong.pad (h : WCong R) (w : List Nat) : R w (w ++ [116, 116, 116, 116]) := by
  have := h.app (h.refl w) (h.symm h.h4)
  rwa [List.append_nil] at this
theorem WCong.five (h : WCong R) : R [115, 116, 115, 116, 115] [116] := by
  have h1 := h.pad [115, 116, 115, 116, 115]
  have h2 : R ([115, 116, 115, 116, 115, 116] ++ [116, 116, 116]) ([116, 116] ++ [116, 116, 116]) := h.app h.h6 (h.refl _)
  have h3 : R ([116] ++ [116, 116, 116, 116]) ([116] ++ []) := h.app (h.refl _) h.h4
  exact h.trans h1 (h.trans h2 h3)
theorem WCong.six (h : WCong R) : R [116, 115, 116, 115, 116, 115] [116, 116] := h.app (a := [116]) (b := [116]) (h.refl _) h.five
theorem WCong.past1 (h : WCong R) : R ([116, 116] ++ [115]) ([115] ++ [116, 116]) := by
  have h1 : R ([116, 116] ++ [115]) ([115, 116, 115, 116, 115, 116] ++ [115]) := h.app (h.symm h.h6) (h.refl _)
  have h2 : R ([115] ++ [116, 115, 116, 115, 116, 115]) ([115] ++ [116, 116]) := h.app (h.refl _) h.six
  exact h.trans h1 h2
def St (w : List Nat) : Prop := ∀ c ∈ w, c = 115 ∨ c = 116
theorem WCong.past (h : WCong R) : ∀ {w : List Nat}, St w → R ([116, 116] ++ w) (w ++ [116, 116])
  | [], _ => h.refl _
  | c :: w, hw => by
    have h1 : R ([116, 116] ++ [c]) ([c] ++ [116, 116]) := by
      rcases hw c (List.mem_cons_self ..) with e | e
      · rw [e]; exact h.past1
      · rw [e]; exact h.refl _
    have h2 := h.past (w := w) fun x hx => hw x (List.mem_cons_of_mem _ hx)
    have h3 := h.app h1 (h.refl w)
    have h4 := h.app (h.refl [c]) h2
    rw [List.append_assoc, List.append_assoc] at h3
    rw [← List.append_assoc [c] w] at h4
    exact h.trans h3 h4
/-- a word of s and of sts -/
def pwd (P : List Bool) : List Nat := P.flatMap fun b => if b then [115] else [115, 116, 115]
theorem pwd_snoc (P : List Bool) (b : Bool) : pwd (P ++ [b]) = pwd P ++ (if b then [115] else [115, 116, 115]) := by
  unfold pwd
  rw [List.flatMap_append]
  simp
theorem pwd_st (P : List Bool) : St (pwd P) := by
  intro c hc
  obtain ⟨b, _, hb⟩ := List.mem_flatMap.mp hc
  cases b <;> simp at hb <;> omega
theorem rep_snoc (k : Nat) : List.replicate (k + 1) 116 = List.replicate k 116 ++ [116] := List.replicate_succ' ..
def nfw (k : Nat) (P : List Bool) (f : Bool) : List Nat := List.replicate k 116 ++ (pwd P ++ (if f then [116] else []))
theorem snocs (w : List Nat) : w = [] ∨ ∃ v c, w = v ++ [c] := by
  rcases List.eq_nil_or_concat w with e | ⟨v, c, e⟩
  · exact .inl e
  · exact .inr ⟨v, c, by rw [e, List.concat_eq_append]⟩
theorem snocsB (w : List Bool) : w = [] ∨ ∃ v c, w = v ++ [c] := by
  rcases List.eq_nil_or_concat w with e | ⟨v, c, e⟩
  · exact .inl e
  · exact .inr ⟨v, c, by rw [e, List.concat_eq_append]⟩
theorem WCong.nf_step (h : WCong R) (k : Nat) (P : List Bool) (f : Bool) {c : Nat} (hc : c = 115 ∨ c = 116) : ∃ k' P' f', R (nfw k P f ++ [c]) (nfw k' P' f') := by
  rcases hc with e | e
  · subst e
    cases f with
    | false => exact ⟨k, P ++ [true], false, by
        have : nfw k P false ++ [115] = nfw k (P ++ [true]) false := by unfold nfw; rw [pwd_snoc]; simp
        rw [this]; exact h.refl _⟩
    | true =>
      rcases snocsB P with e | ⟨Q, b, e⟩
      · subst e
        exact ⟨k + 1, [true], false, by
          have : nfw k [] true ++ [115] = nfw (k + 1) [true] false := by unfold nfw; rw [rep_snoc]; simp [pwd]
          rw [this]; exact h.refl _⟩
      · subst e
        cases b with
        | true => exact ⟨k, Q ++ [false], false, by
            have : nfw k (Q ++ [true]) true ++ [115] = nfw k (Q ++ [false]) false := by unfold nfw; rw [pwd_snoc, pwd_snoc]; simp
            rw [this]; exact h.refl _⟩
        | false => exact ⟨k, Q, true, by
            have e1 : nfw k (Q ++ [false]) true ++ [115] = (List.replicate k 116 ++ pwd Q) ++ [115, 116, 115, 116, 115] := by unfold nfw; rw [pwd_snoc]; simp
            have e2 : nfw k Q true = (List.replicate k 116 ++ pwd Q) ++ [116] := by unfold nfw; simp
            rw [e1, e2]; exact h.app (h.refl _) h.five⟩
  · subst e
    cases f with
    | false => exact ⟨k, P, true, by
        have : nfw k P false ++ [116] = nfw k P true := by unfold nfw; simp
        rw [this]; exact h.refl _⟩
    | true => exact ⟨k + 2, P, false, by
        have e1 : nfw k P true ++ [116] = List.replicate k 116 ++ (pwd P ++ [116, 116]) := by unfold nfw; simp
        have e2 : nfw (k + 2) P false = List.replicate k 116 ++ ([116, 116] ++ pwd P) := by unfold nfw; rw [rep_snoc, rep_snoc]; simp
        rw [e1, e2]; exact h.app (h.refl _) (h.symm (h.past (pwd_st P)))⟩
theorem WCong.nf (h : WCong R) : ∀ (m : Nat) (w : List Nat), w.length = m → St w → ∃ k P f, R w (nfw k P f)
  | 0, w, hm, _ => ⟨0, [], false, by rw [List.length_eq_zero_iff.mp hm]; exact h.refl _⟩
  | m + 1, w, hm, hw => by
    rcases snocs w with e | ⟨v, c, e⟩
    · rw [e] at hm; exact absurd hm (by simp)
    · subst e
      obtain ⟨k, P, f, h1⟩ := h.nf m v (by simpa using hm) fun x hx => hw x (List.mem_append_left _ hx)
      obtain ⟨k', P', f', h2⟩ := h.nf_step k P f (hw c (List.mem_append_right _ (List.mem_singleton.mpr rfl)))
      exact ⟨k', P', f', h.trans (h.app h1 (h.refl [c])) h2⟩
theorem WCong.rep4 (h : WCong R) : ∀ k, ∃ j, j < 4 ∧ R (List.replicate k 116) (List.replicate j 116)
  | 0 => ⟨0, by omega, h.refl _⟩
  | 1 => ⟨1, by omega, h.refl _⟩
  | 2 => ⟨2, by omega, h.refl _⟩
  | 3 => ⟨3, by omega, h.refl _⟩
  | k + 4 => by
    obtain ⟨j, hj, hr⟩ := h.rep4 k
    have : List.replicate (k + 4) 116 = List.replicate k 116 ++ [116, 116, 116, 116] := by rw [← List.replicate_append_replicate]; rfl
    exact ⟨j, hj, by rw [this]; exact h.trans (h.symm (h.pad _)) hr⟩
theorem WCong.nf4 (h : WCong R) {w : List Nat} (hw : St w) : ∃ k P f, k < 4 ∧ R w (nfw k P f) := by
  obtain ⟨k, P, f, h1⟩ := h.nf _ w rfl hw
  obtain ⟨j, hj, h2⟩ := h.rep4 k
  exact ⟨j, P, f, hj, h.trans h1 (h.app h2 (h.refl _))⟩
/-- the table of a word of s and of sts has no number below 0, and is great where the word is not empty -/
theorem pwd_tb : ∀ (m : Nat) (P : List Bool), P.length = m → 0 ≤ (tb4 (pwd P)).a ∧ 0 ≤ (tb4 (pwd P)).b ∧ 0 ≤ (tb4 (pwd P)).c ∧ 0 ≤ (tb4 (pwd P)).d ∧ 1 ≤ (tb4 (pwd P)).a + (tb4 (pwd P)).b ∧ 1 ≤ (tb4 (pwd P)).c + (tb4 (pwd P)).d ∧ (m ≠ 0 → 3 ≤ (tb4 (pwd P)).a + (tb4 (pwd P)).b + (tb4 (pwd P)).c + (tb4 (pwd P)).d)
  | 0, P, hm => by rw [List.length_eq_zero_iff.mp hm]; decide
  | m + 1, P, hm => by
    rcases snocsB P with e | ⟨Q, b, e⟩
    · rw [e] at hm; exact absurd hm (by simp)
    · subst e
      obtain ⟨h1, h2, h3, h4, h5, h6, _⟩ := pwd_tb m Q (by simpa using hm)
      rw [pwd_snoc, tb4_app]
      generalize tb4 (pwd Q) = M at h1 h2 h3 h4 h5 h6
      obtain ⟨a, b', c, d⟩ := M
      cases b with
      | true =>
        have e : tb4 (if true = true then [115] else [115, 116, 115]) = ⟨1, 1, 0, 1⟩ := rfl
        rw [e]
        simp only [Q4.mul] at *
        omega
      | false =>
        have e : tb4 (if false = true then [115] else [115, 116, 115]) = ⟨1, 0, 1, 1⟩ := rfl
        rw [e]
        simp only [Q4.mul] at *
        omega
theorem WCong.kernel (h : WCong R) {w : List Nat} (hw : St w) (ht : tb4 w = q1) : R w [] := by
  obtain ⟨k, P, f, hk, hr⟩ := h.nf4 hw
  have ht : tb4 (nfw k P f) = q1 := (h.tb hr).symm.trans ht
  unfold nfw at ht hr
  rw [tb4_app, tb4_app] at ht
  obtain ⟨h1, h2, h3, h4, h5, h6, h7⟩ := pwd_tb _ P rfl
  have key : ((k = 0 ∧ f = false) ∨ (k = 3 ∧ f = true)) ∧ P = [] := by
    have hP : P.length = 0 → P = [] := fun e => List.length_eq_zero_iff.mp e
    generalize tb4 (pwd P) = M at ht h1 h2 h3 h4 h5 h6 h7
    obtain ⟨a, b, c, d⟩ := M
    have hk' : k = 0 ∨ k = 1 ∨ k = 2 ∨ k = 3 := by omega
    have t0 : tb4 (List.replicate 0 116) = ⟨1, 0, 0, 1⟩ := rfl
    have t1 : tb4 (List.replicate 1 116) = ⟨0, -1, 1, 0⟩ := rfl
    have t2 : tb4 (List.replicate 2 116) = ⟨-1, 0, 0, -1⟩ := rfl
    have t3 : tb4 (List.replicate 3 116) = ⟨0, 1, -1, 0⟩ := rfl
    have f0 : tb4 (if false = true then [116] else []) = ⟨1, 0, 0, 1⟩ := rfl
    have f1 : tb4 (if true = true then [116] else []) = ⟨0, -1, 1, 0⟩ := rfl
    cases f <;> rcases hk' with e | e | e | e <;> subst e <;>
      (first | rw [t0] at ht | rw [t1] at ht | rw [t2] at ht | rw [t3] at ht) <;> (first | rw [f0] at ht | rw [f1] at ht) <;>
      simp only [Q4.mul, q1, Q4.mk.injEq] at ht <;> dsimp only at * <;> first
        | (exfalso; omega)
        | exact ⟨.inl ⟨rfl, rfl⟩, hP (by omega)⟩
        | exact ⟨.inr ⟨rfl, rfl⟩, hP (by omega)⟩
  obtain ⟨⟨e1, e2⟩ | ⟨e1, e2⟩, e3⟩ := key
  · subst e1; subst e2; subst e3; exact hr
  · subst e1; subst e2; subst e3; exact h.trans hr h.h4
theorem WCong.inv (h : WCong R) : ∀ {w : List Nat}, St w → ∃ v, St v ∧ R (w ++ v) [] ∧ R (v ++ w) []
  | [], hw => ⟨[], hw, h.refl _, h.refl _⟩
  | c :: w, hw => by
    obtain ⟨v, hv, a1, a2⟩ := h.inv (w := w) fun x hx => hw x (List.mem_cons_of_mem _ hx)
    have one : ∃ z, St z ∧ R ([c] ++ z) [] ∧ R (z ++ [c]) [] := by
      rcases hw c (List.mem_cons_self ..) with e | e
      · subst e
        refine ⟨[116, 115, 116, 115, 116, 116, 116], by unfold St; decide, ?_, ?_⟩
        · exact h.trans (h.app (a := [115, 116, 115, 116, 115, 116]) (c := [116, 116]) h.h6 (h.refl _)) h.h4
        · have b1 : R ([116, 115, 116, 115, 116] ++ ([116, 116] ++ [115])) ([116, 115, 116, 115, 116] ++ ([115] ++ [116, 116])) := h.app (h.refl _) h.past1
          have b2 : R ([116, 115, 116, 115, 116, 115] ++ [116, 116]) ([116, 116] ++ [116, 116]) := h.app h.six (h.refl _)
          exact h.trans b1 (h.trans b2 h.h4)
      · subst e
        exact ⟨[116, 116, 116], by unfold St; decide, h.h4, h.h4⟩
    obtain ⟨z, hz, b1, b2⟩ := one
    refine ⟨v ++ z, fun x hx => (List.mem_append.mp hx).elim (hv x) (hz x), ?_, ?_⟩
    · have c1 : R ([c] ++ ((w ++ v) ++ z)) ([c] ++ ([] ++ z)) := h.app (h.refl _) (h.app a1 (h.refl _))
      have e : c :: w ++ (v ++ z) = [c] ++ ((w ++ v) ++ z) := by simp
      rw [e]; exact h.trans c1 b1
    · have c1 : R (v ++ ((z ++ [c]) ++ w)) (v ++ ([] ++ w)) := h.app (h.refl _) (h.app b2 (h.refl _))
      have e : v ++ z ++ c :: w = v ++ ((z ++ [c]) ++ w) := by simp
      rw [e]; exact h.trans c1 a2
/-- words of one table are alike -/
theorem WCong.one (h : WCong R) {w w' : List Nat} (hw : St w) (hw' : St w') (e : tb4 w = tb4 w') : R w w' := by
  obtain ⟨v, hv, a1, a2⟩ := h.inv hw'
  have k : tb4 (w ++ v) = q1 := by
    have := h.tb a1
    rw [tb4_app] at this ⊢
    rw [e]; exact this
  have hk := h.kernel (fun x hx => (List.mem_append.mp hx).elim (hw x) (hv x)) k
  have b1 := h.app (h.refl w) (h.symm a2)
  have b2 := h.app hk (h.refl w')
  rw [List.append_nil] at b1
  rw [List.append_assoc] at b2
  exact h.trans b1 b2
end Sq
namespace K1
open PySem L2 Sq
theorem back_cmp5 {n : Nat} {u v : List Nat} (ru : Row n u) (rv : Row n v) {k : Nat} (hk : k < n) : nx (back (cmp n u v)) k = nx (back v) (nx (back u) k) := by
  have rc := cmp_row ru rv
  have h1 := ru.back.nlt hk
  have h2 := rv.back.nlt h1
  have e : nx (cmp n u v) (nx (back v) (nx (back u) k)) = k := by rw [cmp_nx h2, nx_back' rv h1, nx_back' ru hk]
  have := congrArg (nx (back (cmp n u v))) e
  rw [nx_back rc h2] at this
  exact this.symm
/-- y is x under other numbers -/
def Alk (n : Nat) (x y : List Nat × List Nat) : Prop := ∃ f, Row n f ∧ Lds n x.1 y.1 f ∧ Lds n x.2 y.2 f
theorem alk_refl {n : Nat} (x : List Nat × List Nat) (h : Row n x.1 ∧ Row n x.2) : Alk n x x := by
  have rid : Row n (List.range n) := Row.of_perm (List.Perm.refl _)
  have nid : ∀ k, k < n → nx (List.range n) k = k := fun k hk => by
    show (List.range n).getD k 0 = k
    rw [List.getD_eq_getElem?_getD]; simp [hk]
  exact ⟨List.range n, rid, fun k hk => by rw [nid k hk, nid _ (h.1.nlt hk)], fun k hk => by rw [nid k hk, nid _ (h.2.nlt hk)]⟩
theorem lds_symm {n : Nat} {a b f : List Nat} (rb : Row n b) (ra : Row n a) (rf : Row n f) (h : Lds n a b f) : Lds n b a (back f) := fun k hk => by
  have hb := rf.back.nlt hk
  have e := h _ hb
  rw [nx_back' rf hk] at e
  rw [e, nx_back rf (ra.nlt hb)]
theorem lds_trans {n : Nat} {a b c f g : List Nat} (ra : Row n a) (rf : Row n f) (h : Lds n a b f) (h' : Lds n b c g) : Lds n a c (cmp n g f) := fun k hk => by
  rw [cmp_nx hk, cmp_nx (ra.nlt hk), h' _ (rf.nlt hk), h _ hk]
theorem alk_symm {n : Nat} {x y : List Nat × List Nat} (hx : Row n x.1 ∧ Row n x.2) (hy : Row n y.1 ∧ Row n y.2) (h : Alk n x y) : Alk n y x := by
  obtain ⟨f, rf, h1, h2⟩ := h
  exact ⟨back f, rf.back, lds_symm hy.1 hx.1 rf h1, lds_symm hy.2 hx.2 rf h2⟩
theorem alk_trans {n : Nat} {x y z : List Nat × List Nat} (hx : Row n x.1 ∧ Row n x.2) (h : Alk n x y) (h' : Alk n y z) : Alk n x z := by
  obtain ⟨f, rf, h1, h2⟩ := h
  obtain ⟨g, rg, h3, h4⟩ := h'
  exact ⟨cmp n g f, cmp_row rg rf, lds_trans hx.1 rf h1 h3, lds_trans hx.2 rf h2 h4⟩
theorem alk_one {n c : Nat} {x y : List Nat × List Nat} (hx : Row n x.1 ∧ Row n x.2) (hy : Row n y.1 ∧ Row n y.2) (h : Alk n x y) : Alk n (mv1 n c x) (mv1 n c y) := by
  obtain ⟨f, rf, h1, h2⟩ := h
  obtain ⟨r, u⟩ := x
  obtain ⟨r', u'⟩ := y
  obtain ⟨rr, ru⟩ := hx
  obtain ⟨rr', ru'⟩ := hy
  dsimp only at *
  unfold mv1
  split
  · refine ⟨f, rf, h1, fun k hk => ?_⟩
    show nx (cmp n u' (back r')) (nx f k) = nx f (nx (cmp n u (back r)) k)
    rw [cmp_nx (rf.nlt hk), cmp_nx hk, back_lds rr rr' rf h1 k hk, h2 _ (rr.back.nlt hk)]
  · exact ⟨f, rf, back_lds ru ru' rf h2, h1⟩
theorem alk_all {n : Nat} : ∀ (z : List Nat) {x y : List Nat × List Nat}, Row n x.1 ∧ Row n x.2 → Row n y.1 ∧ Row n y.2 → Alk n x y → Alk n (mvs n z x) (mvs n z y)
  | [], _, _, _, _, h => h
  | c :: z, x, y, hx, hy, h => alk_all z (x := mv1 n c x) (y := mv1 n c y) (mv1_row hx) (mv1_row hy) (alk_one hx hy h)
theorem mvs_app {n : Nat} (a b : List Nat) (x : List Nat × List Nat) : mvs n (a ++ b) x = mvs n b (mvs n a x) := by
  unfold mvs
  rw [List.foldl_append]
def AW (a b : List Nat) : Prop := tb4 a = tb4 b ∧ ∀ (n : Nat) (x : List Nat × List Nat), Row n x.1 ∧ Row n x.2 → Alk n (mvs n a x) (mvs n b x)
theorem mv_s {n : Nat} (x : List Nat × List Nat) : mv1 n 115 x = (x.1, cmp n x.2 (back x.1)) := if_pos rfl
theorem mv_t {n : Nat} (x : List Nat × List Nat) : mv1 n 116 x = (back x.2, x.1) := if_neg (by decide)
theorem six_alk {n : Nat} {r u : List Nat} (rr : Row n r) (ru : Row n u) : Alk n (back r, back u) (mvs n [115, 116, 115, 116, 115, 116] (r, u)) := by
  have e : mvs n [115, 116, 115, 116, 115, 116] (r, u) = mv1 n 116 (mv1 n 115 (mv1 n 116 (mv1 n 115 (mv1 n 116 (mv1 n 115 (r, u)))))) := rfl
  rw [e, mv_s, mv_t, mv_s, mv_t, mv_s, mv_t]
  dsimp only
  have r1 := cmp_row ru rr.back
  rw [back_back r1]
  have r2 := cmp_row rr r1
  rw [back_back r2]
  have r3 := cmp_row r1.back r2
  have g1 : ∀ k, k < n → nx (cmp n u (back r)) k = nx u (nx (back r) k) := fun k hk => cmp_nx hk
  have g2 : ∀ k, k < n → nx (cmp n r (cmp n u (back r))) k = nx r (nx u (nx (back r) k)) := fun k hk => by rw [cmp_nx hk, cmp_nx hk]
  have gb : ∀ k, k < n → nx (back (cmp n u (back r))) k = nx r (nx (back u) k) := fun k hk => by rw [back_cmp5 ru rr.back hk, back_back rr]
  have g3 : ∀ k, k < n → nx (cmp n (back (cmp n u (back r))) (cmp n r (cmp n u (back r)))) k = nx r (nx (back u) (nx r (nx u (nx (back r) k)))) := fun k hk => by
    rw [cmp_nx hk, g2 k hk, gb _ (rr.nlt (ru.nlt (rr.back.nlt hk)))]
  have gf : ∀ k, k < n → nx (cmp n r (back u)) k = nx r (nx (back u) k) := fun k hk => cmp_nx hk
  refine ⟨cmp n r (back u), cmp_row rr ru.back, fun k hk => ?_, fun k hk => ?_⟩
  · have k1 := rr.back.nlt hk
    have k2 := ru.back.nlt k1
    have k3 := rr.nlt k2
    have e : nx (cmp n (back (cmp n u (back r))) (cmp n r (cmp n u (back r)))) (nx (cmp n r (back u)) (nx (back r) k)) = nx (cmp n r (back u)) k := by
      rw [gf _ k1, g3 _ k3, nx_back rr k2, nx_back' ru k1, nx_back' rr hk, gf k hk]
    show nx (back (cmp n (back (cmp n u (back r))) (cmp n r (cmp n u (back r))))) (nx (cmp n r (back u)) k) = nx (cmp n r (back u)) (nx (back r) k)
    rw [← e, nx_back r3 (by rw [gf _ k1]; exact k3)]
  · have k1 := ru.back.nlt hk
    have k2 := ru.back.nlt k1
    have k3 := rr.nlt k2
    have e : nx (cmp n r (cmp n u (back r))) (nx (cmp n r (back u)) (nx (back u) k)) = nx (cmp n r (back u)) k := by
      rw [gf _ k1, g2 _ k3, nx_back rr k2, nx_back' ru k1, gf k hk]
    show nx (back (cmp n r (cmp n u (back r)))) (nx (cmp n r (back u)) k) = nx (cmp n r (back u)) (nx (back u) k)
    rw [← e, nx_back r2 (by rw [gf _ k1]; exact k3)]
theorem aw_cong : WCong AW where
  refl w := ⟨rfl, fun n x hx => alk_refl _ (mvs_row w hx)⟩
  symm h := ⟨h.1.symm, fun n x hx => alk_symm (mvs_row _ hx) (mvs_row _ hx) (h.2 n x hx)⟩
  trans h h' := ⟨h.1.trans h'.1, fun n x hx => alk_trans (mvs_row _ hx) (h.2 n x hx) (h'.2 n x hx)⟩
  app {a b c d} h h' := ⟨by rw [tb4_app, tb4_app, h.1, h'.1], fun n x hx => by
    rw [mvs_app, mvs_app]
    exact alk_trans (mvs_row _ (mvs_row _ hx)) (alk_all c (mvs_row a hx) (mvs_row b hx) (h.2 n x hx)) (h'.2 n _ (mvs_row b hx))⟩
  tb h := h.1
  h4 := ⟨rfl, fun n x hx => by
    have e : mvs n [116, 116, 116, 116] x = (back (back x.1), back (back x.2)) := rfl
    rw [e, back_back hx.1, back_back hx.2]
    exact alk_refl x hx⟩
  h6 := ⟨rfl, fun n x hx => by
    have e : mvs n [116, 116] x = (back x.1, back x.2) := rfl
    rw [e]
    exact alk_symm ⟨hx.1.back, hx.2.back⟩ (mvs_row _ hx) (six_alk hx.1 hx.2)⟩
/-- sheets moved by two words of one table are alike -/
theorem one_table {n : Nat} {w w' : List Nat} (hw : St w) (hw' : St w') (e : tb4 w = tb4 w') {x : List Nat × List Nat} (hx : Row n x.1 ∧ Row n x.2) : Alk n (mvs n w x) (mvs n w' x) := (aw_cong.one hw hw' e).2 n x hx
end K1
namespace L2
open PySem PySem.Spec PyProof.Rows PySem.W
def pd (a b : Nat) : PyData := .tuple [.int a, .int b]
def pkey (a b : Nat) : List Int := intsN [a, b]
theorem pkey_lt (a b a' b' : Nat) : HT.lexLt (pkey a b) (pkey a' b') = if a = a' then (if b = b' then false else decide (b < b')) else decide (a < a') := by
  show HT.lexLt ((a : Int) :: (b : Int) :: []) ((a' : Int) :: (b' : Int) :: []) = _
  rw [HT.lexLt_cons, HT.lexLt_cons]
  by_cases e : a = a'
  · rw [if_pos e, if_pos (by omega)]
    by_cases f : b = b'
    · rw [if_pos f, if_pos (by omega)]; exact lex_irr []
    · rw [if_neg f, if_neg (by omega)]; exact decide_eq_decide.mpr ⟨fun h => by omega, fun h => by omega⟩
  · rw [if_neg e, if_neg (by omega)]; exact decide_eq_decide.mpr ⟨fun h => by omega, fun h => by omega⟩
theorem reads_pd {h : Heap} {x : Value} {a b : Nat} {as : List Addr} (r : Reads h x (pd a b) as) : ∃ (p : Addr) (o : Obj) (vs : Array Value) (n : Nat) (t t' : Tok), x = .ref p ∧ h.get? p = some o ∧ o.cls = .type "tuple" ∧ o.data = .seq vs n ∧ vs.toList = [.int a t, .int b t'] := by
  cases r with
  | tuple h1 h2 h3 h4 =>
    rename_i p o vs n
    generalize hv : vs.toList = L at h4
    cases h4 with
    | cons r1 t1 =>
      cases t1 with
      | cons r2 t2 =>
        cases t2
        cases r1 with
        | int _ t =>
          cases r2 with
          | int _ t' => exact ⟨p, o, vs, n, t, t', rfl, h1, h2, h3, hv⟩
theorem ask_pair {prog : Program} {w : World} {A : Around} {E : Value → Shared → Prop} {s : Shared} {x y : Value} {a b a' b' : Nat} {as bs : List Addr} {Q : Bool → Shared → Prop} (rx : Reads s.heap x (pd a b) as) (ry : Reads s.heap y (pd a' b') bs) (hu : A.units + 4 < cLine)
    (h : Q (HT.lexLt (pkey a b) (pkey a' b')) s) : wpAny (model prog w) A (keyLt' (tuples' true) x y) Q E s := by
  obtain ⟨p, o, vs, n, t1, t2, rfl, g1, _, g3, gv⟩ := reads_pd rx
  obtain ⟨p', o', ws, n', t1', t2', rfl, k1, _, k3, kv⟩ := reads_pd ry
  refine kat_lt g1 g3 k1 k3 ?_
  have e1 : vs.size = 2 := by rw [← Array.length_toList, gv]; rfl
  have e2 : ws.size = 2 := by rw [← Array.length_toList, kv]; rfl
  rw [gv, kv, e1, e2]
  rw [pkey_lt] at h
  refine kat_cons (SeqAt.EqAt.int_int (A := A) (s := s) (a : Int) t1 (a' : Int) t1' prog w _ _ (kat_go (fun e => kat_yes ?_) (fun e => kat_no ?_)))
  · have ea : a = a' := by have := eq_of_beq e; omega
    rw [if_pos ea] at h
    refine kat_cons (SeqAt.EqAt.int_int (A := A) (s := s) (b : Int) t2 (b' : Int) t2' prog w _ _ (kat_go (fun e => kat_yes (kat_nil ?_)) (fun e => kat_no ?_)))
    · have eb : b = b' := by have := eq_of_beq e; omega
      rw [if_pos eb] at h
      exact h
    · have eb : ¬ b = b' := fun z => by rw [z] at e; simp at e
      rw [if_neg eb] at h
      show wpAny (model prog w) A (oneLt' false _ _) Q _ s
      refine kat_one _ _ (cmp_lt_int A s b b' t2 t2' prog w _ _ ?_)
      have ed : decide ((b : Int) < (b' : Int)) = decide (b < b') := decide_eq_decide.mpr ⟨fun h => by omega, fun h => by omega⟩
      rw [ed]; exact h
  · have ea : ¬ a = a' := fun z => by rw [z] at e; simp at e
    rw [if_neg ea] at h
    show wpAny (model prog w) A (oneLt' true _ _) Q _ s
    refine oneLt_int ?_
    have ed : decide ((a : Int) < (a' : Int)) = decide (a < a') := decide_eq_decide.mpr ⟨fun h => by omega, fun h => by omega⟩
    rw [ed]; exact h
theorem pd_dt {K : PySem.W.Frag} {H : Hp} {x : Addr} {a b : Nat} (h : H x = some (.tup [.int (a : Int), .int (b : Int)])) : Dt K H (.ref x) (pd a b) := .tup (SqT.of h) (.cons (.int _) (.cons (.int _) .nil))
section
variable {X : Cx}
def rSortedP (K : PySem.W.Frag) : List V → Hp → VK → Prop := fun xs H Q => ∃ (p : Addr) (as : List Addr) (A B : Nat → Nat), xs = [.ref p] ∧ SqL K H p (as.map V.ref) ∧ as.length < 64 ∧
  (∀ i, i < as.length → H (as.getD i 0) = some (.tup [.int (A i : Int), .int (B i : Int)])) ∧
  ∀ (l : Addr) (π : List Nat), H l = none → π.Perm (List.range as.length) → π.Pairwise (fun i j => HT.lexLt (pkey (A j) (B j)) (pkey (A i) (B i)) = false) → Q (.ref l) (upd H l (.lst ((π.map fun i => as.getD i 0).map V.ref)))
theorem call_sortedP (hc : X.calm = true) (hu : X.A.units + 10 < cLine) : CallR X (.builtin "sorted") (rSortedP X.K) := by
  intro pins s σ H xs us Q I rr h
  obtain ⟨p, as, A, B, rfl, hq, h64, hB, q⟩ := h
  obtain ⟨u, rfl, ru⟩ := vals1 rr
  obtain rfl : u = Value.ref p := ru
  obtain ⟨its, rv, pl, hz⟩ := I.list hq
  have ei := vals_refs rv
  subst ei
  have hlen : (as.map Value.ref).length = as.length := List.length_map ..
  have hget : ∀ i, i < as.length → (as.map Value.ref).getD i Value.none = .ref (as.getD i 0) := fun i hi => by
    simp [List.getD_eq_getElem?_getD, hi]
  let lt : Nat → Nat → Bool := fun i j => HT.lexLt (pkey (A i) (B i)) (pkey (A j) (B j))
  have hkl : ∀ i j, i < as.length → j < as.length → kl (rank lt as.length) i j = lt i j := fun i j hi hj => rank_kl (lt := lt) (fun i => lex_irr _) (fun i j k h1 h2 => lex_tr (b := pkey (A j) (B j)) h1 h2) (fun i j k h => lex_nt (b := pkey (A j) (B j)) h) hi hj
  have hrd : ∀ i, i < as.length → ∃ ps, Reads s.heap (.ref (as.getD i 0)) (pd (A i) (B i)) ps := fun i hi => Dt.reads I (pd_dt (hB i hi)) rfl
  have hfst : ∀ i, ∃ v : Value, i < as.length → ∃ (t : Tok) (o : Obj) (xs : Array Value) (n : Nat), v = .int (A i) t ∧ s.heap.get? (as.getD i 0) = some o ∧ o.cls = .type "tuple" ∧ o.data = .seq xs n ∧ xs[0]? = some v := fun i => by
    by_cases hi : i < as.length
    · obtain ⟨ps, r⟩ := hrd i hi
      obtain ⟨p', o, vs, n, t, t', e, g1, g2, g3, gv⟩ := reads_pd r
      injection e with e
      subst e
      exact ⟨.int (A i) t, fun _ => ⟨t, o, vs, n, rfl, g1, g2, g3, by rw [← Array.getElem?_toList, gv]; rfl⟩⟩
    · exact ⟨.none, fun z => absurd z hi⟩
  refine sorted_list_by (rank lt as.length) (tuples' true) pl.isList (by rw [hlen]; exact h64) (I.ok.hd hc) hu (fun c A' E' R s' _ hs hR => ?_) (fun c A' i j C' s' hu' hs hi hj hC => ?_) (fun h1 h2 tk e π p1 p2 hk he hk2 => ?_)
  · let F : Nat → Value := fun i => Classical.choose (hfst i)
    have hF : ∀ i, i < as.length → ∃ (t : Tok) (o : Obj) (xs : Array Value) (n : Nat), F i = .int (A i) t ∧ s.heap.get? (as.getD i 0) = some o ∧ o.cls = .type "tuple" ∧ o.data = .seq xs n ∧ xs[0]? = some (F i) := fun i hi => Classical.choose_spec (hfst i) hi
    refine kat_kind (T := .type "int") (kat_tups F fun i hi => ?_) (by simp; rw [hlen] at c; omega) (fun v hv => ?_) rfl (hR s'.toks)
    · obtain ⟨t, o, xs, n, _, g1, g2, g3, g4⟩ := hF i hi
      exact ⟨o, xs, n, hs _ _ g1, g2, g3, g4⟩
    · obtain ⟨i, hi, rfl⟩ := List.mem_map.mp hv
      obtain ⟨t, _, _, _, e, _⟩ := hF i (List.mem_range.mp hi)
      rw [e]
      exact fun A'' Q'' E'' s'' hs'' q'' => wpAny_pure q''
  · rw [hlen] at hi hj
    unfold kas_ask
    rw [hget i hi, hget j hj]
    obtain ⟨pa, ra⟩ := hrd i hi
    obtain ⟨pb, rb⟩ := hrd j hj
    have hC := hC s'.toks
    rw [hkl i j hi hj] at hC
    exact ask_pair (Reads.keeps hs ra) (Reads.keeps hs rb) (by omega) hC
  · rw [hlen] at p1
    have I1 : Inv X pins σ H { s with heap := h1, toks := tk } := I.kept hk
    have hl : (π.map fun i => as.getD i 0).length < 64 := by rw [List.length_map, p1.length_eq, List.length_range]; exact h64
    have hv : (π.map fun i => (as.map Value.ref).getD i Value.none) = (π.map fun i => as.getD i 0).map Value.ref := by
      rw [List.map_map]
      refine List.map_congr_left fun i hi => ?_
      exact hget i (List.mem_range.mp (p1.mem_iff.mp hi))
    rw [hv] at he
    refine ⟨.ref h1.objs.size, _, I1.laid (a := h1.objs.size) (o := .lst ((π.map fun i => as.getD i 0).map V.ref)) (h' := h2) (t' := tk) hk2 (Nat.le_refl _) ⟨?_, _, e, refs_vals _, he⟩, rfl, q _ π (I1.hok.fresh (Nat.le_refl _)) p1 ?_⟩
    · rw [List.length_map]; exact Nat.le_of_lt (small1000 (by omega))
    · refine p2.imp_of_mem fun {i j} hi hj hij => ?_
      have hi := List.mem_range.mp (p1.mem_iff.mp hi)
      have hj := List.mem_range.mp (p1.mem_iff.mp hj)
      have := hkl j i hj hi
      show lt j i = false
      rw [← this]
      exact decide_eq_false (by omega)
end
end L2
namespace K1
open PySem L2 Sq
abbrev Pr : Type := Nat × Nat
def pk (b : Pr) : List Int := pkey b.1 b.2
theorem pk_inj {b c : Pr} (h : pk b = pk c) : b = c := by
  have := intsN_inj h
  obtain ⟨b1, b2⟩ := b
  obtain ⟨c1, c2⟩ := c
  simp only [List.cons.injEq] at this
  obtain ⟨rfl, rfl, _⟩ := this
  rfl
def sortedP (bs : List Pr) : Prop := bs.Pairwise fun x y => HT.lexLt (pk y) (pk x) = false
theorem sortedP_unique {bs cs : List Pr} (p : bs.Perm cs) (h1 : sortedP bs) (h2 : sortedP cs) : bs = cs :=
  List.Perm.eq_of_pairwise (fun a b _ _ x y => pk_inj (lex_tot y x)) h1 h2 p
def PrAt (H : Hp) (a : Addr) (b : Pr) : Prop := H a = some (.tup [.int (b.1 : Int), .int (b.2 : Int)])
def PsAt (H : Hp) : List Addr → List Pr → Prop
  | [], [] => True
  | a :: as, b :: bs => PrAt H a b ∧ PsAt H as bs
  | _, _ => False
theorem PsAt.len {H : Hp} : ∀ {as : List Addr} {bs : List Pr}, PsAt H as bs → as.length = bs.length
  | [], [], _ => rfl
  | _ :: as, _ :: Ms, ⟨_, h2⟩ => by simp [PsAt.len h2]
  | [], _ :: _, h => h.elim
  | _ :: _, [], h => h.elim
theorem PsAt.get {H : Hp} : ∀ {as : List Addr} {bs : List Pr}, PsAt H as bs → ∀ {i : Nat} {a : Addr}, as[i]? = some a → ∃ b, bs[i]? = some b ∧ PrAt H a b
  | [], [], _, i, a, h => by simp at h
  | b :: as, M :: Ms, ⟨h1, h2⟩, 0, a, h => by simp at h; subst h; exact ⟨M, rfl, h1⟩
  | b :: as, M :: Ms, ⟨h1, h2⟩, i + 1, a, h => by
    obtain ⟨M', e1, e2⟩ := PsAt.get h2 (i := i) (a := a) (by simpa using h)
    exact ⟨M', by simpa using e1, e2⟩
  | [], _ :: _, h, _, _, _ => h.elim
  | _ :: _, [], h, _, _, _ => h.elim
theorem PsAt.snoc {H : Hp} : ∀ {as : List Addr} {Ms : List Pr} {a : Addr} {M : Pr}, PsAt H as Ms → PrAt H a M → PsAt H (as ++ [a]) (Ms ++ [M])
  | [], [], _, _, _, h => ⟨h, trivial⟩
  | _ :: _, _ :: _, _, _, ⟨h1, h2⟩, h => ⟨h1, PsAt.snoc h2 h⟩
  | [], _ :: _, _, _, h, _ => h.elim
  | _ :: _, [], _, _, h, _ => h.elim
theorem PsAt.mono {H H' : Hp} (e : ∀ b xs, H b = some (.tup xs) → H' b = some (.tup xs)) : ∀ {as : List Addr} {bs : List Pr}, PsAt H as bs → PsAt H' as bs
  | [], [], _ => trivial
  | _ :: _, _ :: _, ⟨h1, h2⟩ => ⟨e _ _ h1, PsAt.mono e h2⟩
  | [], _ :: _, h => h.elim
  | _ :: _, [], h => h.elim
theorem PsAt.same {H H' : Hp} {as : List Addr} {bs : List Pr} (s : Same H H') (h : PsAt H as bs) : PsAt H' as bs := PsAt.mono (fun b xs h => s _ _ h) h
theorem PsAt.pick {H : Hp} {as : List Addr} {bs : List Pr} (h : PsAt H as bs) : ∀ π : List Nat, (∀ i ∈ π, i < as.length) → PsAt H (π.map fun i => as.getD i 0) (π.map fun i => bs.getD i (0, 0))
  | [], _ => trivial
  | i :: π, hi => by
    refine ⟨?_, PsAt.pick h π fun j hj => hi j (by simp [hj])⟩
    have hlt := hi i (by simp)
    have ha : as[i]? = some as[i] := List.getElem?_eq_getElem hlt
    obtain ⟨b, hb, hB⟩ := h.get ha
    show PrAt H (as.getD i 0) (bs.getD i (0, 0))
    have e1 : as.getD i 0 = as[i] := by rw [List.getD_eq_getElem?_getD, ha]; rfl
    have e2 : bs.getD i (0, 0) = b := by rw [List.getD_eq_getElem?_getD, hb]; rfl
    rw [e1, e2]
    exact hB
/-- sorted(l), l a list of pairs -/
theorem sortP_at {K : PySem.W.Frag} {H : Hp} {p : Addr} {as : List Addr} {bs : List Pr} {Q : VK} (hp : H p = some (.lst (as.map V.ref))) (h : PsAt H as bs) (hl : as.length < 64)
    (k : ∀ (l : Addr) (as' : List Addr) (bs' : List Pr), H l = none → PsAt (upd H l (.lst (as'.map V.ref))) as' bs' → bs'.Perm bs → sortedP bs' → Q (.ref l) (upd H l (.lst (as'.map V.ref)))) : rSortedP K [.ref p] H Q := by
  have hlen := h.len
  refine ⟨p, as, fun i => (bs.getD i (0, 0)).1, fun i => (bs.getD i (0, 0)).2, rfl, SqL.of hp, hl, fun i hi => ?_, fun l π hl0 hπ hs => ?_⟩
  · have := (h.pick [i] (by simpa using hi)).1
    exact this
  · refine k l _ (π.map fun i => bs.getD i (0, 0)) hl0 (PsAt.mono (tup_new hl0) (h.pick π fun i hi => List.mem_range.mp (hπ.mem_iff.mp hi))) ?_ ?_
    · have := hπ.map (fun i => bs.getD i ((0, 0) : Pr))
      rw [hlen, range_getD] at this
      exact this
    · exact List.pairwise_map.mpr hs
def short (b : Bd) : Pr := (b.1, b.2.1)
abbrev teShort (K : PySem.W.Frag) : TE := tTup (tCons (tOp (rIxT K) (tVar 0) (tC (.int 0))) (tCons (tOp (rIxT K) (tVar 0) (tC (.int 1))) tNil))
theorem compC2 {K : PySem.W.Frag} {Hc : Hp} {tl te : TE} {g : TG} {m : Nat} {pull : List Nat} {Q : VK} {σ : St} (Pr : Hp → Addr → Prop) (hj : ∀ R : VK, (∀ H1 a, Pr H1 a → R (.ref a) H1) → tl σ Hc R)
    (k : ∀ H1 a, Pr H1 a → tComp (iList K (fun _ H R => R (.ref a) H)) m pull g te σ H1 Q) : tComp (iList K tl) m pull g te σ Hc Q := hj _ fun H1 a h => k H1 a h
/-- [(band[0], band[1]) for band in bands] -/
theorem compShort {K : PySem.W.Frag} {Hc : Hp} {a : Addr} {as : List Addr} {bs : List Bd} {pull : List Nat} {Q : VK} {σ : St} {rest : St} (hp : Hc a = some (.lst (as.map V.ref))) (hB : BsAt Hc as bs) (hb : bst 1 pull σ = none :: rest) (hm : as.length ≤ 1000)
    (k : ∀ (H' : Hp) (d : Addr) (ps : List Addr), Same Hc H' → Hc d = none → H' d = some (.lst (ps.map V.ref)) → PsAt H' ps (bs.map short) → Q (.ref d) H') :
    tComp (iList K (fun _ H R => R (.ref a) H)) 1 pull (gName 0) (teShort K) σ Hc Q := by
  have hlen := hB.len
  have sl2 : 2 ≤ sizeLine := by decide
  refine ⟨a, rfl, ⟨_, SqL.of hp⟩, fun d hd => ?_⟩
  rw [hb]
  refine comp_ex (J := Itl K a) (Q := fun d H' => Q (.ref d) H') as.length (fun i xs σ H9 => (∃ o, σ = o :: rest) ∧ Same Hc H9 ∧ ∃ ps : List Addr, xs = ps.map V.ref ∧ ps.length = i ∧ PsAt H9 ps ((bs.take i).map short)) ⟨⟨_, rfl⟩, same_upd (Same.refl _) hd, [], rfl, rfl, trivial⟩ ?_ ?_
  · rintro i xs σ H9 hi ⟨⟨o, rfl⟩, s9, ps, rfl, la, hP⟩ hd9
    have hq := SqL.of (K := K) (s9 _ _ hp)
    have ha : as[i]? = some as[i] := List.getElem?_eq_getElem hi
    generalize as[i] = b at ha
    obtain ⟨B, hBi, t, h1, h2⟩ := hB.get ha
    have hmi : (as.map V.ref)[i]? = some (.ref b) := by rw [List.getElem?_map, ha]; rfl
    refine ⟨⟨_, _, hq, hmi⟩, fun y H4 ⟨e1, hy⟩ => ?_⟩
    subst e1
    have hy := hy _ hq
    rw [hmi] at hy
    cases hy
    have h1' := SqT.of (K := K) (s9 _ _ h1)
    refine ⟨_, rfl, b, _, 0, _, rfl, rfl, h1', atI_nat (j := 0) rfl, _, rfl, b, _, 1, _, rfl, rfl, h1', atI_nat (j := 1) rfl, sl2, fun x hx => ?_⟩
    have ux := same_upd (o := .tup [.int (B.1 : Int), .int (B.2.1 : Int)]) (Same.refl H4) hx
    have hd6 := ux _ _ hd9
    refine xpost hi hd6 (by rw [List.length_map]; omega) ⟨⟨_, rfl⟩, same_upd (s9.trans ux) hd, ps ++ [x], by simp, by simp [la], ?_⟩
    have ef : (bs.take (i + 1)).map short = (bs.take i).map short ++ [short B] := by rw [List.take_add_one, hBi, List.map_append]; rfl
    rw [ef]
    exact PsAt.mono (tup_upd hd6) (PsAt.snoc (hP.same ux) (by show _ = _; rw [upd_same]; rfl))
  · rintro xs σ H9 ⟨⟨o, rfl⟩, s9, ps, rfl, la, hP⟩ hd9
    rw [hlen, List.take_length] at hP
    exact ⟨⟨_, SqL.of (s9 _ _ hp), by rw [List.length_map]; exact Nat.le_refl _⟩, k H9 d ps s9 hd hd9 hP⟩
def pD (b : Pr) : PyData := pd b.1 b.2
def psD (bs : List Pr) : PyData := .list (bs.map pD)
theorem ps_all {K : PySem.W.Frag} {H : Hp} : ∀ {as : List Addr} {bs : List Pr}, PsAt H as bs → DtAll K H (as.map V.ref) (bs.map pD)
  | [], [], _ => .nil
  | _ :: _, _ :: _, ⟨h1, h2⟩ => .cons (pd_dt h1) (ps_all h2)
  | [], _ :: _, h => h.elim
  | _ :: _, [], h => h.elim
theorem psD_dt {K : PySem.W.Frag} {H : Hp} {p : Addr} {as : List Addr} {bs : List Pr} (h : H p = some (.lst (as.map V.ref))) (hB : PsAt H as bs) : Dt K H (.ref p) (psD bs) := .lst (SqL.of h) (ps_all hB)
theorem pD_eqv (b : Pr) : PyData.eqv (pD b) (pD b) = true := by
  show (((b.1 : Int) == (b.1 : Int)) && (((b.2 : Int) == (b.2 : Int)) && true)) = true
  simp
theorem psD_eqv (bs : List Pr) : PyData.eqv (psD bs) (psD bs) = true := by
  show PyData.eqvAll (bs.map pD) (bs.map pD) = true
  induction bs with
  | nil => rfl
  | cons M Ms ih =>
    show (PyData.eqv (pD M) (pD M) && PyData.eqvAll (Ms.map pD) (Ms.map pD)) = true
    rw [ih, pD_eqv]; rfl
theorem psD_lay (bs : List Pr) : (psD bs).canLay0 = true := by
  show PyData.canLayAll0 (bs.map pD) = true
  induction bs with
  | nil => rfl
  | cons M Ms ih =>
    show (PyData.canLay0 (pD M) && PyData.canLayAll0 (Ms.map pD)) = true
    rw [ih]; rfl
theorem psD_depth (bs : List Pr) : (psD bs).depth ≤ 64 := by
  show PyData.depthAll (bs.map pD) + 1 ≤ 64
  have : PyData.depthAll (bs.map pD) ≤ 1 := by
    induction bs with
    | nil => exact Nat.zero_le _
    | cons M Ms ih =>
      show max (PyData.depth (pD M)) (PyData.depthAll (Ms.map pD)) ≤ 1
      have : PyData.depth (pD M) = 1 := rfl
      omega
  omega
end K1
namespace Sq
def mvs (L w : Nat) (tm : Int) (s : Nat) : Nat := (((s : Int) + tm * (w : Int)) % (L : Int)).toNat
theorem mvs_int {L w : Nat} {tm : Int} {s : Nat} (hL : 0 < L) : ((mvs L w tm s : Nat) : Int) = ((s : Int) + tm * (w : Int)) % (L : Int) :=
  Int.toNat_of_nonneg (Int.emod_nonneg _ (by omega))
theorem mvs_lt {L w : Nat} {tm : Int} {s : Nat} (hL : 0 < L) : mvs L w tm s < L := by
  have h1 := mvs_int (w := w) (tm := tm) (s := s) hL
  have h2 := Int.emod_lt_of_pos ((s : Int) + tm * (w : Int)) (show (0 : Int) < (L : Int) by omega)
  omega
theorem mvs_to {L w e : Nat} {tm d : Int} (hL : 0 < L) (hd : tm + (e : Int) = (L : Int) * d) {s : Nat} (hs : s < L) : (mvs L w tm s + e * w) % L = s := by
  have h1 := mvs_int (w := w) (tm := tm) (s := s) hL
  have h2 := Int.mul_ediv_add_emod ((s : Int) + tm * (w : Int)) (L : Int)
  have h3 : ((mvs L w tm s : Nat) : Int) + (e : Int) * (w : Int) = (s : Int) + (L : Int) * (d * (w : Int) - ((s : Int) + tm * (w : Int)) / (L : Int)) := by
    have e1 : (tm + (e : Int)) * (w : Int) = (L : Int) * d * (w : Int) := by rw [hd]
    rw [Int.add_mul] at e1
    rw [Int.mul_sub, ← Int.mul_assoc, ← e1, h1]
    omega
  have h4 : (((mvs L w tm s + e * w) % L : Nat) : Int) = (s : Int) := by
    rw [Int.natCast_emod, Int.natCast_add, Int.natCast_mul, h3, Int.add_mul_emod_self_left]
    exact Int.emod_eq_of_lt (by omega) (by omega)
  omega
theorem mvs_from {L w e : Nat} {tm d : Int} (hL : 0 < L) (hd : tm + (e : Int) = (L : Int) * d) {q : Nat} (hq : q < L) : mvs L w tm ((q + e * w) % L) = q := by
  have hs : (q + e * w) % L < L := Nat.mod_lt _ hL
  have h1 := mvs_int (w := w) (tm := tm) (s := (q + e * w) % L) hL
  have h3 : ((((q + e * w) % L : Nat) : Int) + tm * (w : Int)) = (q : Int) + (L : Int) * (d * (w : Int) - ((q : Int) + (e : Int) * (w : Int)) / (L : Int)) := by
    have h2 := Int.mul_ediv_add_emod ((q : Int) + (e : Int) * (w : Int)) (L : Int)
    have e1 : (tm + (e : Int)) * (w : Int) = (L : Int) * d * (w : Int) := by rw [hd]
    rw [Int.add_mul] at e1
    rw [Int.mul_sub, ← Int.mul_assoc, ← e1, Int.natCast_emod, Int.natCast_add, Int.natCast_mul]
    omega
  rw [h3, Int.add_mul_emod_self_left, Int.emod_eq_of_lt (by omega) (by omega)] at h1
  omega
theorem mvs_perm {L w e : Nat} {tm d : Int} (hL : 0 < L) (hd : tm + (e : Int) = (L : Int) * d) (p p' : Nat → Bool) (h : ∀ q, p' q = p ((q + e * w) % L)) :
    (((List.range L).filter p).map (mvs L w tm)).Perm ((List.range L).filter p') := by
  have nd1 : ((List.range L).filter p).Nodup := List.Nodup.sublist List.filter_sublist List.nodup_range
  have nd2 : ((List.range L).filter p').Nodup := List.Nodup.sublist List.filter_sublist List.nodup_range
  have hin : ∀ s ∈ (List.range L).filter p, s < L := fun s hs => List.mem_range.mp (List.mem_filter.mp hs).1
  have nd3 : (((List.range L).filter p).map (mvs L w tm)).Nodup := by
    refine List.pairwise_map.mpr (List.Pairwise.imp_of_mem (fun {a b} ha hb hne hab => hne ?_) nd1)
    have h1 := mvs_to (w := w) hL hd (hin a ha)
    have h2 := mvs_to (w := w) hL hd (hin b hb)
    rw [hab] at h1
    omega
  refine (List.perm_ext_iff_of_nodup nd3 nd2).mpr fun q => ?_
  constructor
  · intro hq
    obtain ⟨s, hs, rfl⟩ := List.mem_map.mp hq
    have hsL := hin s hs
    refine List.mem_filter.mpr ⟨List.mem_range.mpr (mvs_lt hL), ?_⟩
    rw [h, mvs_to hL hd hsL]
    exact (List.mem_filter.mp hs).2
  · intro hq
    obtain ⟨h1, h2⟩ := List.mem_filter.mp hq
    rw [h] at h2
    exact List.mem_map.mpr ⟨(q + e * w) % L, List.mem_filter.mpr ⟨List.mem_range.mpr (Nat.mod_lt _ hL), h2⟩, mvs_from hL hd (List.mem_range.mp h1)⟩
/-- a band's words moved -/
def IsMoved (tm : Int) (b b' : Nat × Nat × List Nat) : Prop := b'.1 = b.1 ∧ b'.2.1 = b.2.1 ∧ (b.2.2.map (mvs b.1 b.2.1 tm)).Perm b'.2.2 ∧ b'.2.2.Pairwise (· ≤ ·)
theorem shear_band {n : Nat} {r u v E : List Nat} {x0 c e : Nat} {tm d : Int} (rr : Row n r) (ru : Row n u) (rv : Row n v) (hx0 : x0 < n) (h : hits E (cyc n r x0) = true)
    (m : Moves n r u v E x0 c e (wid n u E (cyc n r x0))) (hd : tm + (e : Int) = ((cyc n r x0).length : Int) * d) : IsMoved tm (bandOf n u E (cyc n r x0)) (bandOf n (shear n u v c) E (cyc n r x0)) := by
  have hw := shear_wid rr ru rv hx0 h m
  refine ⟨rfl, hw, ?_, ?_⟩
  · show ((shifts E (cyc n r x0) (ups u (cyc n r x0) (wid n u E (cyc n r x0)))).map (mvs (cyc n r x0).length (wid n u E (cyc n r x0)) tm)).Perm (shifts E (cyc n r x0) (ups (shear n u v c) (cyc n r x0) (wid n (shear n u v c) E (cyc n r x0))))
    rw [hw]
    refine mvs_perm ?_ hd _ _ fun q => shear_shifted rr ru rv hx0 m q
    rw [cyc_len]; unfold per; omega
  · exact List.Pairwise.filter _ (range_sorted _)
theorem shear_bands {n : Nat} {r u v E : List Nat} {c : Nat} {tm : Int} (rr : Row n r) (ru : Row n u) (rv : Row n v)
    (H : ∀ x0, x0 < n → hits E (cyc n r x0) = true → ∃ e d, Moves n r u v E x0 c e (wid n u E (cyc n r x0)) ∧ tm + ((e : Nat) : Int) = ((cyc n r x0).length : Int) * d) :
    ∀ (i : Nat) b, (bandsOf n r u E)[i]? = some b → ∃ b', (bandsOf n r (shear n u v c) E)[i]? = some b' ∧ IsMoved tm b b' := by
  intro i b hb
  unfold bandsOf at hb ⊢
  rw [List.getElem?_map] at hb ⊢
  obtain ⟨S, hS, rfl⟩ := Option.map_eq_some_iff.mp hb
  rw [hS]
  obtain ⟨h1, h2⟩ := List.mem_filter.mp (List.mem_of_getElem? hS)
  obtain ⟨x, hx, _, rfl⟩ := rounds_mem h1
  obtain ⟨e, d, m, hd⟩ := H x hx h2
  exact ⟨_, rfl, shear_band rr ru rv hx h2 m hd⟩
theorem bandsOf_len' {n : Nat} {r u u' E : List Nat} : (bandsOf n r u E).length = (bandsOf n r u' E).length := by simp [bandsOf]
end Sq
namespace K1
open PySem L2 Sq
theorem alk_bands {n : Nat} {x y : List Nat × List Nat} (s : Sheet n x.1 x.2) (hy : Row n y.1 ∧ Row n y.2) (h : Alk n x y) : (NB n y).Perm (NB n x) := by
  obtain ⟨f, rf, h1, h2⟩ := h
  have rr := s.row
  have ru := s.col
  have lt : ∀ {a b : List Nat}, Row n a → ∀ k, k < n → nx (later a b) k = nx b (nx a (nx (back b) (nx (back a) k))) := fun ra k hk => later_nx ra hk
  exact bands_ren s rr hy.1 ru hy.2 rf (later_row rr ru) h1 h2 (lt rr) (lt hy.1) fun c => by
    have cm := plain_comm rr ru (lt rr) c
    exact ⟨fun _ _ => rfl, fun z hz => (cm z hz).symm, fun z hz => cm z hz, fun _ _ => rfl⟩
theorem shear_is {n : Nat} {r u : List Nat} (rr : Row n r) (ru : Row n u) : cmp n u (back r) = shear n u (back r) 1 := rfl
/-- bands of a sheet sheared once, told short -/
theorem shear_short {n : Nat} {x : List Nat × List Nat} (hx : Row n x.1 ∧ Row n x.2) : (NB n (mv1 n 115 x)).map short = (NB n x).map short := by
  obtain ⟨r, u⟩ := x
  obtain ⟨rr, ru⟩ := hx
  dsimp only at rr ru
  have e1 : mv1 n 115 (r, u) = (r, shear n u (back r) 1) := by rw [← shear_is rr ru]; rfl
  rw [e1]
  have rv64 := rr.back
  have hlat : later r (shear n u (back r) 1) = later r u := by
    unfold later
    refine List.map_congr_left fun k hk => ?_
    rw [rr.len] at hk
    exact shear_later rr ru rv64 (back_comm rr) _ (List.mem_range.mp hk)
  show (bandsOf n r (shear n u (back r) 1) (bord n (later r (shear n u (back r) 1)))).map short = (bandsOf n r u (bord n (later r u))).map short
  rw [hlat]
  have un : ∀ k, k < n → k ∉ bord n (later r u) → nx u (nx r (nx (back u) (nx (back r) k))) = k := fun k hk h => bord_un rr hk h
  generalize bord n (later r u) = M at *
  have hmoved := shear_bands (c := 1) (tm := 1) (E := M) rr ru rv64 (fun x0 hx0 hh => by
    have hw := wid_is ru (fun y hy => cyc_lt rr hx0 hy) hh
    refine ⟨1 * (per n r x0 - 1), 1, moves_back rr ru hx0 un hw.2.1 _, ?_⟩
    rw [cyc_len]
    have hp : 1 ≤ per n r x0 := by unfold per; omega
    omega)
  have hl : (bandsOf n r (shear n u (back r) 1) M).length = (bandsOf n r u M).length := bandsOf_len'
  refine List.ext_getElem? fun i => ?_
  rw [List.getElem?_map, List.getElem?_map]
  cases hb : (bandsOf n r u M)[i]? with
  | none =>
    have : (bandsOf n r (shear n u (back r) 1) M)[i]? = none := by
      rw [List.getElem?_eq_none_iff] at hb ⊢; omega
    rw [this]
  | some b =>
    obtain ⟨b', hb', m1, m2, _, _⟩ := hmoved i b hb
    rw [hb']
    show some (short b') = some (short b)
    unfold short
    rw [m1, m2]
theorem shear_many {n : Nat} {x : List Nat × List Nat} (hx : Row n x.1 ∧ Row n x.2) : ∀ k, (NB n (mvs n (List.replicate k 115) x)).map short = (NB n x).map short
  | 0 => rfl
  | k + 1 => by
    have e : mvs n (List.replicate (k + 1) 115) x = mvs n (List.replicate k 115) (mv1 n 115 x) := rfl
    rw [e, shear_many (mv1_row hx) k, shear_short hx]
theorem tb_rep : ∀ k : Nat, tb4 (List.replicate k 115) = ⟨1, (k : Int), 0, 1⟩
  | 0 => rfl
  | k + 1 => by
    rw [List.replicate_succ', tb4_snoc, tb_rep k]
    refine Q4.ext' ?_ ?_ ?_ ?_ <;> simp [Q4.mul, l4, qS]
/-- what a table does to a direction -/
def act (x : Q4) (p q : Int) : Int × Int := (x.a * p + x.b * q, x.c * p + x.d * q)
theorem act_mul (x y : Q4) (p q : Int) : act (x.mul y) p q = act x (act y p q).1 (act y p q).2 := by
  unfold act
  refine Prod.ext ?_ ?_ <;> simp only [Q4.mul] <;> grind
theorem same_act {x y : Q4} {p q : Int} (dx : x.det = 1) (dy : y.det = 1) (ex : act x p q = (1, 0)) (ey : act y p q = (1, 0)) : ∃ k : Int, x = (⟨1, k, 0, 1⟩ : Q4).mul y := by
  obtain ⟨a, b, c, d⟩ := x
  obtain ⟨a', b', c', d'⟩ := y
  have e1 : a * p + b * q = 1 := congrArg Prod.fst ex
  have e2 : c * p + d * q = 0 := congrArg Prod.snd ex
  have f1 : a' * p + b' * q = 1 := congrArg Prod.fst ey
  have f2 : c' * p + d' * q = 0 := congrArg Prod.snd ey
  have dx : a * d - b * c = 1 := dx
  have dy : a' * d' - b' * c' = 1 := dy
  have hd : d = p := by grind
  have hc : c = -q := by grind
  have hd' : d' = p := by grind
  have hc' : c' = -q := by grind
  refine ⟨(b - b') * a' - (a - a') * b', Q4.ext' ?_ ?_ ?_ ?_⟩
  · show a = 1 * a' + ((b - b') * a' - (a - a') * b') * c'
    grind
  · show b = 1 * b' + ((b - b') * a' - (a - a') * b') * d'
    grind
  · show c = 0 * a' + 1 * c'
    grind
  · show d = 0 * b' + 1 * d'
    grind
theorem tb_det {w : List Nat} (hw : St w) : (tb4 w).det = 1 := by
  have : ∀ (w : List Nat) (t : Q4), St w → t.det = 1 → (w.foldl (fun t c => (l4 c).mul t) t).det = 1 := by
    intro w
    induction w with
    | nil => intro t _ h; exact h
    | cons c w ih =>
      intro t hw h
      refine ih _ (fun x hx => hw x (List.mem_cons_of_mem _ hx)) ?_
      rcases hw c (List.mem_cons_self ..) with e | e
      · subst e
        show (qS.mul t).det = 1
        simp only [Q4.det, Q4.mul, qS] at *
        grind
      · subst e
        show (qT.mul t).det = 1
        simp only [Q4.det, Q4.mul, qT] at *
        grind
  exact this w q1 hw rfl
/-- sheets moved so that one direction comes to lie level have one and the same bands, told short -/
theorem level_bands {n : Nat} {x : List Nat × List Nat} (s : Sheet n x.1 x.2) {v w : List Nat} (hv : St v) (hw : St w) {p q : Int} (ev : act (tb4 v) p q = (1, 0)) (ew : act (tb4 w) p q = (1, 0)) : ((NB n (mvs n v x)).map short).Perm ((NB n (mvs n w x)).map short) := by
  have hx : Row n x.1 ∧ Row n x.2 := ⟨s.row, s.col⟩
  have main : ∀ {v w : List Nat}, St v → St w → ∀ k : Nat, tb4 v = (⟨1, (k : Int), 0, 1⟩ : Q4).mul (tb4 w) → ((NB n (mvs n v x)).map short).Perm ((NB n (mvs n w x)).map short) := fun {v w} hv hw k e => by
    have st : St (w ++ List.replicate k 115) := fun c hc => by
      rcases List.mem_append.mp hc with h | h
      · exact hw c h
      · exact .inl (List.eq_of_mem_replicate h)
    have al := one_table hv st (by rw [e, tb4_app, tb_rep]) hx
    have al' := alk_symm (mvs_row _ hx) (mvs_row _ hx) al
    have b1 := alk_bands (mvs_sheet (w ++ List.replicate k 115) s) (mvs_row v hx) al'
    refine (b1.map short).trans ?_
    rw [mvs_app, shear_many (mvs_row w hx)]
  obtain ⟨k, e⟩ := same_act (tb_det hv) (tb_det hw) ev ew
  rcases Int.lt_or_le k 0 with g | g
  · refine (main hw hv (-k).toNat ?_).symm
    rw [e, show (((-k).toNat : Nat) : Int) = -k by omega, ← mul_assoc4]
    refine Q4.ext' ?_ ?_ ?_ ?_ <;> simp only [Q4.mul] <;> grind
  · refine main hv hw k.toNat ?_
    rw [e, show ((k.toNat : Nat) : Int) = k by omega]
theorem lq_word {p q : Int} (h1 : p.natAbs ≤ 60) (h2 : q.natAbs ≤ 60) (h3 : Int.gcd p q = 1) : tb4 (wordF (lq p q)) = lq p q ∧ St (wordF (lq p q)) ∧ act (lq p q) p q = (1, 0) := by
  obtain ⟨w1, w2, w3⟩ := wts_of h1 h2 h3
  have hdet : (lq p q).det = 1 := by
    show wt0 p q * p - wt1 p q * (-q) = 1
    rw [Int.mul_neg]; omega
  have hl60 : le60 (lq p q) := ⟨w1, w2, by show (-q).natAbs ≤ 60; omega, by show p.natAbs ≤ 60; omega⟩
  obtain ⟨e1, _, e3⟩ := wordF_ok hdet hl60
  refine ⟨e1, fun c hc => by simpa using e3 c hc, ?_⟩
  show (wt0 p q * p + wt1 p q * q, -q * p + p * q) = _
  rw [w3, Int.neg_mul, Int.mul_comm q p]
  simp; omega
theorem act_gcd {x : Q4} {p q p' q' : Int} (hd : x.det = 1) (e : act x p q = (p', q')) (hg : Int.gcd p q = 1) : Int.gcd p' q' = 1 := by
  obtain ⟨a, b, c, d⟩ := x
  have hd : a * d - b * c = 1 := hd
  have e1 : a * p + b * q = p' := congrArg Prod.fst e
  have e2 : c * p + d * q = q' := congrArg Prod.snd e
  have g1 : ((Int.gcd p' q' : Nat) : Int) ∣ p' := Int.gcd_dvd_left ..
  have g2 : ((Int.gcd p' q' : Nat) : Int) ∣ q' := Int.gcd_dvd_right ..
  have hp : p = d * p' - b * q' := by grind
  have hq : q = a * q' - c * p' := by grind
  have d1 : ((Int.gcd p' q' : Nat) : Int) ∣ p := by rw [hp]; exact Int.dvd_sub (Int.dvd_mul_of_dvd_right g1) (Int.dvd_mul_of_dvd_right g2)
  have d2 : ((Int.gcd p' q' : Nat) : Int) ∣ q := by rw [hq]; exact Int.dvd_sub (Int.dvd_mul_of_dvd_right g2) (Int.dvd_mul_of_dvd_right g1)
  have := Int.dvd_gcd d1 d2
  rw [hg] at this
  exact Nat.eq_one_of_dvd_one (by exact_mod_cast this)
/-- the sheet under contrary numbers -/
def rv64 (n : Nat) : List Nat := (List.range n).reverse
theorem rv64_row (n : Nat) : Row n (rv64 n) := Row.of_perm (List.reverse_perm _)
theorem rv64_nx {n k : Nat} (hk : k < n) : nx (rv64 n) k = n - 1 - k := by
  show (List.range n).reverse.getD k 0 = _
  rw [List.getD_eq_getElem?_getD, List.getElem?_eq_getElem (by simpa using hk)]
  simp
def con (n : Nat) (f : List Nat) : List Nat := (List.range n).map fun i => n - 1 - nx f (n - 1 - i)
theorem con_is {n : Nat} {f : List Nat} (rf : Row n f) : con n f = cmp n (rv64 n) (cmp n f (rv64 n)) := by
  refine List.map_congr_left fun k hk => ?_
  have hk := List.mem_range.mp hk
  have h1 := rf.nlt (show n - 1 - k < n by omega)
  rw [cmp_nx hk, rv64_nx hk, rv64_nx h1]
theorem con_row {n : Nat} {f : List Nat} (rf : Row n f) : Row n (con n f) := by rw [con_is rf]; exact cmp_row (rv64_row n) (cmp_row rf (rv64_row n))
theorem con_lds {n : Nat} {f : List Nat} (rf : Row n f) : Lds n f (con n f) (rv64 n) := fun k hk => by
  have h1 := rf.nlt hk
  have h2 : n - 1 - k < n := by omega
  rw [con_is rf, rv64_nx hk, rv64_nx h1, cmp_nx h2, cmp_nx h2, rv64_nx h2, show n - 1 - (n - 1 - k) = k by omega, rv64_nx h1]
theorem con_alk {n : Nat} {r u : List Nat} (rr : Row n r) (ru : Row n u) : Alk n (r, u) (con n r, con n u) := ⟨rv64 n, rv64_row n, con_lds rr, con_lds ru⟩
end K1
namespace L2
open PySem PySem.Spec PyProof.Rows
section
variable {X : Cx} {tg : Expr}
end
end L2
namespace L2
open PySem PySem.Spec PyProof.Rows
section
variable {X : Cx}
theorem boot_any : bootBuiltins "any" = some (.builtin "any") := by decide +kernel
theorem call_any_bools (hc : X.calm = true) : CallR X (.builtin "any") (fun xs H Q => ∃ (p : Addr) (bs : List Bool), xs = [.ref p] ∧ SqL X.K H p (bs.map V.bl) ∧ Q (.bl (bs.any id)) H) := by
  intro pins s σ H xs us Q I r h
  obtain ⟨p, bs, rfl, hq, q⟩ := h
  obtain ⟨u, rfl, ru⟩ := vals1 r
  obtain rfl : u = Value.ref p := ru
  obtain ⟨its, rv, pl, hz⟩ := I.list hq
  have hL := pl.isList
  have hlt : p < s.heap.objs.size := by obtain ⟨o, ho, _⟩ := id hL; exact Heap.lt_size ho
  have hlen : its.length = bs.length := by rw [← rv.length]; simp
  refine call_any_walkS (wpAny_pyIter_list hL ⟨s.heap.objs.size, _, _, _, its.toArray.size, _, _, fun i => bs.getD i false, rfl, (Walks.list (A := X.A.in1) (I.ok.hd hc) s.heap.objs.size p (Nat.ne_of_lt hlt) its.toArray).toS, ⟨⟨_, Heap.get?_push_size _ rfl, rfl, rfl⟩, hL.push _⟩, ?_, fun s' hm => ?_⟩)
  · intro i v s2 Q2 E2 hP hQ
    have hv : its[i]? = some v := by simpa using hP
    have hi : i < bs.length := by rw [← hlen]; exact (List.getElem?_eq_some_iff.mp hv).1
    have hb : (bs.map V.bl)[i]? = some (.bl bs[i]) := by simp [hi]
    obtain ⟨u, hu, ru⟩ := rv.get hb
    rw [hv] at hu; cases hu
    obtain rfl : v = Value.bool bs[i] := ru
    have e : bs.getD i false = bs[i] := by simp [List.getD_eq_getElem?_getD, hi]
    simp only [e] at hQ
    exact wpAny_truthy_bool hQ
  · rw [Moved.eq_with hm]
    refine ⟨.bl _, H, I.kept (h' := s'.heap) (t' := s'.toks) fun b o e => hm.heap b o (fun z => ?_) (Heap.get?_push_of_some _ e), rfl, ?_⟩
    · exact absurd (Heap.lt_size e) (by rw [List.mem_singleton.mp z]; exact Nat.lt_irrefl _)
    · have e : (List.range its.toArray.size).any (fun i => bs.getD i false) = bs.any id := by
        have : its.toArray.size = bs.length := by simpa using hlen
        rw [this]
        apply Bool.eq_iff_iff.mpr
        simp only [List.any_eq_true, List.mem_range, id]
        constructor
        · rintro ⟨i, hi, h⟩
          refine ⟨bs[i], List.getElem_mem hi, ?_⟩
          simpa [List.getD_eq_getElem?_getD, hi] using h
        · rintro ⟨b, hb, h⟩
          obtain ⟨i, hi, rfl⟩ := List.mem_iff_getElem.mp hb
          exact ⟨i, hi, by simpa [List.getD_eq_getElem?_getD, hi] using h⟩
      rw [e]; exact q
end
end L2
namespace K1
open PySem L2 Sq
/-- [test(x) for x in l], l a list of numbers -/
theorem compLstB {K : PySem.W.Frag} {Hc : Hp} {p : Addr} {r : List Nat} {tl te : TE} {pull : List Nat} {Q : VK} {σ : St} {rest : St} (g : Nat → Bool) (hj : ∀ R : VK, R (.ref p) Hc → tl σ Hc R) (hp : Hc p = some (.lst (nv r))) (hb : bst 1 pull σ = none :: rest)
    (hte : ∀ (x : Nat) (H : Hp) (R : VK), x ∈ r → Same Hc H → R (.bl (g x)) H → te (some (.int (x : Int)) :: rest) H R) (hm : r.length ≤ 1000)
    (k : ∀ (H' : Hp) (d : Addr), Same Hc H' → Hc d = none → H' d = some (.lst ((r.map g).map V.bl)) → Q (.ref d) H') :
    tComp (iList K tl) 1 pull (gName 0) te σ Hc Q := by
  refine hj _ ⟨p, rfl, ⟨_, SqL.of hp⟩, fun d hd => ?_⟩
  rw [hb]
  refine comp_by (J := Itl K p) (Q := fun d H' => Q (.ref d) H') r.length ((r.map g).map V.bl) (by simp) (fun i σ H9 => (∃ o, σ = o :: rest) ∧ Same Hc H9) ⟨⟨_, rfl⟩, same_upd (Same.refl _) hd⟩ ?_ ?_
  · rintro i σ H9 hi ⟨⟨o, rfl⟩, s9⟩ hd9
    have hq := SqL.of (K := K) (s9 _ _ hp)
    have hmi := nv_get (List.getElem?_eq_getElem hi)
    refine ⟨⟨_, _, hq, hmi⟩, fun y H4 ⟨e1, hy⟩ => ?_⟩
    subst e1
    have hy := hy _ hq
    rw [hmi] at hy
    cases hy
    refine hte _ _ _ (List.getElem_mem hi) s9 ?_
    exact cpost hi hm hd9 (by simp [hi]) ⟨⟨_, rfl⟩, same_upd s9 hd⟩
  · rintro σ H9 ⟨⟨o, rfl⟩, s9⟩ hd9
    exact ⟨⟨_, SqL.of (s9 _ _ hp), by rw [nv_len]; exact Nat.le_refl _⟩, k H9 d s9 hd hd9⟩
def spHa : Sp := fun vs H Q _ => ∃ (p q : Addr) (E S : List Nat), vs = [.ref p, .ref q] ∧ H p = some (.lst (nv E)) ∧ H q = some (.lst (nv S)) ∧ S.length ≤ 1000 ∧ ∀ H' : Hp, Same H H' → Q (.bl (hits E S)) H'
section
variable {P : Program} {w : World} {K : PySem.W.Frag} {mg : Str → Option Value} {base : Heap}
abbrev n_ha : List Str := ["edge", "squares"]
theorem sc_ha : FnScope n_ha ["edge", "squares"] (defScope sHasSome) := ⟨rfl, rfl, rfl, by decide +kernel, rfl, by decide +kernel, by decide +kernel⟩
theorem nd_ha : (["square", "edge"] : List Str).Nodup := by decide +kernel
theorem ok_ha {f : Addr} {fd : FuncData} (T : Bi mg) (T_any : mg "any" = none) (F : Fn K mg "has_some" sHasSome ["edge", "squares"] f fd) : FnOk P w K mg base CX0 1 f fd ["edge", "squares"] spHa := by
  refine F.F.ok sc_ha (fun vs H Q E h => ?_) (fun cdv A outer s H vs Q E hr h => ?_)
  · obtain ⟨p, q, E0, S, rfl, _⟩ := h; rfl
  · obtain ⟨p, q, E0, S, rfl, hp, hq, l1, k⟩ := h
    refine ⟨_, (pss_one (ps_ret (pe_callB (call_any_bools rfl) rfl T_any boot_any (pa_cons (pe_comp (N := n_ha) (names := (defScope sHasSome).names) (N' := ["square", "edge"]) (k := 1) (pull := [0]) (te := (tOp (rIn K false) (tVar 0) (tVar 1))) rfl ⟨by rfl, by decide +kernel, by decide +kernel, by rfl, by decide +kernel, by decide +kernel⟩ rfl rfl (pi_list (pv 1)) (fun _ _ _ _ _ _ => pg_name (i := 0) nd_ha rfl (Or.inl rfl)) (fun _ _ _ _ _ _ => (pe_cmpR op_in_seq (pv 0) (pv 1) (by with_unfolding_all rfl)))) pa_nil)))), ?_⟩
    dsimp only [tRet, tCB, tCons]
    refine compLstB (p := q) (r := S) (rest := [some (.ref p)]) (fun x => decide (x ∈ E0)) (fun R hR => ⟨_, rfl, hR⟩) hq rfl (fun x H2 R hx s2 hR => ?_) l1 fun H1 e s1 he0 he => ?_
    · refine ⟨_, rfl, _, rfl, p, _, rfl, .inl (SqL.of (s2 _ _ hp)), rfl, nv_flat _, ?_⟩
      rw [if_neg (by decide), inV_nv]; exact hR
    · refine ⟨e, _, rfl, SqL.of he, ?_⟩
      have e2 : (S.map fun x => decide (x ∈ E0)).any id = hits E0 S := by unfold hits; rw [List.any_map]; rfl
      rw [e2]; exact k _ s1
end
end K1
namespace K1
open PySem L2 Sq
theorem nx_some {X : List Nat} {i : Nat} (h : i < X.length) : X[i]? = some (nx X i) := by
  show X[i]? = some (X.getD i 0)
  rw [List.getD_eq_getElem?_getD, List.getElem?_eq_getElem h]; rfl
/-- [test(k) for k in range(m)] -/
theorem compRangeB {Hc : Hp} {m : Nat} {ta : TA} {te : TE} {pull : List Nat} {Q : VK} {σ : St} {rest : St} (g : Nat → Bool) (hj : ∀ R : List V → Hp → Prop, R [.int (m : Int)] Hc → ta σ Hc R) (hb : bst 1 pull σ = none :: rest)
    (hte : ∀ (i : Nat) (H : Hp) (R : VK), i < m → Same Hc H → R (.bl (g i)) H → te (some (.int (i : Int)) :: rest) H R) (hm : m ≤ 1000)
    (k : ∀ (H' : Hp) (d : Addr), Same Hc H' → Hc d = none → H' d = some (.lst (((List.range m).map g).map V.bl)) → Q (.ref d) H') :
    tComp (iRng1 ta) 1 pull (gName 0) te σ Hc Q := by
  refine hj _ ⟨(m : Int), rfl, by omega, by omega, fun d hd => ?_⟩
  rw [Int.toNat_natCast, hb]
  refine comp_by (J := Itr 0 m) (Q := fun d H' => Q (.ref d) H') m (((List.range m).map g).map V.bl) (by simp) (fun i σ H9 => (∃ o, σ = o :: rest) ∧ Same Hc H9) ⟨⟨_, rfl⟩, same_upd (Same.refl _) hd⟩ ?_ ?_
  · rintro i σ H9 hi ⟨⟨o, rfl⟩, s9⟩ hd9
    refine ⟨hi, fun x H4 ⟨e1, e2⟩ => ?_⟩
    subst e1 e2
    rw [show (0 : Int) + (i : Int) = (i : Int) from by omega]
    refine hte i _ _ hi s9 ?_
    exact cpost hi (by omega) hd9 (by simp [hi]) ⟨⟨_, rfl⟩, same_upd s9 hd⟩
  · rintro σ H9 ⟨⟨o, rfl⟩, s9⟩ hd9
    exact ⟨Nat.le_refl _, k H9 d s9 hd hd9⟩
def spHs : Sp := fun vs H Q _ => ∃ (p q q' : Addr) (E S W : List Nat) (t : Nat), vs = [.ref p, .ref q, .ref q', .int (t : Int)] ∧ H p = some (.lst (nv E)) ∧ H q = some (.lst (nv S)) ∧ H q' = some (.lst (nv W)) ∧ W.length = S.length ∧ S.length ≤ 36 ∧ 1 ≤ S.length ∧ ∀ H' : Hp, Same H H' → Q (.bl (shifted E S W t)) H'
section
variable {P : Program} {w : World} {K : PySem.W.Frag} {mg : Str → Option Value} {base : Heap}
abbrev n_hs : List Str := ["edge", "lowest", "above", "t", "length"]
theorem sc_hs : FnScope n_hs ["edge", "lowest", "above", "t"] (defScope sHasShift) := ⟨rfl, rfl, rfl, by decide +kernel, rfl, by decide +kernel, by decide +kernel⟩
theorem nd_hs : (["k", "edge", "lowest", "above", "t", "length"] : List Str).Nodup := by decide +kernel
theorem ok_hs {f : Addr} {fd : FuncData} (T : Bi mg) (T_any : mg "any" = none) (F : Fn K mg "has_shift" sHasShift ["edge", "lowest", "above", "t"] f fd) : FnOk P w K mg base CX0 1 f fd ["edge", "lowest", "above", "t"] spHs := by
  refine F.F.ok sc_hs (fun vs H Q E h => ?_) (fun cdv A outer s H vs Q E hr h => ?_)
  · obtain ⟨p, q, q', E0, S, W, t, rfl, _⟩ := h; rfl
  · obtain ⟨p, q, q', E0, S, W, t, rfl, hp, hq, hq', l2', l36, l0, k⟩ := h
    refine ⟨_, (pss_cons (ps_set (i := 4) sc_hs.nd rfl (Or.inr rfl) (pe_callB call_len_seq rfl T.len PySem.boot_len (pa_cons (pv 1) pa_nil)))
      (pss_one (ps_ret (pe_callB (call_any_bools rfl) rfl T_any boot_any (pa_cons (pe_comp (N := n_hs) (names := (defScope sHasShift).names) (N' := ["k", "edge", "lowest", "above", "t", "length"]) (k := 1) (pull := [0, 1, 2, 3, 4]) (te := (tAndV (tOp (rIn K false) (tOp (rIxL K) (tVar 2) (tVar 0)) (tVar 1)) (tOp (rIn K false) (tOp (rIxL K) (tVar 3) (tOp (rI (fun _ j => 0 < j) fun i j => .int (i % j)) (tOp (rI0 fun i j => .int (i + j)) (tVar 0) (tVar 4)) (tVar 5))) (tVar 1)))) rfl ⟨by rfl, by decide +kernel, by decide +kernel, by rfl, by decide +kernel, by decide +kernel⟩ rfl rfl (pi_range1 rfl T.range (pa_cons (pv 4) pa_nil)) (fun _ _ _ _ _ _ => pg_name (i := 0) nd_hs rfl (Or.inl rfl)) (fun _ _ _ _ _ _ => (pe_and (pe_cmpR op_in_seq (pe_ix ix_list (pv 2) (pv 0) (fun _ _ => rfl)) (pv 1) (by with_unfolding_all rfl)) (pe_one (pe_cmpR op_in_seq (pe_ix ix_list (pv 3) (pe_op op_mod (pe_op op_add (pv 0) (pv 4)) (pv 5)) (fun _ _ => rfl)) (pv 1) (by with_unfolding_all rfl)))))) pa_nil))))), ?_⟩
    refine ⟨_, rfl, q, _, rfl, .inl (SqL.of hq), ?_⟩
    rw [nv_len]
    dsimp only [gName, tRet, tCB, tCons]
    refine compRangeB (m := S.length) (rest := [some (.ref p), some (.ref q), some (.ref q'), some (.int (t : Int)), some (.int (S.length : Int))]) (fun k => decide (nx S k ∈ E0) && decide (nx W ((k + t) % S.length) ∈ E0)) (fun R hR => ⟨_, rfl, hR⟩) rfl (fun i H2 R hi s2 hR => ?_) (by omega) fun H1 e s1 he0 he => ?_
    · refine ⟨_, rfl, _, rfl, q, _, _, _, rfl, rfl, SqL.of (s2 _ _ hq), atI_nat (nv_get (nx_some hi)), _, rfl, p, _, rfl, .inl (SqL.of (s2 _ _ hp)), rfl, nv_flat _, decide (nx S i ∈ E0), ?_, ?_⟩
      · rw [if_neg (by decide), inV_nv]
      · by_cases c : nx S i ∈ E0
        · rw [decide_eq_true c] at hR ⊢
          rw [if_pos rfl]
          have hj : (i + t) % S.length < W.length := by rw [l2']; exact Nat.mod_lt _ (by omega)
          have em : ((i : Int) + (t : Int)) % (S.length : Int) = (((i + t) % S.length : Nat) : Int) := by simp
          refine ⟨_, rfl, _, rfl, _, rfl, _, _, rfl, rfl, _, rfl, _, _, rfl, rfl, by omega, q', _, _, .int ((nx W ((i + t) % S.length) : Nat) : Int), rfl, rfl, SqL.of (s2 _ _ hq'), ?_, _, rfl, p, _, rfl, .inl (SqL.of (s2 _ _ hp)), rfl, nv_flat _, ?_⟩
          · rw [em]; exact atI_nat (nv_get (nx_some hj))
          · rw [if_neg (by decide), inV_nv]; simpa using hR
        · rw [decide_eq_false c] at hR ⊢
          rw [if_neg (by decide)]
          simpa using hR
    · refine ⟨e, _, rfl, SqL.of he, ?_⟩
      have e2 : ((List.range S.length).map fun k => decide (nx S k ∈ E0) && decide (nx W ((k + t) % S.length) ∈ E0)).any id = shifted E0 S W t := by unfold shifted; rw [List.any_map]; rfl
      rw [e2]; exact k _ s1
end
end K1
namespace K1
open PySem L2 Sq
section
variable {P : Program} {w : World} {K : PySem.W.Frag} {mg : Str → Option Value} {base : Heap}
end
/-- [g(x) for x in xs], xs a list of numbers in the slot j -/
theorem compLstN {K : PySem.W.Frag} {Hc : Hp} {p : Addr} {r : List Nat} {j : Nat} {te : TE} {pull : List Nat} {Q : VK} {σ : St} {rest : St} (g : Nat → Nat) (hj : σ[j]? = some (some (.ref p))) (hp : Hc p = some (.lst (nv r))) (hb : bst 1 pull σ = none :: rest)
    (hte : ∀ (x : Nat) (H : Hp) (R : VK), x ∈ r → Same Hc H → R (.int (g x : Int)) H → te (some (.int (x : Int)) :: rest) H R) (hn : r.length ≤ 1000)
    (k : ∀ (H' : Hp) (d : Addr), Same Hc H' → Hc d = none → H' d = some (.lst (nv (r.map g))) → Q (.ref d) H') :
    tComp (iList K (tVar j)) 1 pull (gName 0) te σ Hc Q := by
  refine ⟨_, hj, p, rfl, ⟨_, SqL.of hp⟩, fun d hd => ?_⟩
  rw [hb]
  refine comp_by (Q := fun d H' => Q (.ref d) H') r.length (nv (r.map g)) (by rw [nv_len]; simp) (fun i σ H3 => (∃ o, σ = o :: rest) ∧ Same Hc H3) ⟨⟨_, rfl⟩, same_upd (Same.refl _) hd⟩ ?_ ?_
  · rintro i σ H3 hi ⟨⟨o, rfl⟩, s3⟩ hd3
    have hp3 := SqL.of (K := K) (s3 _ _ hp)
    have hg := nv_get (List.getElem?_eq_getElem hi)
    refine ⟨⟨_, _, hp3, hg⟩, fun y H4 ⟨e, hy⟩ => ?_⟩
    subst e
    have hy := hy _ hp3
    rw [hg] at hy
    cases hy
    refine hte _ _ _ (List.getElem_mem hi) s3 ?_
    exact cpost hi hn hd3 (nv_get (by simp [hi])) ⟨⟨_, rfl⟩, same_upd s3 hd⟩
  · rintro σ H3 ⟨⟨o, rfl⟩, s3⟩ hd3
    exact ⟨⟨_, SqL.of (s3 _ _ hp), by rw [nv_len]; exact Nat.le_refl _⟩, k H3 d s3 hd hd3⟩
section
end
end K1
namespace K1
open PySem L2 Sq
def spAb : Sp := fun vs H Q _ => ∃ (a q : Addr) (n : Nat) (r u S : List Nat), vs = [.ref a, .ref q] ∧ ShAt H a r u ∧ H q = some (.lst (nv S)) ∧ Row n u ∧ (∀ x ∈ S, x < n) ∧ S.length ≤ 1000 ∧ ∀ (H' : Hp) (l : Addr), Same H H' → H l = none → H' l = some (.lst (nv (S.map (nx u)))) → Q (.ref l) H'
section
variable {P : Program} {w : World} {K : PySem.W.Frag} {mg : Str → Option Value} {base : Heap}
abbrev n_ab : List Str := ["sheet", "squares"]
theorem sc_ab : FnScope n_ab ["sheet", "squares"] (defScope sAboveAll) := ⟨rfl, rfl, rfl, by decide +kernel, rfl, by decide +kernel, by decide +kernel⟩
theorem nd_ab2 : (["square", "sheet"] : List Str).Nodup := by decide +kernel
theorem ok_ab {f : Addr} {fd : FuncData} (T : Bi mg) (F : Fn K mg "above_all" sAboveAll ["sheet", "squares"] f fd) : FnOk P w K mg base CX0 1 f fd ["sheet", "squares"] spAb := by
  refine F.F.ok sc_ab (fun vs H Q E h => ?_) (fun cdv A outer s H vs Q E hr h => ?_)
  · obtain ⟨a, q, n, r, u, S, rfl, _⟩ := h; rfl
  · obtain ⟨a, q, n, r, u, S, rfl, ha, hq, ru, hS, l1, k⟩ := h
    refine ⟨_, (pss_one (ps_ret (pe_comp (N := n_ab) (names := (defScope sAboveAll).names) (N' := ["square", "sheet"]) (k := 1) (pull := [0]) (te := (tOp (rIxT K) (tOp (rIxT K) (tVar 1) (tC (.int 1))) (tVar 0))) rfl ⟨by rfl, by decide +kernel, by decide +kernel, by rfl, by decide +kernel, by decide +kernel⟩ rfl rfl (pi_list (pv 1)) (fun _ _ _ _ _ _ => pg_name (i := 0) nd_ab2 rfl (Or.inl rfl)) (fun _ _ _ _ _ _ => (pe_ix ix_tup (pe_ix ix_tup (pv 1) pe_int (fun _ _ => rfl)) (pv 0) (fun _ _ => rfl)))))), ?_⟩
    obtain ⟨p1, q1, h1, h2, h3⟩ := id ha
    dsimp only [tRet]
    refine compLstN (j := 1) (p := q) (r := S) (rest := [some (.ref a)]) (fun x => nx u x) rfl hq rfl (fun x H2 R hx s2 hR => ?_) l1 fun H1 e s1 he0 he => ?_
    · exact ⟨_, rfl, a, _, 1, _, rfl, rfl, SqT.of (s2 _ _ h1), atI_nat (j := 1) rfl, _, rfl, q1, _, _, _, rfl, rfl, SqT.of (s2 _ _ h3), atI_nat (nv_get (ru.get (hS x hx))), hR⟩
    · exact k _ e s1 he0 he
end
end K1
namespace L2
open PySem PySem.Spec PyProof.Rows
section
variable {X : Cx} {elt tg iter : Expr} {sc : Scope} {pos py spos : Pos} {cnd : Expr} {tt : TT} {wi : TI} {g : TG} {te : TE} {N : List Str} {names : List (Str × NameKind)} {N' : List Str} {k j : Nat} {pull : List Nat} {y : Str}
theorem ps_compIf (hc : X.calm = true) (hNd : X.N.Nodup) (hj : X.N[j]? = some y) (hy : X.env.scope.names.lookup y = some .local) (B : BScope N names N' k pull sc) (hN : X.N = N) (hnm : X.env.scope.names = names) (hi : PI X tg iter wi)
    (hg : ∀ cl C s₂ H₁ fp pins, PG (blk X sc cl C N' s₂ H₁ fp pins) tg g) (hcn : ∀ cl C s₂ H₁ fp pins, PT (blk X sc cl C N' s₂ H₁ fp pins) cnd tt) (he : ∀ cl C s₂ H₁ fp pins, PE (blk X sc cl C N' s₂ H₁ fp pins) elt te)
    (hs : ∀ x, foldedSetIterable iter X.env x = pure x := by intro _; rfl) (hsw : swapsWith (.ListComp elt [⟨tg, iter, [cnd], 0⟩] sc pos) (some (.Name y py)) spos.line X.env = pure true := by rfl) : PS X (.Assign [.Name y py] (.ListComp elt [⟨tg, iter, [cnd], 0⟩] sc pos) spos) (tAsg (tCompIf wi k pull g tt te) (gName j)) := by
  intro pins s σ H D I h
  rw [exec_Assign_Name_used _ _ _ _ hsw]
  refine wpAny_bind (wpAny_standAt (wpAny_bind ?_))
  show wpAny _ X.A (do let _ ← comprehension (.ListComp elt [⟨tg, iter, [cnd], 0⟩] sc pos) sc X.env _ (newList []) false (eval iter X.env) (some (assign (.Name y py) X.env))) _ _ s
  have hcells : ∀ y ∈ sc.names, y.2 = .free → ∃ c, X.env.cells.lookup y.1 = some c := fun y hy hf => I.ok.has y.1 (.inl (by
    show X.env.scope.names.lookup y.1 = _
    rw [hnm]; exact B.fre y hy hf))
  obtain ⟨cl, ecl, c1, _, c3⟩ := closureFor_is (env := X.env) sc.names [] hcells (fun x c e => nomatch e)
  rw [← closureFor_eq] at ecl
  refine wpAny_bind (wpAny_mono (wpAny_comprehension_free (Q := fun _ s' => SP X pins D .next s') (use := some (assign (.Name y py) X.env)) rfl hs ecl B.kind B.loc (thn (hi pins s σ H _ I h) fun xv s1 h1 => thn h1 fun itv s2 h2 => ?_)) (fun _ s' hq => wpAny_pure (wpAny_pure hq)) fun _ _ e => e)
  obtain ⟨it, fp, tn, J, H1, e, I2, T, st2, f2, hW⟩ := h2
  subst e
  have ho : ∀ b ∈ fp, ∃ o, s2.heap.get? b = some o := fun b hb => let ⟨o, e, _⟩ := T.obj _ _ st2 b hb; ⟨o, e⟩
  refine wpAny_newObj_type (wpAny_newFunctionEnv B.nocell (by intro y hy; simp at hy) (fun h₁ hns₁ hsb₁ => ?_) B.kind)
  dsimp only at hns₁ hsb₁ ⊢
  rw [Heap.size_push] at hns₁ hsb₁ ⊢
  have old : ∀ b o, s2.heap.get? b = some o → h₁.get? b = some o := fun b o e => by
    have hlt := Heap.lt_size e
    exact (hsb₁.2 b (Nat.ne_of_lt (Nat.lt_succ_of_lt hlt))).trans (Heap.get?_push_of_some _ (Heap.get?_push_of_some _ e))
  have hd : h₁.get? s2.heap.objs.size = some { cls := .type "list", data := .seq ([] : List Value).toArray } :=
    (hsb₁.2 _ (Nat.ne_of_lt (Nat.lt_succ_self _))).trans (Heap.get?_push_of_some _ (Heap.get?_push_size _ rfl))
  have I4 := blk_start (tk := s2.toks + ([] : List (Str × Value)).length) B hN hnm I2 f2 ho c1 c3 hns₁ old hd
  have st4 : tn 0 h₁ := T.keep _ _ _ st2 fun b _ o e => old b o e
  obtain ⟨W, ⟨m0, w0⟩, turn⟩ := hW s2.heap.objs.size (I2.hok.fresh (Nat.le_refl _))
  have fr4 : ∀ b ∈ fp, (upd H1 s2.heap.objs.size (.lst [])) b = none := fun b hb => by
    obtain ⟨o, e⟩ := ho b hb
    rw [upd_ne (Nat.ne_of_lt (Heap.lt_size e))]
    exact (f2 b hb).1
  -- what stays true of the iterator's objects
  have stat : ∀ {H' : Hp}, (∀ b ∈ fp, H' b = none) → ∀ b ∈ fp, FpOk (blk X sc cl (s2.heap.objs.size + 1) N' s2 H1 fp pins) [] H' b := fun hn b hb => by
    refine ⟨hn b hb, (I4.ok.exf b hb).1, I4.ok.exfs b hb, .inl hb, (I4.ok.exf b hb).2, fun p hp => ?_⟩
    have hp : p ∈ X.pn ++ pins := by simpa [blk] using hp
    exact (f2 b hb).2.2.2.2.2 p hp
  have loop : ∀ s₃ : Shared, s₃ = { s2 with heap := h₁, toks := s2.toks + ([] : List (Str × Value)).length } →
      codeAny (model X.prog X.w) X.A (.compLoop (.ListComp elt [⟨tg, iter, [cnd], 0⟩] sc pos) 0 (.ref it) (.ref s2.heap.objs.size) (compEnvC sc cl (s2.heap.objs.size + 1) X.env))
        (compPost (model X.prog X.w) X.A X.xe (some (assign (.Name y py) X.env)) (fun _ s' => SP X pins D .next s') (.ref s2.heap.objs.size) (s2.heap.objs.size + 1)) s₃ := by
    rintro s₃ rfl
    refine comp_turnIf (fun n s' => ∃ i σ' H', Inv (blk X sc cl (s2.heap.objs.size + 1) N' s2 H1 fp pins) [] σ' H' s' ∧ tn i s'.heap ∧ (∀ b ∈ fp, H' b = none) ∧ W i n σ' H') ?_ m0 ⟨0, _, _, I4, st4, fr4, w0⟩
    rintro n s3 ⟨i, σ3, H3, I3, st3, fr3, w3⟩
    rcases turn i n σ3 H3 w3 with ⟨stop, q⟩ | ⟨go, step⟩
    · refine thn (T.done (blk X sc cl (s2.heap.objs.size + 1) N' s2 H1 fp pins) rfl rfl rfl hc i [] s3 σ3 H3 _ I3 (stat fr3) st3 stop) fun r s4 ⟨hr, I5⟩ => ?_
      subst hr
      obtain ⟨m, hn, _⟩ := id I5.loc
      have U : Un (frs X.stack) fp H1 H3 s2.heap s4.heap := I5.base
      have J5 : Inv X pins σ H3 s4 := I2.call' (s' := s4) I5.os U I5.hok I5.bare fun b hb => ⟨(f2 b hb).2.2.2.1, (f2 b hb).2.1, (f2 b hb).2.2.2.2.1, (f2 b hb).2.2.2.2.2⟩
      obtain ⟨g0, g1, _, g3, g4, g5⟩ : FpOk X pins H3 (s2.heap.objs.size + 1) := I2.fpOk (Nat.le_succ _) I5.free
      refine wpAny_assign_Name (store_ok2 J5 hNd hj (.inl hy) (v := .ref s2.heap.objs.size) rfl (fun s5 K5 ⟨a, sb, ha⟩ => ?_) (.inr hy))
      have hne : s2.heap.objs.size + 1 ≠ a := fun z => by
        rcases ha with ha | ha
        · exact g1 (z.trans ha)
        · exact g4 _ _ ha z.symm
      refine ⟨m, hn.sameBut sb hne, fun h' hs' => ⟨_, H3, ?_, q⟩⟩
      exact K5.turned (t' := s5.toks) (fun b o hb e => (hs'.2 b hb).trans e) g0 g1 g3 g4 g5
    · refine thn (T.item (blk X sc cl (s2.heap.objs.size + 1) N' s2 H1 fp pins) rfl rfl rfl hc i [] s3 σ3 H3 _ I3 (stat fr3) st3 go) fun r s4 ⟨u, hr, h4⟩ => ?_
      subst hr
      refine thn h4 fun _ s5 ⟨x, H5, I5, r5, y5, st5, fr5⟩ => ?_
      have I5' := I5.pinned (stat fr5) (T.obj _ _ st5)
      refine wpAny_mono (hg _ _ _ _ _ _ _ s5 σ3 H5 x u _ I5' r5 (step x H5 y5)) (fun _ s6 ⟨σ6, H6, I6, q6⟩ => ?_) fun _ _ z => z.elim
      refine wpAny_mono (hcn _ _ _ _ _ _ _ s6 σ6 H6 _ I6 q6) (fun ok s7 ⟨H7, I7, q7⟩ => ?_) fun _ _ z => z.elim
      cases ok with
      | false =>
        have q7 : ∃ m', m' < n ∧ W (i + 1) m' σ6 H7 := by simpa using q7
        obtain ⟨m', hm, w7⟩ := q7
        refine ⟨m', hm, i + 1, σ6, _, I7.unpinned, T.keep _ _ _ st5 fun b hb o e => (I7.pin (b, o) (List.mem_append_right _ (List.mem_append_right _ (mem_pinsAt hb e)))).1, fun b hb => ?_, w7⟩
        obtain ⟨o, e, _⟩ := T.obj _ _ st5 b hb
        exact (I7.pin (b, o) (List.mem_append_right _ (List.mem_append_right _ (mem_pinsAt hb e)))).2.1
      | true =>
        rw [if_pos rfl] at q7
        refine wpAny_mono (he _ _ _ _ _ _ _ s7 σ6 H7 _ I7 q7) (fun y s8 ⟨z, H8, I8, r8, xs, hx8, hz8, m', hm, w8⟩ => ?_) fun _ _ z => z.elim
        refine wpAny_mono (mt_append (X := blk X sc cl (s2.heap.objs.size + 1) N' s2 H1 fp pins) _ s8 σ6 H8 (.ref s2.heap.objs.size) [z] (.ref s2.heap.objs.size) [y] (fun _ H9 => H9 = upd H8 s2.heap.objs.size (.lst (xs ++ [z]))) I8 rfl (.cons r8 .nil) ⟨_, xs, z, rfl, rfl, hx8, hz8, rfl⟩) (fun _ s9 ⟨_, H9, I9, _, e9⟩ => ?_) fun _ _ z => z.elim
        subst e9
        refine ⟨m', hm, i + 1, σ6, _, I9.unpinned, T.keep _ _ _ st5 fun b hb o e => (I9.pin (b, o) (List.mem_append_right _ (List.mem_append_right _ (mem_pinsAt hb e)))).1, fun b hb => ?_, w8⟩
        obtain ⟨o, e, _⟩ := T.obj _ _ st5 b hb
        exact (I9.pin (b, o) (List.mem_append_right _ (List.mem_append_right _ (mem_pinsAt hb e)))).2.1
  exact codeAny_compStart_list (loop _ rfl) (T.self _ 0 _ _ _ st4 (loop _ rfl))
end
end L2
namespace K1
open PySem L2 Sq
end K1
namespace L2
open PySem PySem.Spec PyProof.Rows
theorem best_gt (val : Nat → Int) : ∀ n : Nat, argBest (fun i j => decide (val i > val j)) n ≤ n ∧ ∀ j, j ≤ n → val (argBest (fun i j => decide (val i > val j)) n) ≥ val j
  | 0 => ⟨Nat.le_refl _, fun j hj => by have : j = 0 := by omega
                                        subst this; exact Int.le_refl _⟩
  | n + 1 => by
    obtain ⟨h1, h2⟩ := best_gt val n
    show (if decide (val (n + 1) > val (argBest (fun i j => decide (val i > val j)) n)) = true then n + 1 else argBest (fun i j => decide (val i > val j)) n) ≤ n + 1 ∧ _
    show _ ∧ ∀ j, j ≤ n + 1 → val (if decide (val (n + 1) > val (argBest (fun i j => decide (val i > val j)) n)) = true then n + 1 else argBest (fun i j => decide (val i > val j)) n) ≥ val j
    by_cases c : val (n + 1) > val (argBest (fun i j => decide (val i > val j)) n)
    · rw [if_pos (decide_eq_true c)]
      refine ⟨Nat.le_refl _, fun j hj => ?_⟩
      rcases Nat.lt_or_ge j (n + 1) with d | d
      · have := h2 j (by omega); omega
      · have : j = n + 1 := by omega
        subst this; exact Int.le_refl _
    · rw [if_neg (by rw [decide_eq_true_iff]; exact c)]
      refine ⟨by omega, fun j hj => ?_⟩
      rcases Nat.lt_or_ge j (n + 1) with d | d
      · exact h2 j (by omega)
      · have : j = n + 1 := by omega
        subst this; omega
section
variable {X : Cx}
theorem boot_max : bootBuiltins "max" = some (.builtin "max") := by decide +kernel
theorem call_maxL (hc : X.calm = true) : CallR X (.builtin "max") (fun xs H Q => ∃ (p : Addr) (ns : List Int), xs = [.ref p] ∧ SqL X.K H p (ns.map V.int) ∧ ns ≠ [] ∧ ∀ m, m ∈ ns → (∀ y ∈ ns, y ≤ m) → Q (.int m) H) := by
  intro pins s σ H xs us Q I r h
  obtain ⟨p, ns, rfl, hq, hne, q⟩ := h
  obtain ⟨u, rfl, ru⟩ := vals1 r
  obtain rfl : u = Value.ref p := ru
  obtain ⟨its, rv, pl, hz⟩ := I.list hq
  have hL := pl.isList
  have hlt : p < s.heap.objs.size := by obtain ⟨o, ho, _⟩ := id hL; exact Heap.lt_size ho
  have hlen : its.length = ns.length := by rw [← rv.length]; simp
  have hpos : 0 < ns.length := List.length_pos_iff.mpr hne
  have hval : ∀ i v, its.toArray[i]? = some v → ∃ t, v = Value.int (ns.getD i 0) t := fun i v hP => by
    have hv : its[i]? = some v := by simpa using hP
    have hi : i < ns.length := by rw [← hlen]; exact (List.getElem?_eq_some_iff.mp hv).1
    have hb : (ns.map V.int)[i]? = some (.int ns[i]) := by simp [hi]
    obtain ⟨u, hu, t, rfl⟩ := rv.get hb
    rw [hv] at hu; cases hu
    exact ⟨t, by simp [List.getD_eq_getElem?_getD, hi]⟩
  refine call_max_walk (wpAny_pyIter_list hL ⟨s.heap.objs.size, _, _, its.toArray.size, _, _, _, rfl, Walks.list (A := X.A.in1) (I.ok.hd hc) s.heap.objs.size p (Nat.ne_of_lt hlt) its.toArray, ⟨⟨_, Heap.get?_push_size _ rfl, rfl, rfl⟩, hL.push _⟩, fun b hb => ?_, by rw [List.size_toArray]; omega, CmpOf.ints_gt (fun i => ns.getD i 0) hval, fun v h' tk hP hk => ?_⟩)
  · rw [Heap.size_push]
    simp at hb
    rcases hb with rfl | rfl
    · exact Nat.lt_succ_self _
    · exact Nat.lt_succ_of_lt hlt
  · obtain ⟨t, rfl⟩ := hval _ v hP
    obtain ⟨b1, b2⟩ := best_gt (fun i => ns.getD i 0) (its.toArray.size - 1)
    rw [List.size_toArray, hlen] at b1 b2 hP ⊢
    generalize argBest (fun i j => decide (ns.getD i 0 > ns.getD j 0)) (ns.length - 1) = k at b1 b2 hP ⊢
    have hk' : k < ns.length := by omega
    refine ⟨.int (ns.getD k 0), H, ?_, ⟨t, rfl⟩, q _ ?_ fun y hy => ?_⟩
    · refine I.kept fun b o e => hk b o (fun hb => ?_) (Heap.get?_push_of_some _ e)
      have := Heap.lt_size e
      simp at hb
      rw [hb] at this
      exact Nat.lt_irrefl _ this
    · simp [List.getD_eq_getElem?_getD, hk']
    · obtain ⟨j, hj, rfl⟩ := List.mem_iff_getElem.mp hy
      have := b2 j (by omega)
      simpa [List.getD_eq_getElem?_getD, hj] using this
end
end L2
namespace L2
open PySem PySem.Spec PyProof.Rows
/-- while, by a word that bears its own measure -/
theorem while_nat {c : TT} {tb : TS} {D : Ends} {σ : St} {H : Hp} (Pv : Nat → St → Hp → Prop) (h0 : ∃ m, Pv m σ H)
    (hs : ∀ m σ H, Pv m σ H → c σ H fun b H1 => if b = true then tb { D with nx := fun σ' H' => ∃ m', m' < m ∧ Pv m' σ' H', ct := fun σ' H' => ∃ m', m' < m ∧ Pv m' σ' H', bk := D.nx } σ H1 else D.nx σ H1)
    (mono : ∀ σ H Q Q', (∀ b H1, Q b H1 → Q' b H1) → c σ H Q → c σ H Q') : tWhile c tb D σ H := by
  refine ⟨Pv, h0, ?_⟩
  rintro m σ H p
  refine mono σ H _ _ (fun b H1 q => ?_) (hs m σ H p)
  cases b with
  | true => exact ⟨_, fun σ' H' z => z, q⟩
  | false => exact q
end L2
namespace K1
open PySem L2 Sq
/-- [k for k in range(m) if test(k)], the test lays new things -/
theorem compFilW {Hc : Hp} {m : Nat} {ta : TA} {tt : TT} {pull : List Nat} {Q : VK} {σ : St} {rest : St} (p : Nat → Bool) (hj : ∀ R : List V → Hp → Prop, R [.int (m : Int)] Hc → ta σ Hc R) (hb : bst 1 pull σ = none :: rest)
    (htt : ∀ (i : Nat) (H : Hp) (R : Bool → Hp → Prop), i < m → Same Hc H → (∀ H', Same H H' → R (p i) H') → tt (some (.int (i : Int)) :: rest) H R) (hm : m ≤ 1000)
    (k : ∀ (H' : Hp) (d : Addr), Same Hc H' → Hc d = none → H' d = some (.lst (nv ((List.range m).filter p))) → Q (.ref d) H') :
    tCompIf (iRng1 ta) 1 pull (gName 0) tt (tVar 0) σ Hc Q := by
  refine hj _ ⟨(m : Int), rfl, by omega, by omega, fun d hd => ?_⟩
  rw [Int.toNat_natCast, hb]
  refine compIf_ex (J := Itr 0 m) (Q := fun d H' => Q (.ref d) H') m (fun i xs σ H9 => (∃ o, σ = o :: rest) ∧ Same Hc H9 ∧ xs = nv ((List.range i).filter p)) ⟨⟨_, rfl⟩, same_upd (Same.refl _) hd, rfl⟩ ?_ ?_
  · rintro i xs σ H9 hi ⟨⟨o, rfl⟩, s9, rfl⟩ hd9
    refine ⟨hi, fun x H4 ⟨e1, e2⟩ => ?_⟩
    subst e1 e2
    rw [show (0 : Int) + (i : Int) = (i : Int) from by omega]
    refine htt i _ _ hi s9 fun H5 s5 => ?_
    have el : ((List.range i).filter p).length ≤ i := by have := List.length_filter_le p (List.range i); simpa using this
    have ef : (List.range (i + 1)).filter p = (List.range i).filter p ++ [i].filter p := by rw [List.range_succ, List.filter_append]
    cases e : p i with
    | true =>
      have e3 : [i].filter p = [i] := by simp [e]
      rw [if_pos rfl]
      refine ⟨_, rfl, xpost hi (s5 _ _ hd9) (by rw [nv_len]; omega) ⟨⟨_, rfl⟩, same_upd (s9.trans s5) hd, ?_⟩⟩
      rw [ef, e3, nv_snoc]
    | false =>
      have e3 : [i].filter p = [] := by simp [e]
      rw [if_neg (by decide)]
      refine xskip hi (s5 _ _ hd9) ⟨⟨_, rfl⟩, s9.trans s5, ?_⟩
      rw [ef, e3, List.append_nil]
  · rintro xs σ H9 ⟨⟨o, rfl⟩, s9, rfl⟩ hd9
    exact ⟨Nat.le_refl _, k H9 d s9 hd hd9⟩
theorem bf_free {H H' : Hp} (s : Same H H') {x : Addr} (h : H' x = none) : H x = none := by
  cases e : H x with
  | none => rfl
  | some o => rw [s _ _ e] at h; cases h
def spBf : Sp := fun vs H Q _ => ∃ (a p q : Addr) (n : Nat) (r u M S : List Nat), vs = [.ref a, .ref p, .ref q] ∧ ShAt H a r u ∧ H p = some (.lst (nv M)) ∧ H q = some (.lst (nv S)) ∧ Row n u ∧ (∀ x ∈ S, x < n) ∧ n ≤ 36 ∧ 1 ≤ S.length ∧ S.length ≤ 36 ∧ hits M S = true ∧
  ∀ (H' : Hp) (x : Addr), Same H H' → H x = none → BandAt H' x S.length (wid n u M S) (shifts M S (ups u S (wid n u M S))) → Q (.ref x) H'
section
variable {P : Program} {w : World} {K : PySem.W.Frag} {mg : Str → Option Value} {base : Heap}
abbrev n_bf : List Str := ["sheet", "edge", "lowest", "above", "width", "length", "shifts"]
theorem sc_bf : FnScope n_bf ["sheet", "edge", "lowest"] (defScope sBandFrom) := ⟨rfl, rfl, rfl, by decide +kernel, rfl, by decide +kernel, by decide +kernel⟩
theorem nd_bf : (["t", "edge", "lowest", "above"] : List Str).Nodup := by decide +kernel
theorem ok_bf {f fa fh fs : Addr} {fd da dh ds : FuncData} (T : Bi mg) (F : Fn K mg "band_from" sBandFrom ["sheet", "edge", "lowest"] f fd) (FA : Fn K mg "above_all" sAboveAll ["sheet", "squares"] fa da) (GA : FnOk P w K mg base CX0 1 fa da ["sheet", "squares"] spAb)
    (FH : Fn K mg "has_some" sHasSome ["edge", "squares"] fh dh) (GH : FnOk P w K mg base CX0 1 fh dh ["edge", "squares"] spHa)
    (FS : Fn K mg "has_shift" sHasShift ["edge", "lowest", "above", "t"] fs ds) (GS : FnOk P w K mg base CX0 1 fs ds ["edge", "lowest", "above", "t"] spHs) : FnOk P w K mg base CX0 2 f fd ["sheet", "edge", "lowest"] spBf := by
  refine F.F.ok sc_bf (fun vs H Q E h => ?_) (fun cdv A outer s H vs Q E hr h => ?_)
  · obtain ⟨a, p, q, n, r, u, M, S, rfl, _⟩ := h; rfl
  · obtain ⟨a, p, q, n, r, u, M, S, rfl, hsh, hp, hq, ru, lt, n36, l1, l36, hh, k⟩ := h
    have hr1 : Room 1 _ := hr.mono (by decide)
    refine ⟨_, (pss_cons (ps_set (i := 3) sc_bf.nd rfl (Or.inr rfl) (pe_call GA hr1 rfl FA.m FA.F.kp FA.b .nil pass0 (pa_cons (pv 0) (pa_cons (pv 2) pa_nil))))
      (pss_cons (ps_set (i := 4) sc_bf.nd rfl (Or.inl rfl) pe_int)
      (pss_cons (ps_while PassesOwn.never (pt_not (pt_val (pe_call GH hr1 rfl FH.m FH.F.kp FH.b .nil pass0 (pa_cons (pv 1) (pa_cons (pv 3) pa_nil))))) (pss_cons (ps_set (i := 3) sc_bf.nd rfl (Or.inr rfl) (pe_call GA hr1 rfl FA.m FA.F.kp FA.b .nil pass0 (pa_cons (pv 0) (pa_cons (pv 3) pa_nil))))
      (pss_one (ps_aug (i := 4) sc_bf.nd rfl (Or.inl rfl) pe_int ip_add))))
      (pss_cons (ps_set (i := 5) sc_bf.nd rfl (Or.inl rfl) (pe_callB call_len_seq rfl T.len PySem.boot_len (pa_cons (pv 2) pa_nil)))
      (pss_cons (ps_compIf (j := 6) (N := n_bf) (names := (defScope sBandFrom).names) (N' := ["t", "edge", "lowest", "above"]) (k := 1) (pull := [1, 2, 3]) (tt := tB (tCall spHs [] E0 (tCons (tVar 1) (tCons (tVar 2) (tCons (tVar 3) (tCons (tVar 0) tNil)))))) (te := (tVar 0)) rfl sc_bf.nd rfl rfl ⟨by rfl, by decide +kernel, by decide +kernel, by rfl, by decide +kernel, by decide +kernel⟩ rfl rfl (pi_range1 rfl T.range (pa_cons (pv 5) pa_nil)) (fun _ _ _ _ _ _ => pg_name (i := 0) nd_bf rfl (Or.inl rfl)) (fun _ _ _ _ _ _ => pt_val (pe_call GS hr1 rfl FS.m FS.F.kp FS.b .nil pass0 (pa_cons (pv 1) (pa_cons (pv 2) (pa_cons (pv 3) (pa_cons (pv 0) pa_nil)))))) (fun _ _ _ _ _ _ => (pv 0)))
      (pss_one (ps_ret (pe_tup (pa_cons (pv 5) (pa_cons (pv 4) (pa_cons (pe_callTy call_tuple_of rfl T.tuple boot_tuple (pa_cons (pv 6) pa_nil)) pa_nil))))))))))), ?_⟩
    obtain ⟨w1, w2, w3, w4⟩ := wid_is ru lt hh
    have sl3 : 3 ≤ sizeLine := by decide
    refine ⟨_, rfl, _, rfl, a, q, n, r, u, S, rfl, hsh, hq, ru, lt, by omega, fun H1 l s1 hl0 hl => ?_⟩
    show tSeq _ _ _ _ _
    refine while_nat (fun m σ H3 => Same H H3 ∧ ∃ (l : Addr) (j : Nat), m = wid n u M S - j ∧ 1 ≤ j ∧ j ≤ wid n u M S ∧ σ = [some (.ref a), some (.ref p), some (.ref q), some (.ref l), some (.int (j : Int)), none, none] ∧ H3 l = some (.lst (nv (ups u S j)))) ⟨_, s1, l, 1, rfl, Nat.le_refl _, w3, rfl, by rw [ups_one]; exact hl⟩ ?_ ?_
    · rintro m σ H3 ⟨s3, l, j, rfl, j1, j2, rfl, hl⟩
      refine ⟨_, rfl, _, rfl, p, l, M, ups u S j, rfl, s3 _ _ hp, hl, by rw [ups_len]; omega, fun H4 s4 => ⟨_, rfl, ?_⟩⟩
      by_cases ej : j = wid n u M S
      · subst ej
        rw [w1]
        refine iteF ?_
        refine ⟨_, rfl, q, _, rfl, .inl (SqL.of ((s3.trans s4) _ _ hq)), ?_⟩
        rw [nv_len]
        dsimp only [tNext, tSeq, tAsg, gName]
        refine compFilW (m := S.length) (rest := [some (.ref p), some (.ref q), some (.ref l)]) (shifted M S (ups u S (wid n u M S))) (fun R hR => ⟨_, rfl, hR⟩) rfl (fun i H5 R hi s5 hR => ?_) (by omega) fun H6 e s6 he0 he => ?_
        · exact ⟨_, rfl, _, rfl, _, rfl, _, rfl, p, q, l, M, S, ups u S (wid n u M S), i, rfl, (s3.trans (s4.trans s5)) _ _ hp, (s3.trans (s4.trans s5)) _ _ hq, (s4.trans s5) _ _ hl, ups_len _ _ _, l36, l1, fun H7 s7 => ⟨_, rfl, hR H7 s7⟩⟩
        · refine ⟨_, rfl, _, rfl, _, rfl, e, _, rfl, .inl ⟨SqL.of he, fun t ht => ?_⟩⟩
          refine ⟨sl3, fun x hx => ?_⟩
          have u1 := same_upd (o := .tup (nv (shifts M S (ups u S (wid n u M S))))) (Same.refl H6) ht
          have u2 := same_upd (o := .tup [.int (S.length : Int), .int (wid n u M S : Int), .ref t]) (Same.refl (upd H6 t (.tup (nv (shifts M S (ups u S (wid n u M S))))))) hx
          have sa := s3.trans (s4.trans (s6.trans (u1.trans u2)))
          exact k _ x sa (bf_free (s3.trans (s4.trans (s6.trans u1))) hx) ⟨t, upd_same, u2 _ _ upd_same⟩
      · rw [w2 j j1 (by omega)]
        refine iteT ?_
        refine ⟨_, rfl, _, rfl, a, l, n, r, u, ups u S j, rfl, hsh.same (s3.trans s4), s4 _ _ hl, ru, ups_lt ru lt j, by rw [ups_len]; omega, fun H5 l' s5 hl0 hl' => ?_⟩
        refine ⟨_, rfl, _, _, rfl, rfl, wid n u M S - (j + 1), by omega, s3.trans (s4.trans s5), l', j + 1, rfl, by omega, by omega, rfl, by rw [ups_succ]; exact hl'⟩
    · rintro σ H' Q1 Q2 hq ⟨y, e1, y2, e2, a1, a2, a3, a4, a5, a6, a7, a8, a9⟩
      exact ⟨y, e1, y2, e2, a1, a2, a3, a4, a5, a6, a7, a8, fun H1 s1 => let ⟨c, ec, hc⟩ := a9 H1 s1; ⟨c, ec, hq _ _ hc⟩⟩
end
end K1
namespace K1
open PySem L2 Sq
def spRs : Sp := fun vs H Q _ => ∃ (a : Addr) (n : Nat) (r u : List Nat), vs = [.ref a] ∧ ShAt H a r u ∧ Row n r ∧ n ≤ 36 ∧
  ∀ (H' : Hp) (l : Addr) (as : List Addr), Same H H' → H l = none → H' l = some (.lst (rv as)) → (∀ a ∈ as, H a = none) → Lsts H' as (rounds n r) → Q (.ref l) H'
section
variable {P : Program} {w : World} {K : PySem.W.Frag} {mg : Str → Option Value} {base : Heap}
abbrev n_rs : List Str := ["sheet"]
theorem sc_rs : FnScope n_rs ["sheet"] (defScope sRows) := ⟨rfl, rfl, rfl, by decide +kernel, rfl, by decide +kernel, by decide +kernel⟩
theorem ok_rs {f fc : Addr} {fd dc : FuncData} (F : Fn K mg "rows" sRows ["sheet"] f fd) (FC : Fn K mg "cycles" sCycles ["row"] fc dc) (GC : FnOk P w K mg base CX0 2 fc dc ["row"] (spCycles K)) : FnOk P w K mg base CX0 3 f fd ["sheet"] spRs := by
  refine F.F.ok sc_rs (fun vs H Q E h => ?_) (fun cdv A outer s H vs Q E hr h => ?_)
  · obtain ⟨a, n, r, u, rfl, _⟩ := h; rfl
  · obtain ⟨a, n, r, u, rfl, ⟨p, q, h1, h2, h3⟩, rr, hn, k⟩ := h
    have hr1 : Room 1 _ := hr.mono (by decide)
    refine ⟨_, (pss_one (ps_ret (pe_call GC hr rfl FC.m FC.F.kp FC.b .nil pass0 (pa_cons (pe_ix ix_tup (pv 0) pe_int (fun _ _ => rfl)) pa_nil)))), ?_⟩
    exact ⟨_, rfl, a, _, 0, _, rfl, rfl, SqT.of h1, atI_nat (j := 0) rfl, p, n, r, rfl, .inr (SqT.of h2), rr, hn, fun H' l as s' f1 hl f2 hL => k H' l as s' f1 hl f2 hL⟩
end
end K1
namespace K1
open PySem L2 Sq
def spBands : Sp := fun vs H Q _ => ∃ (a : Addr) (n : Nat) (r u : List Nat), vs = [.ref a] ∧ ShAt H a r u ∧ Row n r ∧ Row n u ∧ n ≤ 36 ∧
  ∀ (H' : Hp) (l : Addr) (as : List Addr) (bs : List Bd), Same H H' → H l = none → H' l = some (.lst (as.map V.ref)) → BsAt H' as bs → bs.Perm (bandsOf n r u (bord n (later r u))) → sortedB bs → Q (.ref l) H'
section
variable {P : Program} {w : World} {K : PySem.W.Frag} {mg : Str → Option Value} {base : Heap}
abbrev n_bs : List Str := ["sheet", "edge"]
theorem sc_bs : FnScope n_bs ["sheet"] (defScope sBands) := ⟨rfl, rfl, rfl, by decide +kernel, rfl, by decide +kernel, by decide +kernel⟩
theorem nd_bs : (["row", "sheet", "edge"] : List Str).Nodup := by decide +kernel
theorem ok_bs {f fe fr fh ff : Addr} {fd de dr dh df : FuncData} (T : Bi mg) (F : Fn K mg "bands" sBands ["sheet"] f fd) (FE : Fn K mg "borders" sBorders ["sheet"] fe de) (GE : FnOk P w K mg base CX0 8 fe de ["sheet"] spBorders)
    (FR : Fn K mg "rows" sRows ["sheet"] fr dr) (GR : FnOk P w K mg base CX0 3 fr dr ["sheet"] spRs)
    (FH : Fn K mg "has_some" sHasSome ["edge", "squares"] fh dh) (GH : FnOk P w K mg base CX0 1 fh dh ["edge", "squares"] spHa)
    (FF : Fn K mg "band_from" sBandFrom ["sheet", "edge", "lowest"] ff df) (GF : FnOk P w K mg base CX0 2 ff df ["sheet", "edge", "lowest"] spBf) : FnOk P w K mg base CX0 9 f fd ["sheet"] spBands := by
  refine F.F.ok sc_bs (fun vs H Q E h => ?_) (fun cdv A outer s H vs Q E hr h => ?_)
  · obtain ⟨a, n, r, u, rfl, _⟩ := h; rfl
  · obtain ⟨a, n, r, u, rfl, hsh, rr, ru, hn, k⟩ := h
    have hu10 : (A.deeper (PyProof.Rows.envOfC "bands" (defScope sBands) s.heap.objs.size f cdv)).units + 10 < cLine := Nat.lt_of_le_of_lt (Nat.add_le_add_left (by decide) _) hr.units
    have hr1 : Room 1 _ := hr.mono (by decide)
    have hr2 : Room 2 _ := hr.mono (by decide)
    have hr3 : Room 3 _ := hr.mono (by decide)
    have hr8 : Room 8 _ := hr.mono (by decide)
    refine ⟨_, (pss_cons (ps_set (i := 1) sc_bs.nd rfl (Or.inr rfl) (pe_call GE hr8 rfl FE.m FE.F.kp FE.b .nil pass0 (pa_cons (pv 0) pa_nil)))
      (pss_one (ps_ret (pe_callB (call_sortedB rfl hu10) rfl T.sorted boot_sorted (pa_cons (pe_compIf (N := n_bs) (names := (defScope sBands).names) (N' := ["row", "sheet", "edge"]) (k := 1) (pull := [0, 1]) (tt := tB (tCall spHa [] E0 (tCons (tVar 2) (tCons (tVar 0) tNil)))) (te := tCall spBf [] E0 (tCons (tVar 1) (tCons (tVar 2) (tCons (tVar 0) tNil)))) rfl ⟨by rfl, by decide +kernel, by decide +kernel, by rfl, by decide +kernel, by decide +kernel⟩ rfl rfl (pi_list (pe_call GR hr3 rfl FR.m FR.F.kp FR.b .nil pass0 (pa_cons (pv 0) pa_nil))) (fun _ _ _ _ _ _ => pg_name (i := 0) nd_bs rfl (Or.inl rfl)) (fun _ _ _ _ _ _ => pt_val (pe_call GH hr1 rfl FH.m FH.F.kp FH.b .nil pass0 (pa_cons (pv 2) (pa_cons (pv 0) pa_nil)))) (fun _ _ _ _ _ _ => pe_call GF hr2 rfl FF.m FF.F.kp FF.b .nil pass0 (pa_cons (pv 1) (pa_cons (pv 2) (pa_cons (pv 0) pa_nil))))) pa_nil))))), ?_⟩
    refine ⟨_, rfl, a, n, r, u, rfl, hsh, rr, ru, hn, fun H1 le s1 hle0 hle => ?_⟩
    generalize hMe : bord n (later r u) = M at *
    dsimp only [gName, tRet, tCB, tCons, tNil]
    refine compIfC (fun H2 b => Same H1 H2 ∧ ∃ rs, H2 b = some (.lst (rv rs)) ∧ Lsts H2 rs (rounds n r)) (fun R hR => ⟨_, rfl, a, n, r, u, rfl, hsh.same s1, rr, hn, fun H2 l as s2 f2 hl fr hL => hR H2 l ⟨s2, as, hl, hL⟩⟩) ?_
    rintro H2 b ⟨s2, rs, hrs, hL⟩
    have hrc : (rounds n r).length ≤ n := rds_count (n := n) (w := r) n
    have hcl : ∀ x, x < n → (cyc n r x).length ≤ n := fun x hx => (cyc_is rr hx).len rr hx
    refine compBands (rest := [some (.ref a), some (.ref le)]) (hits M) (bandOf n u M) hrs hL rfl (fun b M' H3 R hM s3 hb hR => ?_) (fun b M' H3 R hM hp s3 hb hR => ?_) (by omega) fun H4 d as s4 hd0 hB hd => ?_
    · obtain ⟨x, hx, hlx, rfl⟩ := rounds_mem hM
      have := hcl x hx
      exact ⟨_, rfl, _, rfl, le, b, M, cyc n r x, rfl, (s2.trans s3) _ _ hle, hb, by omega, fun H' s' => ⟨_, rfl, hR H' s'⟩⟩
    · obtain ⟨x, hx, hlx, rfl⟩ := rounds_mem hM
      have h1 := hcl x hx
      have h2 := (cyc_is rr hx).pos
      exact ⟨_, rfl, _, rfl, _, rfl, a, le, b, n, r, u, M, cyc n r x, rfl, hsh.same (s1.trans (s2.trans s3)), (s2.trans s3) _ _ hle, hb, ru, fun y hy => cyc_lt rr hx hy, hn, h2, by omega, hp, fun H' y s' hy0 hy => hR H' y s' hy⟩
    · have hal := hB.len
      rw [List.length_map] at hal
      have hfl := List.length_filter_le (hits M) (rounds n r)
      refine sortB_at hd hB (by omega) fun l as' bs' hl0 hB' hp hs => ?_
      have sa := s1.trans (s2.trans s4)
      exact k _ l as' bs' (same_upd sa (sa.free hl0)) (sa.free hl0) upd_same hB' hp hs
end
end K1
namespace K1
open PySem L2 Sq
section
variable {P : Program} {w : World} {K : PySem.W.Frag} {mg : Str → Option Value} {base : Heap}
theorem scIsWh : FnScope ["thing"] ["thing"] (defScope sIsWhole) := ⟨rfl, rfl, rfl, by decide +kernel, rfl, by decide +kernel, by decide +kernel⟩
theorem ok_isWh {f : Addr} {fd : FuncData} (T : Bi mg) (F : Fn K mg "is_whole" sIsWhole ["thing"] f fd) : FnOk P w K mg base CX0 1 f fd ["thing"] spWhole := by
  refine F.F.ok scIsWh (fun vs H Q E h => ?_) (fun cdv A outer s H vs Q E hr h => ?_)
  · obtain ⟨i, rfl, _⟩ := h; rfl
  · obtain ⟨i, rfl, k⟩ := h
    refine ⟨_, pss_one (ps_ret (pe_and (pe_callB call_isinst (by rfl) T.isin boot_isin (pa_cons (pv 0) (pa_cons (pe_bltn (v := .ty "int") (by rfl) T.int boot_int rfl) pa_nil)))
      (pe_one (pe_not (pe_callB call_isinst (by rfl) T.isin boot_isin (pa_cons (pv 0) (pa_cons (pe_bltn (v := .ty "bool") (by rfl) T.bool boot_bool rfl) pa_nil))))))), ?_⟩
    refine ⟨_, rfl, _, _, _, _, rfl, .int i, kit_int_int K, _, rfl, ?_⟩
    refine iteT ?_
    exact ⟨_, rfl, _, _, _, _, rfl, .int i, kit_int_bool K, _, rfl, k⟩
end
end K1
namespace L2
open PySem PySem.Spec PyProof.Rows
section
variable {X : Cx} {k : Nat} {f C : Addr} {fd : FuncData} {ps : List Str} {sp : Sp} {dvs : List V} {ds : List Value} {E : XK} {x : Str} {p pos : Pos} {e : Expr} {es : List Expr} {t : TA}
end
end L2
namespace L2
open PySem PySem.Spec PyProof.Rows
section
variable {prog : Program} {w : World} {A : Around} {E : Value → Shared → Prop} {s : Shared}
end
end L2
namespace L2
open PySem PySem.Spec PyProof.Rows
section
variable {X : Cx} {elt tg a0 : Expr} {sc : Scope} {pos p0 pos0 : Pos} {ta : TA} {g : TG} {te : TE} {N : List Str} {names : List (Str × NameKind)} {N' : List Str} {k : Nat} {pull : List Nat}
end
end L2
namespace L2
open PySem PySem.Spec PyProof.Rows
section
variable {X : Cx}
def repS (x : Str) (n : Nat) : Str := ⟨(List.replicate n x.cps).foldl (· ++ ·) #[]⟩
theorem fold_app (l : List (Array Nat)) : ∀ acc : Array Nat, (l.foldl (· ++ ·) acc).toList = acc.toList ++ (l.map Array.toList).flatten := by
  induction l with
  | nil => intro acc; simp
  | cons a l ih => intro acc; rw [List.foldl_cons, ih]; simp
theorem repS_list (x : Str) (n : Nat) : (repS x n).cps.toList = (List.replicate n x.cps.toList).flatten := by
  show ((List.replicate n x.cps).foldl (· ++ ·) #[]).toList = _
  rw [fold_app, List.map_replicate]
  simp
end
namespace RF
end RF
end L2
namespace L2
open PySem PySem.Spec PyProof.Rows Sq
theorem repS_txt (z : List Nat) (n : Nat) : repS (txt z) n = txt (List.replicate n z).flatten := Str.ext' (by
  have : (repS (txt z) n).cps.toList = (txt (List.replicate n z).flatten).cps.toList := by rw [repS_list, txt_cps, txt_cps]
  exact Array.toList_inj.mp this)
section
variable {X : Cx}
theorem op_mulT : OpR X (binaryOp .Mult) (fun x y H Q => ∃ (z : List Nat) (n : Nat), x = .str (txt z) ∧ y = .int (n : Int) ∧ n ≤ 1100 ∧ z.length ≤ 900 ∧ Q (.str (txt (List.replicate n z).flatten)) H) := by
  intro pins s σ H x y v u Q I rx ry h
  obtain ⟨z, n, rfl, rfl, h2, h4, q⟩ := h
  obtain ⟨t, rfl⟩ := rx
  obtain ⟨t', rfl⟩ := ry
  have hzl : (txt z).length = z.length := txt_len z
  have hzn : z.length * n ≤ 1000000 := Nat.le_trans (Nat.mul_le_mul h4 h2) (by decide)
  have e6 : (1000000 : Nat) ≤ sizeLine := by decide
  have hlong : Builtin.Str.tooLong ((txt z).length * (n : Int).toNat) = false := by
    rw [Int.toNat_natCast, hzl]
    unfold Builtin.Str.tooLong
    exact decide_eq_false (by omega)
  refine P.mul_str (by rw [decide_eq_false (by omega), decide_eq_false (by omega)]; rfl) (fun h1 _ => ?_) (fun _ _ => hlong) ?_
  · have : (1000000 : Int) ≤ (2 ^ 63 - 1) / (n : Int) := by
      apply Int.le_ediv_of_mul_le (by omega)
      omega
    rw [hzl]
    omega
  · by_cases h1 : (n : Int) < 1
    · have : n = 0 := by omega
      subst this
      rw [if_pos h1]
      exact ⟨by decide, ⟨.str _, H, I.tok _, ⟨_, rfl⟩, q⟩⟩
    rw [if_neg h1]
    by_cases h3 : ((n : Int) == 1 || (txt z).length == 0) = true
    · rw [if_pos h3]
      have e : (List.replicate n z).flatten = z := by
        rw [Bool.or_eq_true] at h3
        rcases h3 with h3 | h3
        · have : n = 1 := by have := beq_iff_eq.mp h3; omega
          subst this; simp
        · have : z.length = 0 := by have := beq_iff_eq.mp h3; omega
          have : z = [] := List.length_eq_zero_iff.mp this
          subst this; simp
      rw [e] at q
      exact ⟨.str _, H, I, ⟨_, rfl⟩, q⟩
    · rw [if_neg h3]
      have er : (⟨(List.replicate (n : Int).toNat (txt z).cps).foldl (· ++ ·) #[]⟩ : Str) = txt (List.replicate n z).flatten := by
        rw [Int.toNat_natCast]; exact repS_txt z n
      show (Made.str (⟨(List.replicate (n : Int).toNat (txt z).cps).foldl (· ++ ·) #[]⟩ : Str)).post _ _
      rw [er]
      refine ⟨?_, ⟨.str _, H, I.tok _, ⟨_, rfl⟩, q⟩⟩
      rw [txt_len, List.length_flatten, List.map_replicate, List.sum_replicate_nat, Nat.mul_comm]
      omega
end
def TTu (K : PySem.W.Frag) (a : Addr) (ns : List Int) : Prop := ∃ (o : Obj) (its : Array Value) (n : Nat), K.lookup a = some o ∧ o.cls = .type "tuple" ∧ o.data = .seq its n ∧ its.size ≤ sizeLine ∧ Vals (ns.map V.int) its.toList
theorem TTu.sq {K : PySem.W.Frag} {a : Addr} {ns : List Int} (h : TTu K a ns) (H : Hp) : SqT K H a (ns.map V.int) := .inr h
theorem ttu4 {K : PySem.W.Frag} {a : Addr} {i1 i2 i3 i4 : Int} {t1 t2 t3 t4 : Tok} {od : Option Addr} {n : Nat} {sl : Array (Option Value)} (l : K.lookup a = some ⟨.type "tuple", od, .seq #[.int i1 t1, .int i2 t2, .int i3 t3, .int i4 t4] n, sl⟩) : TTu K a [i1, i2, i3, i4] :=
  ⟨_, _, _, l, rfl, rfl, (by show 4 ≤ sizeLine; decide), .cons ⟨_, rfl⟩ (.cons ⟨_, rfl⟩ (.cons ⟨_, rfl⟩ (.cons ⟨_, rfl⟩ .nil)))⟩
end L2
namespace K1
open PySem L2 Sq
theorem compWholeS {K : PySem.W.Frag} {Hc : Hp} {p : Addr} {r : List Int} {j : Nat} {Q : VK} {σ : St} (hj : σ[j]? = some (some (.ref p))) (hp : SqT K Hc p (r.map V.int)) (hn : r.length ≤ 1000)
    (k : ∀ (H' : Hp) (d : Addr), Same Hc H' → H' d = some (.lst ((List.replicate r.length true).map V.bl)) → Q (.ref d) H') :
    tComp (iTup K (tVar j)) 1 [] (gName 0) (tCall spWhole [] E0 (tCons (tVar 0) tNil)) σ Hc Q := by
  refine ⟨_, hj, p, rfl, ⟨_, hp⟩, fun d hd => ?_⟩
  refine comp_by (Q := fun d H' => Q (.ref d) H') r.length ((List.replicate r.length true).map V.bl) (by simp) (fun i σ H3 => ∃ o, σ = [o] ∧ Same Hc H3) ⟨none, rfl, same_upd (Same.refl _) hd⟩ ?_ ?_
  · rintro i σ H3 hi ⟨o, rfl, s3⟩ hd3
    have hp3 := s3.sqt hp
    have hg : (r.map V.int)[i]? = some (.int r[i]) := by rw [List.getElem?_map, List.getElem?_eq_getElem hi]; rfl
    refine ⟨⟨_, _, hp3, hg⟩, fun y H4 ⟨e, hy⟩ => ?_⟩
    subst e
    have hy := hy _ hp3
    rw [hg] at hy
    cases hy
    refine ⟨_, rfl, _, rfl, cpost hi hn hd3 (by simp [hi]) ⟨_, rfl, same_upd s3 hd⟩⟩
  · rintro σ H3 ⟨o, rfl, s3⟩ hd3
    exact ⟨⟨_, s3.sqt hp, by rw [List.length_map]; exact Nat.le_refl _⟩, k H3 d s3 hd3⟩
abbrev TbK (K : PySem.W.Frag) (H : Hp) (p : Addr) (x : Q4) : Prop := SqT K H p (x.l.map V.int)
def spIt (K : PySem.W.Frag) : Sp := fun vs H Q _ => ∃ (p : Addr) (x : Q4), vs = [.ref p] ∧ TbK K H p x ∧ x.bt 1100 ∧ x.det = 1 ∧ ∀ H' : Hp, Same H H' → Q (.bl true) H'
def spIt0 (K : PySem.W.Frag) : Sp := fun vs H Q _ => ∃ (p : Addr) (x : Q4), vs = [.ref p] ∧ TbK K H p x ∧ x.bt 1100 ∧ x.det = 1 ∧ ∀ H' : Hp, Same H H' → Q .non H'
def spPr (K : PySem.W.Frag) : Sp := fun vs H Q _ => ∃ (p q : Addr) (x y : Q4), vs = [.ref p, .ref q] ∧ TbK K H p x ∧ TbK K H q y ∧ x.bt 1100 ∧ y.bt 1100 ∧ x.det = 1 ∧ y.det = 1 ∧ ∀ (H' : Hp) (z : Addr), Same H H' → H' z = some (.tup ((x.mul y).l.map V.int)) → Q (.ref z) H'
section
variable {P : Program} {w : World} {K : PySem.W.Frag} {mg : Str → Option Value} {base : Heap}
abbrev n_it : List Str := ["thing"]
theorem sc_it : FnScope n_it ["thing"] (defScope sIsTable) := ⟨rfl, rfl, rfl, by decide +kernel, rfl, by decide +kernel, by decide +kernel⟩
theorem nd_it : (["number"] : List Str).Nodup := by decide +kernel
theorem ok_it {f fw : Addr} {fd dw : FuncData} (T : Bi mg) (F : Fn K mg "is_table" sIsTable ["thing"] f fd) (FW : Fn K mg "is_whole" sIsWhole ["thing"] fw dw) (GW : FnOk P w K mg base CX0 1 fw dw ["thing"] spWhole) : FnOk P w K mg base CX0 2 f fd ["thing"] (spIt K) := by
  refine F.F.ok sc_it (fun vs H Q E h => ?_) (fun cdv A outer s H vs Q E hr h => ?_)
  · obtain ⟨p, x, rfl, _⟩ := h; rfl
  · obtain ⟨p, x, rfl, hp, ⟨ba, bb, bc, bd⟩, hdet, k⟩ := h
    have hr1 : Room 1 _ := hr.mono (by decide)
    refine ⟨_, (pss_cons (ps_if (PW.pt (pw_or (pt_not (pt_val (pe_callB call_isinstS rfl T.isin boot_isin (pa_cons (pv 0) (pa_cons (pe_bltn (v := .ty "tuple") rfl T.tuple boot_tuple rfl) pa_nil))))) (pw_or (pt_cmpR op_ne (pe_callB call_len_seq rfl T.len PySem.boot_len (pa_cons (pv 0) pa_nil)) pe_int (nomark _)) (pw_or1 (pt_not (pt_val (pe_callB (call_all_bools rfl) rfl T.all boot_all (pa_cons (pe_comp (N := n_it) (names := (defScope sIsTable).names) (N' := ["number"]) (k := 1) (pull := []) (te := (tCall spWhole [] E0 (tCons (tVar 0) tNil))) rfl ⟨by rfl, by decide +kernel, by decide +kernel, by rfl, by decide +kernel, by decide +kernel⟩ rfl rfl (pi_tup (pv 0)) (fun _ _ _ _ _ _ => pg_name (i := 0) nd_it rfl (Or.inl rfl)) (fun _ _ _ _ _ _ => (pe_call GW hr rfl FW.m FW.F.kp FW.b .nil pass0 (pa_cons (pv 0) pa_nil)))) pa_nil)))))))) (pss_one (ps_ret pe_bl)) pss_nil)
      (pss_one (ps_ret (pe_cmpR op_eq (pe_op op_sub (pe_op op_mulB (pe_ix ix_tup (pv 0) pe_int (fun _ _ => rfl)) (pe_ix ix_tup (pv 0) pe_int (fun _ _ => rfl))) (pe_op op_mulB (pe_ix ix_tup (pv 0) pe_int (fun _ _ => rfl)) (pe_ix ix_tup (pv 0) pe_int (fun _ _ => rfl)))) pe_int (nomark _))))), ?_⟩
    refine ⟨_, rfl, p, _, _, _, rfl, hp, kit_tup_tup K, _, rfl, ?_⟩
    refine iteF ?_
    refine ⟨_, rfl, p, _, rfl, .inr hp, rfl, _, rfl, ?_⟩
    refine iteF ?_
    dsimp only [tNext, tSeq, tIfS, tNot, tB, tCB, tCons]
    refine compWholeS rfl hp (by simp [Q4.l]) fun H3 e s3 he => ?_
    refine ⟨e, _, rfl, SqL.of he, _, rfl, ?_⟩
    rw [all_rep]
    refine iteF ?_
    have hp := s3.sqt hp
    refine ⟨_, rfl, p, _, 0, _, rfl, rfl, hp, atI_nat (j := 0) rfl, _, rfl, p, _, 3, _, rfl, rfl, hp, atI_nat (j := 3) rfl, _, _, rfl, rfl, ⟨ba.mono (by decide), bd.mono (by decide)⟩, _, rfl, p, _, 1, _, rfl, rfl, hp, atI_nat (j := 1) rfl, _, rfl, p, _, 2, _, rfl, rfl, hp, atI_nat (j := 2) rfl, _, _, rfl, rfl, ⟨bb.mono (by decide), bc.mono (by decide)⟩, _, _, rfl, rfl, rfl, ?_⟩
    have e1 : decide (V.int (x.a * x.d - x.b * x.c) = V.int 1) = true := decide_eq_true (congrArg V.int hdet)
    show Q (.bl (decide (V.int (x.a * x.d - x.b * x.c) = V.int 1))) H3
    rw [e1]
    exact k H3 s3
abbrev n_nt : List Str := ["thing"]
theorem sc_nt : FnScope n_nt ["thing"] (defScope sNeedTable) := ⟨rfl, rfl, rfl, by decide +kernel, rfl, by decide +kernel, by decide +kernel⟩
theorem ok_nt {f fi : Addr} {fd di : FuncData} (F : Fn K mg "need_table" sNeedTable ["thing"] f fd) (FI : Fn K mg "is_table" sIsTable ["thing"] fi di) (GI : FnOk P w K mg base CX0 2 fi di ["thing"] (spIt K)) : FnOk P w K mg base CX0 3 f fd ["thing"] (spIt0 K) := by
  refine F.F.ok sc_nt (fun vs H Q E h => ?_) (fun cdv A outer s H vs Q E hr h => ?_)
  · obtain ⟨p, x, rfl, _⟩ := h; rfl
  · obtain ⟨p, x, rfl, hp, hb, hdet, k⟩ := h
    have hr1 : Room 1 _ := hr.mono (by decide)
    refine ⟨_, (pss_one (ps_if (pt_not (pt_val (pe_call GI hr rfl FI.m FI.F.kp FI.b .nil pass0 (pa_cons (pv 0) pa_nil)))) pss_never pss_nil)), ?_⟩
    refine ⟨_, rfl, p, x, rfl, hp, hb, hdet, fun H1 s1 => ⟨_, rfl, ?_⟩⟩
    refine iteF ?_
    exact k H1 s1
abbrev n_pr : List Str := ["one", "other"]
theorem sc_pr : FnScope n_pr ["one", "other"] (defScope sProduct) := ⟨rfl, rfl, rfl, by decide +kernel, rfl, by decide +kernel, by decide +kernel⟩
theorem ok_pr {f fn : Addr} {fd dn : FuncData} (F : Fn K mg "product" sProduct ["one", "other"] f fd) (FN : Fn K mg "need_table" sNeedTable ["thing"] fn dn) (GN : FnOk P w K mg base CX0 3 fn dn ["thing"] (spIt0 K)) : FnOk P w K mg base CX0 4 f fd ["one", "other"] (spPr K) := by
  refine F.F.ok sc_pr (fun vs H Q E h => ?_) (fun cdv A outer s H vs Q E hr h => ?_)
  · obtain ⟨p, q, x, y, rfl, _⟩ := h; rfl
  · obtain ⟨p, q, x, y, rfl, hp, hq, hbx, hby, hdx, hdy, k⟩ := h
    have hr1 : Room 1 _ := hr.mono (by decide)
    refine ⟨_, (pss_cons (ps_expr (pe_call GN hr rfl FN.m FN.F.kp FN.b .nil pass0 (pa_cons (pv 0) pa_nil)))
      (pss_cons (ps_expr (pe_call GN hr rfl FN.m FN.F.kp FN.b .nil pass0 (pa_cons (pv 1) pa_nil)))
      (pss_one (ps_ret (pe_tup (pa_cons (pe_op op_add (pe_op op_mulB (pe_ix ix_tup (pv 0) pe_int (fun _ _ => rfl)) (pe_ix ix_tup (pv 1) pe_int (fun _ _ => rfl))) (pe_op op_mulB (pe_ix ix_tup (pv 0) pe_int (fun _ _ => rfl)) (pe_ix ix_tup (pv 1) pe_int (fun _ _ => rfl)))) (pa_cons (pe_op op_add (pe_op op_mulB (pe_ix ix_tup (pv 0) pe_int (fun _ _ => rfl)) (pe_ix ix_tup (pv 1) pe_int (fun _ _ => rfl))) (pe_op op_mulB (pe_ix ix_tup (pv 0) pe_int (fun _ _ => rfl)) (pe_ix ix_tup (pv 1) pe_int (fun _ _ => rfl)))) (pa_cons (pe_op op_add (pe_op op_mulB (pe_ix ix_tup (pv 0) pe_int (fun _ _ => rfl)) (pe_ix ix_tup (pv 1) pe_int (fun _ _ => rfl))) (pe_op op_mulB (pe_ix ix_tup (pv 0) pe_int (fun _ _ => rfl)) (pe_ix ix_tup (pv 1) pe_int (fun _ _ => rfl)))) (pa_cons (pe_op op_add (pe_op op_mulB (pe_ix ix_tup (pv 0) pe_int (fun _ _ => rfl)) (pe_ix ix_tup (pv 1) pe_int (fun _ _ => rfl))) (pe_op op_mulB (pe_ix ix_tup (pv 0) pe_int (fun _ _ => rfl)) (pe_ix ix_tup (pv 1) pe_int (fun _ _ => rfl)))) pa_nil))))))))), ?_⟩
    refine ⟨_, rfl, p, x, rfl, hp, hbx, hdx, fun H1 s1 => ?_⟩
    refine ⟨_, rfl, q, y, rfl, s1.sqt hq, hby, hdy, fun H2 s2 => ?_⟩
    have s12 := s1.trans s2
    replace hp := s12.sqt hp
    replace hq := s12.sqt hq
    obtain ⟨a1, a2, a3, a4⟩ := hbx.mono (m := 4000) (by decide)
    obtain ⟨b1, b2, b3, b4⟩ := hby.mono (m := 4000) (by decide)
    refine ⟨_, rfl, p, _, 0, _, rfl, rfl, hp, atI_nat (j := 0) rfl, _, rfl, q, _, 0, _, rfl, rfl, hq, atI_nat (j := 0) rfl, _, _, rfl, rfl, ⟨a1, b1⟩, _, rfl, p, _, 1, _, rfl, rfl, hp, atI_nat (j := 1) rfl, _, rfl, q, _, 2, _, rfl, rfl, hq, atI_nat (j := 2) rfl, _, _, rfl, rfl, ⟨a2, b3⟩, _, _, rfl, rfl, ?_⟩
    refine ⟨_, rfl, p, _, 0, _, rfl, rfl, hp, atI_nat (j := 0) rfl, _, rfl, q, _, 1, _, rfl, rfl, hq, atI_nat (j := 1) rfl, _, _, rfl, rfl, ⟨a1, b2⟩, _, rfl, p, _, 1, _, rfl, rfl, hp, atI_nat (j := 1) rfl, _, rfl, q, _, 3, _, rfl, rfl, hq, atI_nat (j := 3) rfl, _, _, rfl, rfl, ⟨a2, b4⟩, _, _, rfl, rfl, ?_⟩
    refine ⟨_, rfl, p, _, 2, _, rfl, rfl, hp, atI_nat (j := 2) rfl, _, rfl, q, _, 0, _, rfl, rfl, hq, atI_nat (j := 0) rfl, _, _, rfl, rfl, ⟨a3, b1⟩, _, rfl, p, _, 3, _, rfl, rfl, hp, atI_nat (j := 3) rfl, _, rfl, q, _, 2, _, rfl, rfl, hq, atI_nat (j := 2) rfl, _, _, rfl, rfl, ⟨a4, b3⟩, _, _, rfl, rfl, ?_⟩
    refine ⟨_, rfl, p, _, 2, _, rfl, rfl, hp, atI_nat (j := 2) rfl, _, rfl, q, _, 1, _, rfl, rfl, hq, atI_nat (j := 1) rfl, _, _, rfl, rfl, ⟨a3, b2⟩, _, rfl, p, _, 3, _, rfl, rfl, hp, atI_nat (j := 3) rfl, _, rfl, q, _, 3, _, rfl, rfl, hq, atI_nat (j := 3) rfl, _, _, rfl, rfl, ⟨a4, b4⟩, _, _, rfl, rfl, ?_⟩
    refine ⟨by show 4 ≤ sizeLine; decide, fun z hz => k _ z (same_upd s12 (s12.free hz)) upd_same⟩
end
end K1
namespace K1
open PySem L2 Sq
theorem str_sts : (Str.ofString "sts") = txt [115, 116, 115] := by decide +kernel
theorem str_ttt : (Str.ofString "ttt") = txt [116, 116, 116] := by decide +kernel
def spItB (K : PySem.W.Frag) : Sp := fun vs H Q _ => ∃ (p : Addr) (x : Q4), vs = [.ref p] ∧ TbK K H p x ∧ x.bt 1100 ∧ ∀ H' : Hp, Same H H' → Q (.bl (decide (x.det = 1))) H'
def spNtB (K : PySem.W.Frag) (CT : Addr) : Sp := fun vs H Q E => ∃ (p : Addr) (x : Q4), vs = [.ref p] ∧ TbK K H p x ∧ x.bt 1100 ∧ (x.det = 1 → ∀ H' : Hp, Same H H' → Q .non H') ∧ (x.det ≠ 1 → ∀ H' : Hp, Same H H' → E (.ref CT) none H')
def spBk (K : PySem.W.Frag) : Sp := fun vs H Q _ => ∃ (p : Addr) (x : Q4), vs = [.ref p] ∧ TbK K H p x ∧ x.bt 1100 ∧ x.det = 1 ∧ ∀ (H' : Hp) (z : Addr), Same H H' → H' z = some (.tup ((⟨x.d, -x.b, -x.c, x.a⟩ : Q4).l.map V.int)) → Q (.ref z) H'
def spSh : Sp := fun vs H Q _ => ∃ m : Int, vs = [.int m] ∧ m.natAbs ≤ 130 ∧ Q (.str (txt (shW m))) H
section
variable {P : Program} {w : World} {K : PySem.W.Frag} {mg : Str → Option Value} {base : Heap}
abbrev n_itB : List Str := ["thing"]
theorem sc_itB : FnScope n_itB ["thing"] (defScope sIsTable) := ⟨rfl, rfl, rfl, by decide +kernel, rfl, by decide +kernel, by decide +kernel⟩
theorem nd_itB : (["number"] : List Str).Nodup := by decide +kernel
theorem ok_itB {f fw : Addr} {fd dw : FuncData} (T : Bi mg) (F : Fn K mg "is_table" sIsTable ["thing"] f fd) (FW : Fn K mg "is_whole" sIsWhole ["thing"] fw dw) (GW : FnOk P w K mg base CX0 1 fw dw ["thing"] spWhole) : FnOk P w K mg base CX0 2 f fd ["thing"] (spItB K) := by
  refine F.F.ok sc_itB (fun vs H Q E h => ?_) (fun cdv A outer s H vs Q E hr h => ?_)
  · obtain ⟨p, x, rfl, _⟩ := h; rfl
  · obtain ⟨p, x, rfl, hp, ⟨ba, bb, bc, bd⟩, k⟩ := h
    have hr1 : Room 1 _ := hr.mono (by decide)
    refine ⟨_, (pss_cons (ps_if (PW.pt (pw_or (pt_not (pt_val (pe_callB call_isinstS rfl T.isin boot_isin (pa_cons (pv 0) (pa_cons (pe_bltn (v := .ty "tuple") rfl T.tuple boot_tuple rfl) pa_nil))))) (pw_or (pt_cmpR op_ne (pe_callB call_len_seq rfl T.len PySem.boot_len (pa_cons (pv 0) pa_nil)) pe_int (nomark _)) (pw_or1 (pt_not (pt_val (pe_callB (call_all_bools rfl) rfl T.all boot_all (pa_cons (pe_comp (N := n_itB) (names := (defScope sIsTable).names) (N' := ["number"]) (k := 1) (pull := []) (te := (tCall spWhole [] E0 (tCons (tVar 0) tNil))) rfl ⟨by rfl, by decide +kernel, by decide +kernel, by rfl, by decide +kernel, by decide +kernel⟩ rfl rfl (pi_tup (pv 0)) (fun _ _ _ _ _ _ => pg_name (i := 0) nd_itB rfl (Or.inl rfl)) (fun _ _ _ _ _ _ => (pe_call GW hr rfl FW.m FW.F.kp FW.b .nil pass0 (pa_cons (pv 0) pa_nil)))) pa_nil)))))))) (pss_one (ps_ret pe_bl)) pss_nil)
      (pss_one (ps_ret (pe_cmpR op_eq (pe_op op_sub (pe_op op_mulB (pe_ix ix_tup (pv 0) pe_int (fun _ _ => rfl)) (pe_ix ix_tup (pv 0) pe_int (fun _ _ => rfl))) (pe_op op_mulB (pe_ix ix_tup (pv 0) pe_int (fun _ _ => rfl)) (pe_ix ix_tup (pv 0) pe_int (fun _ _ => rfl)))) pe_int (nomark _))))), ?_⟩
    refine ⟨_, rfl, p, _, _, _, rfl, hp, kit_tup_tup K, _, rfl, ?_⟩
    refine iteF ?_
    refine ⟨_, rfl, p, _, rfl, .inr hp, rfl, _, rfl, ?_⟩
    refine iteF ?_
    dsimp only [tNext, tSeq, tIfS, tNot, tB, tCB, tCons]
    refine compWholeS rfl hp (by simp [Q4.l]) fun H3 e s3 he => ?_
    refine ⟨e, _, rfl, SqL.of he, _, rfl, ?_⟩
    rw [all_rep]
    refine iteF ?_
    have hp := s3.sqt hp
    refine ⟨_, rfl, p, _, 0, _, rfl, rfl, hp, atI_nat (j := 0) rfl, _, rfl, p, _, 3, _, rfl, rfl, hp, atI_nat (j := 3) rfl, _, _, rfl, rfl, ⟨ba.mono (by decide), bd.mono (by decide)⟩, _, rfl, p, _, 1, _, rfl, rfl, hp, atI_nat (j := 1) rfl, _, rfl, p, _, 2, _, rfl, rfl, hp, atI_nat (j := 2) rfl, _, _, rfl, rfl, ⟨bb.mono (by decide), bc.mono (by decide)⟩, _, _, rfl, rfl, rfl, ?_⟩
    have e1 : decide (V.int (x.a * x.d - x.b * x.c) = V.int 1) = decide (x.det = 1) := by
      show decide (V.int x.det = V.int 1) = decide (x.det = 1)
      by_cases h : x.det = 1
      · rw [decide_eq_true h, decide_eq_true (congrArg V.int h)]
      · rw [decide_eq_false h, decide_eq_false (fun z => h (V.int.inj z))]
    show Q (.bl (decide (V.int (x.a * x.d - x.b * x.c) = V.int 1))) H3
    rw [e1]
    exact k H3 s3
abbrev n_ntB : List Str := ["thing"]
theorem sc_ntB : FnScope n_ntB ["thing"] (defScope sNeedTable) := ⟨rfl, rfl, rfl, by decide +kernel, rfl, by decide +kernel, by decide +kernel⟩
theorem ok_ntB {f fi : Addr} {fd di : FuncData} {CT : Addr} (hC : ExCls K CT) (hCm : mg "NoTable" = some (.ref CT)) (F : Fn K mg "need_table" sNeedTable ["thing"] f fd) (FI : Fn K mg "is_table" sIsTable ["thing"] fi di) (GI : FnOk P w K mg base CX0 2 fi di ["thing"] (spItB K)) : FnOk P w K mg base (CX1 P w) 3 f fd ["thing"] (spNtB K CT) := by
  refine F.F.ok1 sc_ntB (fun vs H Q E h => ?_) (fun cdv A outer s H vs Q E hr h => ?_)
  · obtain ⟨p, x, rfl, _⟩ := h; rfl
  · obtain ⟨p, x, rfl, hp, hb, k1, k2⟩ := h
    have hr1 : Room 1 _ := hr.mono (by decide)
    refine ⟨_, (pss_one (ps_if (pt_not (pt_val (pe_call GI hr rfl FI.m FI.F.kp FI.b .nil pass0 (pa_cons (pv 0) pa_nil)))) (pss_one (ps_raise rfl hC rfl hCm throw1 (pa_cons pe_str pa_nil))) pss_nil)), ?_⟩
    refine ⟨_, rfl, p, x, rfl, hp, hb, fun H1 s1 => ⟨_, rfl, ?_⟩⟩
    by_cases h : x.det = 1
    · rw [decide_eq_true h]
      refine iteF ?_
      exact k1 h H1 s1
    · rw [decide_eq_false h]
      refine iteT ?_
      exact ⟨by show 1 ≤ sizeLine; decide, k2 h H1 s1⟩
abbrev n_bk : List Str := ["table"]
theorem sc_bk : FnScope n_bk ["table"] (defScope sBackTable) := ⟨rfl, rfl, rfl, by decide +kernel, rfl, by decide +kernel, by decide +kernel⟩
theorem ok_bk {f fn : Addr} {fd dn : FuncData} (F : Fn K mg "back_table" sBackTable ["table"] f fd) (FN : Fn K mg "need_table" sNeedTable ["thing"] fn dn) (GN : FnOk P w K mg base CX0 3 fn dn ["thing"] (spIt0 K)) : FnOk P w K mg base CX0 4 f fd ["table"] (spBk K) := by
  refine F.F.ok sc_bk (fun vs H Q E h => ?_) (fun cdv A outer s H vs Q E hr h => ?_)
  · obtain ⟨p, x, rfl, _⟩ := h; rfl
  · obtain ⟨p, x, rfl, hp, hbx, hdx, k⟩ := h
    have hr1 : Room 1 _ := hr.mono (by decide)
    refine ⟨_, (pss_cons (ps_expr (pe_call GN hr rfl FN.m FN.F.kp FN.b .nil pass0 (pa_cons (pv 0) pa_nil)))
      (pss_one (ps_ret (pe_tup (pa_cons (pe_ix ix_tup (pv 0) pe_int (fun _ _ => rfl)) (pa_cons (pe_un un_neg (pe_ix ix_tup (pv 0) pe_int (fun _ _ => rfl))) (pa_cons (pe_un un_neg (pe_ix ix_tup (pv 0) pe_int (fun _ _ => rfl))) (pa_cons (pe_ix ix_tup (pv 0) pe_int (fun _ _ => rfl)) pa_nil)))))))), ?_⟩
    refine ⟨_, rfl, p, x, rfl, hp, hbx, hdx, fun H1 s1 => ?_⟩
    replace hp := s1.sqt hp
    refine ⟨_, rfl, p, _, 3, _, rfl, rfl, hp, atI_nat (j := 3) rfl, _, rfl, p, _, 1, _, rfl, rfl, hp, atI_nat (j := 1) rfl, _, rfl, _, rfl, p, _, 2, _, rfl, rfl, hp, atI_nat (j := 2) rfl, _, rfl, _, rfl, p, _, 0, _, rfl, rfl, hp, atI_nat (j := 0) rfl, ?_⟩
    refine ⟨by show 4 ≤ sizeLine; decide, fun z hz => k _ z (same_upd s1 (s1.free hz)) upd_same⟩
abbrev n_sh : List Str := ["many"]
theorem sc_sh : FnScope n_sh ["many"] (defScope sShears) := ⟨rfl, rfl, rfl, by decide +kernel, rfl, by decide +kernel, by decide +kernel⟩
theorem ok_sh {f : Addr} {fd : FuncData} (F : Fn K mg "shears" sShears ["many"] f fd) : FnOk P w K mg base CX0 1 f fd ["many"] spSh := by
  refine F.F.ok sc_sh (fun vs H Q E h => ?_) (fun cdv A outer s H vs Q E hr h => ?_)
  · obtain ⟨m, rfl, _⟩ := h; rfl
  · obtain ⟨m, rfl, hm, k⟩ := h
    refine ⟨_, (pss_cons (ps_if (pt_cmpR op_ge (pv 0) pe_int (nomark _)) (pss_one (ps_ret (pe_op op_mulT pe_str (pv 0)))) pss_nil)
      (pss_one (ps_ret (pe_op op_add_str (pe_op op_add_str pe_str (pe_op op_mulT pe_str (pe_un un_neg (pv 0)))) pe_str)))), ?_⟩
    refine ⟨_, rfl, _, _, rfl, rfl, _, rfl, ?_⟩
    refine ite2 (fun hc => ?_) (fun hc => ?_)
    · have h0 : 0 ≤ m := of_decide_eq_true hc
      refine ⟨_, rfl, [115], m.toNat, congrArg V.str str_s, by rw [Int.toNat_of_nonneg h0], by omega, by decide, ?_⟩
      have : shW m = (List.replicate m.toNat [115]).flatten := if_pos h0
      rw [← this]
      exact k
    · have h0 : ¬ 0 ≤ m := fun z => hc (decide_eq_true z)
      have hl : (List.replicate (-m).toNat [115, 116, 115]).flatten.length ≤ 390 := by
        rw [List.length_flatten, List.map_replicate, List.sum_replicate_nat]
        show (-m).toNat * 3 ≤ 390
        omega
      refine ⟨_, rfl, _, rfl, [115, 116, 115], (-m).toNat, congrArg V.str str_sts, by rw [Int.toNat_of_nonneg (by omega)], by omega, by decide, ?_⟩
      refine ⟨_, _, rfl, rfl, ?_, _, _, rfl, rfl, ?_, ?_⟩
      · rw [txt_len]; exact Nat.le_of_lt (small100k' (by show 3 + _ ≤ _; omega))
      · rw [str_ttt, str_t, txt_app, txt_len, txt_len, List.length_append]; exact Nat.le_of_lt (small100k' (by show 3 + _ + 1 ≤ _; omega))
      · rw [str_ttt, str_t, txt_app, txt_app]
        have : shW m = [116, 116, 116] ++ (List.replicate (-m).toNat [115, 116, 115]).flatten ++ [116] := if_neg h0
        rw [← this]
        exact k
end
end K1
namespace K1
open PySem L2 Sq
theorem boot_absY : bootBuiltins "abs" = some (.builtin "abs") := by decide +kernel
abbrev teAbs : TE := tCB (fun xs H Q => ∃ i, xs = [.int i] ∧ Q (.int (if i < 0 then -i else i)) H) (tCons (tVar 0) tNil)
theorem compAbs {K : PySem.W.Frag} {Hc : Hp} {p : Addr} {r : List Int} {j : Nat} {Q : VK} {σ : St} (hj : σ[j]? = some (some (.ref p))) (hp : SqT K Hc p (r.map V.int)) (hn : r.length ≤ 1000)
    (k : ∀ (H' : Hp) (d : Addr), Same Hc H' → H' d = some (.lst ((r.map fun i => (i.natAbs : Int)).map V.int)) → Q (.ref d) H') :
    tComp (iTup K (tVar j)) 1 [] (gName 0) teAbs σ Hc Q := by
  refine ⟨_, hj, p, rfl, ⟨_, hp⟩, fun d hd => ?_⟩
  refine comp_by (Q := fun d H' => Q (.ref d) H') r.length ((r.map fun i => (i.natAbs : Int)).map V.int) (by simp) (fun i σ H3 => ∃ o, σ = [o] ∧ Same Hc H3) ⟨none, rfl, same_upd (Same.refl _) hd⟩ ?_ ?_
  · rintro i σ H3 hi ⟨o, rfl, s3⟩ hd3
    have hp3 := s3.sqt hp
    have hg : (r.map V.int)[i]? = some (.int r[i]) := by rw [List.getElem?_map, List.getElem?_eq_getElem hi]; rfl
    refine ⟨⟨_, _, hp3, hg⟩, fun y H4 ⟨e, hy⟩ => ?_⟩
    subst e
    have hy := hy _ hp3
    rw [hg] at hy
    cases hy
    have e9 : (if r[i] < 0 then -r[i] else r[i]) = ((r[i].natAbs : Nat) : Int) := by split <;> omega
    refine ⟨_, rfl, _, rfl, ?_⟩
    rw [e9]
    exact cpost hi hn hd3 (by simp [hi]) ⟨_, rfl, same_upd s3 hd⟩
  · rintro σ H3 ⟨o, rfl, s3⟩ hd3
    exact ⟨⟨_, s3.sqt hp, by rw [List.length_map]; exact Nat.le_refl _⟩, k H3 d s3 hd3⟩
theorem max60 {x : Q4} {m : Int} (h1 : m ∈ x.l.map fun i => (i.natAbs : Int)) (h2 : ∀ y ∈ x.l.map (fun i => (i.natAbs : Int)), y ≤ m) : m ≤ 60 ↔ le60 x := by
  unfold le60
  simp only [Q4.l, List.map_cons, List.map_nil, List.mem_cons, List.not_mem_nil, or_false] at h1 h2
  have g1 := h2 _ (.inl rfl)
  have g2 := h2 _ (.inr (.inl rfl))
  have g3 := h2 _ (.inr (.inr (.inl rfl)))
  have g4 := h2 _ (.inr (.inr (.inr rfl)))
  omega
theorem str_tt : (Str.ofString "tt") = txt [116, 116] := by decide +kernel
theorem bt_qT : qT.bt 1100 := Q4.bt.mono (n := 2) (⟨by show (0 : Int).natAbs < 2 ^ 2; decide, by show (-1 : Int).natAbs < 2 ^ 2; decide, by show (1 : Int).natAbs < 2 ^ 2; decide, by show (0 : Int).natAbs < 2 ^ 2; decide⟩ : qT.bt 2) (by decide)
theorem bt_qB : (⟨0, 1, -1, 0⟩ : Q4).bt 1100 := Q4.bt.mono (n := 2) (⟨by show (0 : Int).natAbs < 2 ^ 2; decide, by show (1 : Int).natAbs < 2 ^ 2; decide, by show (-1 : Int).natAbs < 2 ^ 2; decide, by show (0 : Int).natAbs < 2 ^ 2; decide⟩ : (⟨0, 1, -1, 0⟩ : Q4).bt 2) (by decide)
theorem bt_qs {m : Int} (h : m.natAbs ≤ 2000000) : (qs m).bt 1100 := Q4.bt.mono (n := 21) (⟨by show (1 : Int).natAbs < 2 ^ 21; decide, by show m.natAbs < 2 ^ 21; omega, by show (0 : Int).natAbs < 2 ^ 21; decide, by show (1 : Int).natAbs < 2 ^ 21; decide⟩ : (qs m).bt 21) (by decide)
def spWd (K : PySem.W.Frag) (CT : Addr) : Sp := fun vs H Q E => ∃ (p : Addr) (x : Q4), vs = [.ref p] ∧ TbK K H p x ∧ x.bt 1100 ∧ (x.det = 1 → le60 x → ∀ H' : Hp, Same H H' → Q (.str (txt (wordF x))) H') ∧ (x.det = 1 → ¬ le60 x → ∀ H' : Hp, Same H H' → E (.ref CT) none H') ∧ (x.det ≠ 1 → ∀ H' : Hp, Same H H' → E (.ref CT) none H')
section
variable {P : Program} {w : World} {K : PySem.W.Frag} {mg : Str → Option Value} {base : Heap}
abbrev n_wd : List Str := ["table", "left", "word", "many"]
theorem sc_wd : FnScope n_wd ["table"] (defScope sWordOf) := ⟨rfl, rfl, rfl, by decide +kernel, rfl, by decide +kernel, by decide +kernel⟩
theorem nd_wd : (["number"] : List Str).Nodup := by decide +kernel
theorem ok_wd {f fn fs fp fb : Addr} {fd dn ds dp db : FuncData} {CT dL b0 b1 : Addr} {tk : Tok} (T_abs : mg "abs" = none) (T_max : mg "max" = none) (hC : ExCls K CT) (hCm : mg "NoTable" = some (.ref CT)) (C_LETTERS : mg "LETTERS" = some (.ref dL)) (hL : TDi P w K dL (lts (.ref b0) (.ref b1))) (h1 : TTu K b1 [0, -1, 1, 0]) (C_GREATEST : mg "GREATEST" = some (.int 60 tk)) (F : Fn K mg "word_of" sWordOf ["table"] f fd) (FN : Fn K mg "need_table" sNeedTable ["thing"] fn dn) (GN : FnOk P w K mg base (CX1 P w) 3 fn dn ["thing"] (spNtB K CT))
    (FS : Fn K mg "shears" sShears ["many"] fs ds) (GS : FnOk P w K mg base CX0 1 fs ds ["many"] spSh)
    (FP : Fn K mg "product" sProduct ["one", "other"] fp dp) (GP : FnOk P w K mg base CX0 4 fp dp ["one", "other"] (spPr K))
    (FB : Fn K mg "back_table" sBackTable ["table"] fb db) (GB : FnOk P w K mg base CX0 4 fb db ["table"] (spBk K)) : FnOk P w K mg base (CX1 P w) 5 f fd ["table"] (spWd K CT) := by
  refine F.F.ok1 sc_wd (fun vs H Q E h => ?_) (fun cdv A outer s H vs Q E hr h => ?_)
  · obtain ⟨p, x, rfl, _⟩ := h; rfl
  · obtain ⟨p, x, rfl, hp, hbx, k1, k2, k3⟩ := h
    have hr1 : Room 1 _ := hr.mono (by decide)
    have hr3 : Room 3 _ := hr.mono (by decide)
    refine ⟨_, (pss_cons (ps_expr (pe_call GN hr3 rfl FN.m FN.F.kp FN.b .nil (pass1 fun _ _ _ z => z) (pa_cons (pv 0) pa_nil)))
      (pss_cons (ps_if (pt_cmpR op_gt (pe_callB (call_maxL rfl) rfl T_max boot_max (pa_cons (pe_comp (N := n_wd) (names := (defScope sWordOf).names) (N' := ["number"]) (k := 1) (pull := []) (te := teAbs) rfl ⟨by rfl, by decide +kernel, by decide +kernel, by rfl, by decide +kernel, by decide +kernel⟩ rfl rfl (pi_tup (pv 0)) (fun _ _ _ _ _ _ => pg_name (i := 0) nd_wd rfl (Or.inl rfl)) (fun _ _ _ _ _ _ => (pe_callB call_abs rfl T_abs boot_absY (pa_cons (pv 0) pa_nil)))) pa_nil)) (pe_glob (v := .int 60) (by rfl) C_GREATEST ⟨_, rfl⟩) (nomark _)) (pss_one (ps_raise rfl hC rfl hCm throw1 (pa_cons (pe_fstr (.cons pe_str (.cons (pe_fmtI (pe_glob (v := .int 60) (by rfl) C_GREATEST ⟨_, rfl⟩)) (.cons pe_str (.cons (pe_fmtI (pe_glob (v := .int 60) (by rfl) C_GREATEST ⟨_, rfl⟩)) .nil))))) pa_nil))) pss_nil)
      (PSs.nox (pss_cons (ps_set (i := 1) sc_wd.nd rfl (Or.inl rfl) (pv 0))
      (pss_cons (ps_set (i := 2) sc_wd.nd rfl (Or.inl rfl) pe_str)
      (pss_cons (ps_while PassesOwn.never (pt_cmpR op_ne (pe_ix ix_tup (pv 1) pe_int (fun _ _ => rfl)) pe_int (nomark _)) (pss_cons (ps_set (i := 3) sc_wd.nd rfl (Or.inl rfl) (pe_un un_neg (pe_op op_fdivN (pe_un un_neg (pe_ix ix_tup (pv 1) pe_int (fun _ _ => rfl))) (pe_ix ix_tup (pv 1) pe_int (fun _ _ => rfl)))))
      (pss_cons (ps_set (i := 2) sc_wd.nd rfl (Or.inl rfl) (pe_op op_add_str (pe_op op_add_str pe_str (pe_call GS hr1 rfl FS.m FS.F.kp FS.b .nil pass0 (pa_cons (pv 3) pa_nil))) (pv 2)))
      (pss_one (ps_set (i := 1) sc_wd.nd rfl (Or.inl rfl) (pe_call GP hr rfl FP.m FP.F.kp FP.b .nil pass0 (pa_cons (pe_call GB hr rfl FB.m FB.F.kp FB.b .nil pass0 (pa_cons (pe_dgetK (pe_glob (v := .ref dL) (by rfl) C_LETTERS rfl) pe_str (fun _ _ => rfl)) pa_nil)) (pa_cons (pe_call GP hr rfl FP.m FP.F.kp FP.b .nil pass0 (pa_cons (pe_tup (pa_cons pe_int (pa_cons (pe_un un_neg (pv 3)) (pa_cons pe_int (pa_cons pe_int pa_nil))))) (pa_cons (pv 1) pa_nil))) pa_nil))))))))
      (pss_cons (ps_if (pt_cmpR op_eq (pe_ix ix_tup (pv 1) pe_int (fun _ _ => rfl)) pe_int (nomark _)) (pss_one (ps_ret (pe_op op_add_str (pe_call GS hr1 rfl FS.m FS.F.kp FS.b .nil pass0 (pa_cons (pe_ix ix_tup (pv 1) pe_int (fun _ _ => rfl)) pa_nil)) (pv 2)))) pss_nil)
      (pss_one (ps_ret (pe_op op_add_str (pe_op op_add_str pe_str (pe_call GS hr1 rfl FS.m FS.F.kp FS.b .nil pass0 (pa_cons (pe_un un_neg (pe_ix ix_tup (pv 1) pe_int (fun _ _ => rfl))) pa_nil))) (pv 2))))))))))), ?_⟩
    refine ⟨_, rfl, p, x, rfl, hp, hbx, fun hd H1 s1 => ?_, k3⟩
    have hp1 := s1.sqt hp
    dsimp only [tNext, tSeq, tIfS, tTest, tOp, tCB, tCons, tNil]
    refine compAbs rfl hp1 (by simp [Q4.l]) fun H2 e s2 he => ?_
    refine ⟨e, _, rfl, SqL.of he, by simp [Q4.l], fun m hm1 hm2 => ⟨_, _, rfl, rfl, _, rfl, ?_⟩⟩
    have hm := max60 hm1 hm2
    have s12 := s1.trans s2
    have sl : ∀ n : Nat, n ≤ 100000 → n ≤ sizeLine := fun n h => Nat.le_of_lt (small100k' h)
    have four : 4 ≤ sizeLine := by decide
    by_cases hl : le60 x
    · rw [decide_eq_false (by have := hm.mpr hl; omega)]
      refine iteF ?_
      refine ⟨_, rfl, ?_⟩
      refine while_nat (fun m σ H3 => Same H H3 ∧ ∃ (q : Addr) (L : Q4) (z : List Nat) (o : Option V) (n : Nat), m = L.c.natAbs ∧ σ = [some (.ref p), some (.ref q), some (.str (txt z)), o] ∧ TbK K H3 q L ∧ WI x L z ∧ L.c.natAbs ≤ n ∧ wlp n L z = wordF x) ⟨_, s12, p, x, [], _, _, rfl, rfl, s2.sqt hp1, WI.start hd hl, Nat.le_refl _, rfl⟩ ?_ ?_
      · rintro m σ H3 ⟨s3, q, L, z, o, n, rfl, rfl, hq, hw, hn, hz⟩
        refine ⟨_, rfl, q, _, 2, _, rfl, rfl, hq, atI_nat (j := 2) rfl, rfl, _, rfl, ?_⟩
        have zl := hw.len
        refine ite2 (fun h => ?_) (fun h => ?_)
        · have hc : L.c ≠ 0 := by
            intro e
            rw [e] at h
            exact absurd h (by decide)
          obtain ⟨hw2, hlt⟩ := hw.step hc
          obtain ⟨l1, l2, l3, g4⟩ := hw.le
          have hm130 : (mny L).natAbs ≤ 130 := Nat.le_trans (mny_le hc) (by omega)
          have hmid := le60_mid hw2.le
          refine ⟨_, rfl, q, _, 0, _, rfl, rfl, hq, atI_nat (j := 0) rfl, _, rfl, _, rfl, q, _, 2, _, rfl, rfl, hq, atI_nat (j := 2) rfl, _, _, rfl, rfl, ⟨hc, by omega⟩, _, rfl, ?_⟩
          have hsl := sh_len (mny L)
          refine ⟨_, rfl, mny L, rfl, hm130, _, _, rfl, rfl, ?_, _, rfl, _, _, rfl, rfl, ?_, ?_⟩
          · rw [str_t, txt_len, txt_len]; exact sl _ (by show 1 + _ ≤ _; omega)
          · rw [str_t, txt_app, txt_len, txt_len, List.length_append]; exact sl _ (by show 1 + _ + _ ≤ _; omega)
          rw [str_t, txt_app, txt_app]
          refine ⟨dL, _, (Sum.inr (Str.ofString "t") : Key), .ref b1, _, by rfl, by rfl, hL, by rw [str_t]; exact lts_t _ _, rfl, ?_⟩
          refine ⟨b1, qT, rfl, h1.sq _, bt_qT, rfl, fun H4 y s4 hy => ?_⟩
          refine ⟨_, rfl, _, rfl, four, fun t ht => ?_⟩
          have ut := same_upd (o := .tup [.int 1, .int (-(mny L)), .int 0, .int 1]) (Same.refl H4) ht
          have tt : (upd H4 t (.tup [.int 1, .int (-(mny L)), .int 0, .int 1])) t = some (.tup ((qs (-(mny L))).l.map V.int)) := upd_same
          refine ⟨_, rfl, t, q, qs (-(mny L)), L, rfl, SqT.of tt, ut.sqt (s4.sqt hq), bt_qs (by omega), (bt_le60 hw.le).mono (by decide), by simp [Q4.det, qs], hw.det, fun H6 y2 s6 hy2 => ?_⟩
          refine ⟨y, y2, ⟨0, 1, -1, 0⟩, (qs (-(mny L))).mul L, rfl, SqT.of (s6 _ _ (ut _ _ hy)), SqT.of hy2, bt_qB, (bt_le60 hmid).mono (by decide), rfl, by rw [det_mul4, hw.det]; simp [Q4.det, qs], fun H7 y3 s7 hy3 => ?_⟩
          refine ⟨(wstep L).c.natAbs, hlt, s3.trans (s4.trans (ut.trans (s6.trans s7))), y3, wstep L, _, _, n - 1, rfl, rfl, SqT.of hy3, hw2, by omega, ?_⟩
          obtain ⟨n', rfl⟩ : ∃ n', n = n' + 1 := ⟨n - 1, by omega⟩
          rw [wlp_go hc] at hz
          exact hz
        · have hc : L.c = 0 := by
            rcases Decidable.em (L.c = 0) with e | e
            · exact e
            · exact absurd (by rw [decide_eq_false (fun z => e (V.int.inj z))]; rfl) h
          rw [wlp_end hc] at hz
          obtain ⟨l1, l2, l3, g4⟩ := hw.le
          refine ⟨_, rfl, q, _, 0, _, rfl, rfl, hq, atI_nat (j := 0) rfl, rfl, _, rfl, ?_⟩
          unfold wend at hz
          refine ite2 (fun g => ?_) (fun g => ?_)
          · have ha : L.a = 1 := V.int.inj (of_decide_eq_true g)
            rw [if_pos ha] at hz
            have hsl := sh_len L.b
            refine ⟨_, rfl, q, _, 1, _, rfl, rfl, hq, atI_nat (j := 1) rfl, L.b, rfl, by omega, _, rfl, _, _, rfl, rfl, ?_, ?_⟩
            · rw [txt_len, txt_len]; exact sl _ (by omega)
            · rw [txt_app, hz]
              exact k1 hd hl H3 s3
          · have ha : ¬ L.a = 1 := fun z => g (decide_eq_true (congrArg V.int z))
            rw [if_neg ha] at hz
            have hsl := sh_len (-L.b)
            refine ⟨_, rfl, q, _, 1, _, rfl, rfl, hq, atI_nat (j := 1) rfl, _, rfl, -L.b, rfl, by omega, _, _, rfl, rfl, ?_, _, rfl, _, _, rfl, rfl, ?_, ?_⟩
            · rw [str_tt, txt_len, txt_len]; exact sl _ (by show 2 + _ ≤ _; omega)
            · rw [str_tt, txt_app, txt_len, txt_len, List.length_append]; exact sl _ (by show 2 + _ + _ ≤ _; omega)
            · rw [str_tt, txt_app, txt_app, hz]
              exact k1 hd hl H3 s3
      · rintro σ H' Q1 Q2 hq ⟨y, e1, a1, a2, a3, a4, a5, a6, a7, a8, a9, b2, b3, b4⟩
        exact ⟨y, e1, a1, a2, a3, a4, a5, a6, a7, a8, a9, b2, b3, hq _ _ b4⟩
    · rw [decide_eq_true (by rcases Int.lt_or_le 60 m with h | h; exact h; exact absurd (hm.mp h) hl)]
      refine iteT ?_
      refine ⟨_, rfl, by decide, ?_⟩
      refine ⟨60, rfl, by decide, _, rfl, by decide, ?_⟩
      refine ⟨_, rfl, by decide, ?_⟩
      refine ⟨60, rfl, by decide, _, rfl, by decide, ?_⟩
      exact ⟨by show 1 ≤ sizeLine; decide, k2 hd hl H2 s12⟩
end
end K1
namespace K1
open PySem L2 Sq
def spBal4 : Sp := fun vs H Q _ => ∃ (a : Addr) (p q : Int) (n : Nat) (r u : List Nat), vs = [.ref a, .int p, .int q] ∧ ShAt H a r u ∧ Sheet n r u ∧ p.natAbs ≤ 60 ∧ q.natAbs ≤ 60 ∧ Int.gcd p q = 1 ∧
  ∀ (H' : Hp) (l : Addr) (as : List Addr) (ps : List Pr), Same H H' → H l = none → H' l = some (.lst (as.map V.ref)) → PsAt H' as ps → ps.Perm ((NB n (mvs n (wordF (lq p q)) (r, u))).map short) → sortedP ps → Q (.ref l) H'
section
variable {P : Program} {w : World} {K : PySem.W.Frag} {mg : Str → Option Value} {base : Heap}
abbrev n_bal : List Str := ["sheet", "p", "q", "level"]
theorem sc_bal : FnScope n_bal ["sheet", "p", "q"] (defScope sBandsAlong) := ⟨rfl, rfl, rfl, by decide +kernel, rfl, by decide +kernel, by decide +kernel⟩
theorem nd_balx : (["band"] : List Str).Nodup := by decide +kernel
theorem ok_bal {f fm fw ft fq : Addr} {fd dm dw dt dq : FuncData} {CT CW : Addr} (T : Bi mg) (F : Fn K mg "bands_along" sBandsAlong ["sheet", "p", "q"] f fd) (FM : Fn K mg "moved" sMoved ["sheet", "word"] fm dm) (GM : FnOk P w K mg base (CX1 P w) 4 fm dm ["sheet", "word"] (spMd CW))
    (FW : Fn K mg "word_of" sWordOf ["table"] fw dw) (GW : FnOk P w K mg base (CX1 P w) 5 fw dw ["table"] (spWd K CT))
    (FT : Fn K mg "to_level" sToLevel ["p", "q"] ft dt) (GT : FnOk P w K mg base CX0 3 ft dt ["p", "q"] spTl)
    (FQ : Fn K mg "bands" sBands ["sheet"] fq dq) (GQ : FnOk P w K mg base CX0 9 fq dq ["sheet"] spBands) : FnOk P w K mg base CX0 10 f fd ["sheet", "p", "q"] spBal4 := by
  refine F.F.ok sc_bal (fun vs H Q E h => ?_) (fun cdv A outer s H vs Q E hr h => ?_)
  · obtain ⟨a, p, q, n, r, u, rfl, _⟩ := h; rfl
  · obtain ⟨a, p, q, n, r, u, rfl, hsh, hS, p12, q12, hg, k⟩ := h
    have hu10 : (A.deeper (PyProof.Rows.envOfC "bands_along" (defScope sBandsAlong) s.heap.objs.size f cdv)).units + 10 < cLine := Nat.lt_of_le_of_lt (Nat.add_le_add_left (by decide) _) hr.units
    have hr1 : Room 1 _ := hr.mono (by decide)
    have hr3 : Room 3 _ := hr.mono (by decide)
    have hr4 : Room 4 _ := hr.mono (by decide)
    have hr5 : Room 5 _ := hr.mono (by decide)
    have hr9 : Room 9 _ := hr.mono (by decide)
    refine ⟨_, (pss_cons (ps_set (i := 3) sc_bal.nd rfl (Or.inl rfl) (pe_call GM hr4 rfl FM.m FM.F.kp FM.b .nil passE0 (pa_cons (pv 0) (pa_cons (pe_call GW hr5 rfl FW.m FW.F.kp FW.b .nil passE0 (pa_cons (pe_call GT hr3 rfl FT.m FT.F.kp FT.b .nil pass0 (pa_cons (pv 1) (pa_cons (pv 2) pa_nil))) pa_nil)) pa_nil))))
      (pss_one (ps_ret (pe_callB (call_sortedP rfl hu10) rfl T.sorted boot_sorted (pa_cons (pe_comp (N := n_bal) (names := (defScope sBandsAlong).names) (N' := ["band"]) (k := 1) (pull := []) (te := (teShort K)) rfl ⟨by rfl, by decide +kernel, by decide +kernel, by rfl, by decide +kernel, by decide +kernel⟩ rfl rfl (pi_list (pe_call GQ hr9 rfl FQ.m FQ.F.kp FQ.b .nil pass0 (pa_cons (pv 3) pa_nil))) (fun _ _ _ _ _ _ => pg_name (i := 0) nd_balx rfl (Or.inl rfl)) (fun _ _ _ _ _ _ => (pe_tup (pa_cons (pe_ix ix_tup (pv 0) pe_int (fun _ _ => rfl)) (pa_cons (pe_ix ix_tup (pv 0) pe_int (fun _ _ => rfl)) pa_nil))))) pa_nil))))), ?_⟩
    have rr := hS.row
    have ru := hS.col
    have hn := hS.most
    have hway : Way p q := ⟨by omega, by omega, fun ⟨z1, z2⟩ => by rw [z1, z2] at hg; exact absurd hg (by decide)⟩
    have hck := wts_of p12 q12 hg
    refine ⟨_, rfl, _, rfl, _, rfl, p, q, rfl, hway, hg, fun H1 l1 s1 hl1 e1 b1 b2 => ?_⟩
    have hdet : (lq p q).det = 1 := by
      show wt0 p q * p - wt1 p q * (-q) = 1
      rw [Int.mul_neg]; omega
    have hl60 : le60 (lq p q) := ⟨hck.1, hck.2.1, by show (-q).natAbs ≤ 60; omega, by show p.natAbs ≤ 60; omega⟩
    have big : ∀ {i : Int}, i.natAbs ≤ 60 → Bt 1100 i := fun {i} h => Nat.lt_of_le_of_lt h (by decide +kernel)
    obtain ⟨_, wl, wc⟩ := wordF_ok hdet hl60
    have hok : okW (wordF (lq p q)) = true := by
      unfold okW
      rw [decide_eq_true wl, Bool.true_and, List.all_eq_true]
      exact wc
    refine ⟨l1, lq p q, rfl, SqT.of hl1, ⟨big hl60.1, big hl60.2.1, big hl60.2.2.1, big hl60.2.2.2⟩, fun _ _ H2 s2 => ?_, fun _ z => absurd hl60 z, fun z => absurd hdet z⟩
    have s12 := s1.trans s2
    refine ⟨a, wordF (lq p q), n, r, u, rfl, by omega, hsh.same s12, rr, ru, hn, fun _ H3 b s3 hb => ?_, fun z => by rw [hok] at z; cases z⟩
    have hSm := mvs_sheet (wordF (lq p q)) (x := (r, u)) hS
    have s13 := s12.trans s3
    dsimp only [gName, tRet, tCB, tCons, tNil]
    refine compC2 (fun H4 lb => Same H3 H4 ∧ ∃ as bs, H4 lb = some (.lst (as.map V.ref)) ∧ BsAt H4 as bs ∧ bs.Perm (NB n (mvs n (wordF (lq p q)) (r, u)))) (fun R hR => ⟨_, rfl, b, n, _, _, rfl, hb, hSm.row, hSm.col, hn, fun H4 lb as bs s4 _ hlb hB hp _ => hR H4 lb ⟨s4, as, bs, hlb, hB, hp⟩⟩) ?_
    rintro H4 lb ⟨s4, as, bs, hlb, hB, hp⟩
    have hal := hB.len
    have hbl := hp.length_eq
    have hbn : (NB n (mvs n (wordF (lq p q)) (r, u))).length ≤ n := bandsOf_len
    refine compShort (rest := []) hlb hB rfl (by omega) fun H5 d ps s5 hd0 hd hP => ?_
    have hpl := hP.len
    rw [List.length_map] at hpl
    refine sortP_at hd hP (by omega) fun l ps' bs' hl0 hP' hpp hso => ?_
    have sa := s13.trans (s4.trans s5)
    exact k _ l ps' bs' (same_upd sa (sa.free hl0)) (sa.free hl0) upd_same hP' (hpp.trans (hp.map short)) hso
end
end K1
namespace K1
open PySem L2 Sq
section
variable {P : Program} {w : World} {K : PySem.W.Frag} {mg : Str → Option Value} {base : Heap}
theorem scWhole : FnScope ["_law_found"] ["_law_found"] (defScope sWhole) := ⟨rfl, rfl, rfl, by decide +kernel, rfl, by decide +kernel, by decide +kernel⟩
theorem ok_whole {f : Addr} {fd : FuncData} (T : Bi mg) (F : Fn K mg "_law_whole" sWhole ["_law_found"] f fd) : FnOk P w K mg base CX0 1 f fd ["_law_found"] spWhole := by
  refine F.F.ok scWhole (fun vs H Q E h => ?_) (fun cdv A outer s H vs Q E hr h => ?_)
  · obtain ⟨i, rfl, _⟩ := h; rfl
  · obtain ⟨i, rfl, k⟩ := h
    refine ⟨_, pss_one (ps_ret (pe_and (pe_callB call_isinst (by rfl) T.isin boot_isin (pa_cons (pv 0) (pa_cons (pe_bltn (v := .ty "int") (by rfl) T.int boot_int rfl) pa_nil)))
      (pe_one (pe_not (pe_callB call_isinst (by rfl) T.isin boot_isin (pa_cons (pv 0) (pa_cons (pe_bltn (v := .ty "bool") (by rfl) T.bool boot_bool rfl) pa_nil))))))), ?_⟩
    refine ⟨_, rfl, _, _, _, _, rfl, .int i, kit_int_int K, _, rfl, ?_⟩
    refine iteT ?_
    exact ⟨_, rfl, _, _, _, _, rfl, .int i, kit_int_bool K, _, rfl, k⟩
end
end K1
namespace K1
open PySem L2 Sq
def spAre : Sp := fun vs H Q _ => ∃ (l : Addr) (n : Nat) (as : List Addr) (ps : List Pr), vs = [.ref l, .int (n : Int)] ∧ H l = some (.lst (as.map V.ref)) ∧ PsAt H as ps ∧ sortedP ps ∧ (∀ b ∈ ps, 1 ≤ b.1 ∧ 1 ≤ b.2 ∧ b.1 ≤ 36) ∧ ps.length ≤ 36 ∧ (ps.map fun b => b.1 * b.2).sum = n ∧ n ≤ 36 ∧ ∀ H' : Hp, Same H H' → Q (.bl true) H'
section
variable {P : Program} {w : World} {K : PySem.W.Frag} {mg : Str → Option Value} {base : Heap}
abbrev n_are : List Str := ["_law_found", "_law_many", "_law_total", "_law_band"]
theorem sc_are : FnScope n_are ["_law_found", "_law_many"] (defScope sLBandsAre) := ⟨rfl, rfl, rfl, by decide +kernel, rfl, by decide +kernel, by decide +kernel⟩
set_option maxHeartbeats 1000000 in
theorem ok_are {f fw : Addr} {fd dw : FuncData} (T : Bi mg) (F : Fn K mg "_law_bands_are" sLBandsAre ["_law_found", "_law_many"] f fd) (FW : Fn K mg "_law_whole" sWhole ["_law_found"] fw dw) (GW : FnOk P w K mg base CX0 1 fw dw ["_law_found"] spWhole) : FnOk P w K mg base CX0 2 f fd ["_law_found", "_law_many"] spAre := by
  refine F.F.ok sc_are (fun vs H Q E h => ?_) (fun cdv A outer s H vs Q E hr h => ?_)
  · obtain ⟨l, n, as, ps, rfl, _⟩ := h; rfl
  · obtain ⟨l, n, as, ps, rfl, hl, hP, hso, hb, hpl, hsum, hn, k⟩ := h
    have hu10 : (A.deeper (PyProof.Rows.envOfC "_law_bands_are" (defScope sLBandsAre) s.heap.objs.size f cdv)).units + 10 < cLine := Nat.lt_of_le_of_lt (Nat.add_le_add_left (by decide) _) hr.units
    have hr1 : Room 1 _ := hr.mono (by decide)
    refine ⟨_, (pss_cons (ps_if (PW.pt (pw_or (pt_not (pt_val (pe_callB call_isinst rfl T.isin boot_isin (pa_cons (pv 0) (pa_cons (pe_bltn (v := .ty "list") rfl T.list boot_list rfl) pa_nil))))) (pw_or1 (pt_cmpR op_neD (pe_callB (call_sortedP rfl hu10) rfl T.sorted boot_sorted (pa_cons (pv 0) pa_nil)) (pv 0) (nomark _))))) (pss_one (ps_ret pe_bl)) pss_nil)
      (pss_cons (ps_set (i := 2) sc_are.nd rfl (Or.inl rfl) pe_int)
      (pss_cons (ps_for PassesOwn.never rfl (pi_list (pv 0)) (pg_name (i := 3) sc_are.nd rfl (Or.inl rfl)) (pss_cons (ps_if (PW.pt (pw_or (pt_not (pt_val (pe_callB call_isinst rfl T.isin boot_isin (pa_cons (pv 3) (pa_cons (pe_bltn (v := .ty "tuple") rfl T.tuple boot_tuple rfl) pa_nil))))) (pw_or (pt_cmpR op_ne (pe_callB call_len_seq rfl T.len PySem.boot_len (pa_cons (pv 3) pa_nil)) pe_int (nomark _)) (pw_or (pt_not (pt_val (pe_call GW hr1 rfl FW.m FW.F.kp FW.b .nil pass0 (pa_cons (pe_ix ix_tup (pv 3) pe_int (fun _ _ => rfl)) pa_nil)))) (pw_or1 (pt_not (pt_val (pe_call GW hr1 rfl FW.m FW.F.kp FW.b .nil pass0 (pa_cons (pe_ix ix_tup (pv 3) pe_int (fun _ _ => rfl)) pa_nil))))))))) (pss_one (ps_ret pe_bl)) pss_nil)
      (pss_cons (ps_if (PW.pt (pw_or (pt_cmpR op_lt (pe_ix ix_tup (pv 3) pe_int (fun _ _ => rfl)) pe_int (nomark _)) (pw_or1 (pt_cmpR op_lt (pe_ix ix_tup (pv 3) pe_int (fun _ _ => rfl)) pe_int (nomark _))))) (pss_one (ps_ret pe_bl)) pss_nil)
      (pss_one (ps_set (i := 2) sc_are.nd rfl (Or.inl rfl) (pe_op op_add (pv 2) (pe_op op_mul (pe_ix ix_tup (pv 3) pe_int (fun _ _ => rfl)) (pe_ix ix_tup (pv 3) pe_int (fun _ _ => rfl)))))))))
      (pss_one (ps_ret (pe_cmpR op_eq (pv 2) (pv 1) (nomark _))))))), ?_⟩
    have hlen := hP.len
    refine ⟨_, rfl, _, _, _, _, rfl, .lst hl, kit_list_list K, _, rfl, ?_⟩
    refine iteF ?_
    refine ⟨_, rfl, ?_⟩
    dsimp only [tNil]
    refine sortP_at hl hP (by omega) fun lz zs cs hlz hBz hpz hsz => ?_
    have uz := same_upd (o := .lst (zs.map V.ref)) (Same.refl H) hlz
    refine ⟨_, rfl, _, _, psD_dt upd_same hBz, psD_dt (uz _ _ hl) (hP.same uz), psD_lay _, psD_lay _, unitsD hr (psD_depth _), _, rfl, ?_⟩
    rw [if_pos rfl, sortedP_unique hpz hsz hso, psD_eqv]
    refine iteF ?_
    generalize upd H lz (.lst (zs.map V.ref)) = H1 at uz
    refine ⟨_, rfl, l, rfl, ⟨_, SqL.of (uz _ _ hl)⟩, for_list (K := K) (a := l) (xs := as.map V.ref) (fun i σ H2 => H2 = H1 ∧ ∃ o3, σ = [some (.ref l), some (.int (n : Int)), some (.int ((((ps.take i).map fun b => b.1 * b.2).sum : Nat) : Int)), o3]) ⟨rfl, _, rfl⟩ (fun i σ H2 _ ⟨e, _⟩ => by rw [e]; exact SqL.of (uz _ _ hl)) ?_ ?_⟩
    · rintro i x σ H2 hx ⟨rfl, o3, rfl⟩
      rw [List.getElem?_map] at hx
      obtain ⟨y, hy, rfl⟩ := Option.map_eq_some_iff.mp hx
      obtain ⟨b, hbi, h1⟩ := hP.get hy
      have hbb := hb b (List.mem_of_getElem? hbi)
      have h1 := uz _ _ h1
      have h1' := SqT.of (K := K) h1
      have htk : ((ps.take (i + 1)).map fun b => b.1 * b.2).sum = ((ps.take i).map fun b => b.1 * b.2).sum + b.1 * b.2 := by
        rw [List.take_add_one, hbi, List.map_append, List.sum_append]; simp
      refine ⟨_, rfl, _, _, _, _, rfl, .tup h1, kit_tup_tup K, _, rfl, ?_⟩
      refine iteF ?_
      refine ⟨_, rfl, y, _, rfl, .inr h1', rfl, _, rfl, ?_⟩
      refine iteF ?_
      refine ⟨_, rfl, y, _, 0, _, rfl, rfl, h1', atI_nat (j := 0) rfl, _, rfl, _, rfl, ?_⟩
      refine iteF ?_
      refine ⟨_, rfl, y, _, 1, _, rfl, rfl, h1', atI_nat (j := 1) rfl, _, rfl, _, rfl, ?_⟩
      refine iteF ?_
      refine ⟨_, rfl, y, _, 0, _, rfl, rfl, h1', atI_nat (j := 0) rfl, _, _, rfl, rfl, _, rfl, ?_⟩
      rw [decide_eq_false (show ¬ (b.1 : Int) < 1 by omega)]
      refine iteF ?_
      refine ⟨_, rfl, y, _, 1, _, rfl, rfl, h1', atI_nat (j := 1) rfl, _, _, rfl, rfl, _, rfl, ?_⟩
      rw [decide_eq_false (show ¬ (b.2 : Int) < 1 by omega)]
      refine iteF ?_
      refine ⟨_, rfl, _, rfl, y, _, 0, _, rfl, rfl, h1', atI_nat (j := 0) rfl, _, rfl, y, _, 1, _, rfl, rfl, h1', atI_nat (j := 1) rfl, _, _, rfl, rfl, .inl ⟨by omega, by omega⟩, _, _, rfl, rfl, ?_⟩
      refine ⟨rfl, some (.ref y), ?_⟩
      rw [htk]
      simp
    · rintro σ H2 ⟨rfl, o3, rfl⟩
      rw [List.length_map, hlen, List.take_length, hsum]
      refine ⟨_, rfl, _, rfl, rfl, ?_⟩
      rw [decide_eq_true rfl]
      exact k _ uz
end
end K1
namespace K1
open PySem L2 Sq
def spRw : Sp := fun vs H Q _ => ∃ (a : Addr) (ns : List Int), vs = [.ref a] ∧ H a = some (.lst (ns.map V.int)) ∧ ns.length ≤ 36 ∧
  ∀ (H' : Hp) (p : Addr) (r : List Nat), Same H H' → H p = none → H' p = some (.lst (nv r)) → Row ns.length r → Q (.ref p) H'
section
variable {P : Program} {w : World} {K : PySem.W.Frag} {mg : Str → Option Value} {base : Heap}
abbrev n_rw : List Str := ["_law_cells", "_law_left", "_law_row_here", "_law_cell"]
theorem sc_rw : FnScope n_rw ["_law_cells"] (defScope sLRow) := ⟨rfl, rfl, rfl, by decide +kernel, rfl, by decide +kernel, by decide +kernel⟩
theorem ok_rw {f : Addr} {fd : FuncData} (T : Bi mg) (F : Fn K mg "_law_row" sLRow ["_law_cells"] f fd) : FnOk P w K mg base CX0 1 f fd ["_law_cells"] spRw := by
  refine F.F.ok sc_rw (fun vs H Q E h => ?_) (fun cdv A outer s H vs Q E hr h => ?_)
  · obtain ⟨a, ns, rfl, _⟩ := h; rfl
  · obtain ⟨a, ns, rfl, hA, hn, k⟩ := h
    obtain ⟨n, en⟩ : ∃ n, n = ns.length := ⟨_, rfl⟩
    refine ⟨_, (pss_cons (ps_set (i := 1) sc_rw.nd rfl (Or.inl rfl) (pe_callTy (call_list_rng rfl) rfl T.list boot_list (pa_cons (pe_callTy call_range1 rfl T.range PyProof.Rows.boot_range (pa_cons (pe_callB call_len_seq rfl T.len PySem.boot_len (pa_cons (pv 0) pa_nil)) pa_nil)) pa_nil)))
      (pss_cons (ps_set (i := 2) sc_rw.nd rfl (Or.inl rfl) (pe_lst pa_nil))
      (pss_cons (ps_for PassesOwn.never rfl (pi_list (pv 0)) (pg_name (i := 3) sc_rw.nd rfl (Or.inl rfl)) (pss_one (ps_expr (pe_bm PySem.F.plainAttrs_list PySem.F.slot_list_append PySem.F.type_list_append mt_append (pv 2) (pa_cons (pe_bm PySem.F.plainAttrs_list PySem.F.slot_list_pop PySem.F.type_list_pop mt_popAt (pv 1) (pa_cons (pe_op op_mod (pv 3) (pe_callB call_len_seq (by rfl) T.len PySem.boot_len (pa_cons (pv 1) pa_nil))) pa_nil)) pa_nil)))))
      (pss_one (ps_ret (pv 2)))))), ?_⟩
    refine ⟨_, rfl, a, _, rfl, .inl (SqL.of hA), ((ns.map V.int).length : Int), rfl, fun r0 hr0 => ⟨r0, (ns.map V.int).length, rfl, upd_same, by rw [List.length_map]; omega, fun lf hlf => ?_⟩⟩
    rw [List.length_map, ← en]
    rw [List.length_map, ← en] at hlf
    refine ⟨Nat.zero_le _, fun ln hln => ?_⟩
    have nlfr : lf ≠ r0 := fun e => by rw [e, upd_same] at hlf; cases hlf
    have f0 : H lf = none := by rwa [upd_ne nlfr] at hlf
    have nlnl : ln ≠ lf := fun e => by rw [e, upd_same] at hln; cases hln
    have g0 : (upd H r0 (.rng 0 (n : Int))) ln = none := by rwa [upd_ne nlnl] at hln
    have nlnr : ln ≠ r0 := fun e => by rw [e, upd_same] at g0; cases g0
    have g1 : H ln = none := by rwa [upd_ne nlnr] at g0
    have sb := same_upd (o := .lst []) (same_upd (o := .lst (nv (List.range n))) (same_upd (o := .rng 0 (n : Int)) (Same.refl H) hr0) f0) g1
    refine ⟨_, rfl, a, rfl, ⟨_, SqL.of (sb _ _ hA)⟩, ?_⟩
    refine for_list (K := K) (a := a) (xs := ns.map V.int) (fun i σ H3 => ∃ (o3 : Option V) (line left : List Nat), σ = [some (.ref a), some (.ref lf), some (.ref ln), o3] ∧
      Same H H3 ∧ H3 lf = some (.lst (nv left)) ∧ H3 ln = some (.lst (nv line)) ∧ line.length = i ∧ (line ++ left).Perm (List.range n)) ?_ (fun i σ H3 _ ⟨_, _, _, _, s3, _⟩ => SqL.of (s3 _ _ hA)) ?_ ?_
    · refine ⟨_, [], List.range n, rfl, sb, by rw [upd_ne nlnl.symm, upd_same], upd_same, rfl, List.Perm.refl _⟩
    · rintro i x σ H3 hi ⟨o3, line, left, rfl, s3, hlf3, hln3, hlen, hp⟩
      have hin : i < n := by
        have := (List.getElem?_eq_some_iff.mp hi).1
        rw [List.length_map] at this
        omega
      obtain ⟨v, rfl⟩ : ∃ v, x = V.int v := by
        rw [List.getElem?_map] at hi
        cases e : ns[i]? with
        | none => rw [e] at hi; cases hi
        | some v => rw [e] at hi; exact ⟨v, (Option.some.inj hi).symm⟩
      have hleft : left.length = n - i := by
        have := hp.length_eq
        simp only [List.length_append, List.length_range] at this
        omega
      have hpos : 0 < left.length := by omega
      refine ⟨_, rfl, .inl ⟨rfl, _, SqL.of hln3⟩, _, rfl, .inl ⟨rfl, _, SqL.of hlf3⟩, _, rfl, _, rfl, lf, _, rfl, .inl (SqL.of hlf3), _, _, rfl, rfl, ?_, ?_⟩
      · rw [nv_len]; omega
      refine popDraw hlf3 hpos (by omega) fun kx y hy => ?_
      have e3 : (upd H3 lf (.lst (nv (left.eraseIdx kx)))) ln = some (.lst (nv line)) := by rw [upd_ne nlnl]; exact hln3
      refine ⟨ln, _, _, rfl, rfl, e3, ?_, ?_⟩
      · rw [nv_len]; exact small1000 (by omega)
      refine ⟨_, line ++ [y], left.eraseIdx kx, rfl, same_upd (same_upd s3 f0) g1, ?_, ?_, ?_, pop_perm hp hy⟩
      · rw [upd_ne nlnl.symm, upd_same]
      · rw [upd_same, nv_snoc]
      · rw [List.length_append, hlen]; rfl
    · rintro σ H3 ⟨o3, line, left, rfl, s3, hlf3, hln3, hlen, hp⟩
      rw [List.length_map, ← en] at hlen
      have hl0 : left = [] := by
        have := hp.length_eq
        simp only [List.length_append, List.length_range] at this
        exact List.length_eq_zero_iff.mp (by omega)
      have hrow : Row n line := Row.of_perm (by rw [hl0, List.append_nil] at hp; exact hp)
      rw [en] at hrow
      exact ⟨_, rfl, k H3 ln line s3 g1 hln3 hrow⟩
end
end K1
namespace K1
open PySem L2 Sq
def spWb5 : Sp := fun vs H Q _ => ∃ (z : Int) (m : Nat), vs = [.int z, .int (m : Int)] ∧ m ≤ 60 ∧ ∀ (H' : Hp) (x : List Nat), Same H H' → St x → x.length ≤ m → Q (.str (txt x)) H'
section
variable {P : Program} {w : World} {K : PySem.W.Frag} {mg : Str → Option Value} {base : Heap}
abbrev n_wb5 : List Str := ["_law_cell", "_law_most", "_law_many", "_law_word_here", "_law_k"]
theorem sc_wb5 : FnScope n_wb5 ["_law_cell", "_law_most"] (defScope sLWordBy) := ⟨rfl, rfl, rfl, by decide +kernel, rfl, by decide +kernel, by decide +kernel⟩
theorem ok_wb5 {f : Addr} {fd : FuncData} (T : Bi mg) (F : Fn K mg "_law_word_by" sLWordBy ["_law_cell", "_law_most"] f fd) : FnOk P w K mg base CX0 1 f fd ["_law_cell", "_law_most"] spWb5 := by
  refine F.F.ok sc_wb5 (fun vs H Q E h => ?_) (fun cdv A outer s H vs Q E hr h => ?_)
  · obtain ⟨z, m, rfl, _⟩ := h; rfl
  · obtain ⟨z, m, rfl, hm, k⟩ := h
    refine ⟨_, (pss_cons (ps_set (i := 0) sc_wb5.nd rfl (Or.inl rfl) (pe_op op_mod (pv 0) (pe_op op_pow pe_int pe_int)))
      (pss_cons (ps_set (i := 2) sc_wb5.nd rfl (Or.inl rfl) (pe_op op_mod (pv 0) (pe_op op_add (pv 1) pe_int)))
      (pss_cons (ps_set (i := 0) sc_wb5.nd rfl (Or.inl rfl) (pe_op op_fdiv (pv 0) (pe_op op_add (pv 1) pe_int)))
      (pss_cons (ps_set (i := 3) sc_wb5.nd rfl (Or.inl rfl) pe_str)
      (pss_cons (ps_for PassesOwn.never rfl (pi_range1 rfl T.range (pa_cons (pv 2) pa_nil)) (pg_name (i := 4) sc_wb5.nd rfl (Or.inl rfl)) (pss_cons (ps_set (i := 3) sc_wb5.nd rfl (Or.inl rfl) (pe_op op_add_str (pv 3) (pe_ix ix_str pe_str (pe_op op_mod (pv 0) pe_int) (fun _ _ => rfl))))
      (pss_one (ps_set (i := 0) sc_wb5.nd rfl (Or.inl rfl) (pe_op op_fdiv (pv 0) pe_int)))))
      (pss_one (ps_ret (pv 3)))))))), ?_⟩
    refine ⟨_, rfl, 10, 60, rfl, rfl, ⟨by decide, by decide, by decide⟩, _, _, rfl, rfl, (by show (0 : Int) < 10 ^ Int.toNat 60; decide), ?_⟩
    refine ⟨_, rfl, _, rfl, _, _, rfl, rfl, _, _, rfl, rfl, (by omega : (0 : Int) < (m : Int) + 1), ?_⟩
    refine ⟨_, rfl, _, rfl, _, _, rfl, rfl, _, _, rfl, rfl, ⟨by omega, by omega⟩, ?_⟩
    have h0 : 0 ≤ z % 10 ^ Int.toNat 60 % ((m : Int) + 1) := Int.emod_nonneg _ (by omega)
    have h1 : z % 10 ^ Int.toNat 60 % ((m : Int) + 1) < (m : Int) + 1 := Int.emod_lt_of_pos _ (by omega)
    obtain ⟨N, hN⟩ := Int.eq_ofNat_of_zero_le h0
    rw [hN] at h1
    have hN2 : (fun i j => V.int (i % j)) (z % 10 ^ Int.toNat 60) ((m : Int) + 1) = V.int (N : Int) := congrArg V.int hN
    refine ⟨_, rfl, (N : Int), congrArg (fun x => [x]) hN2, by omega, by omega, ?_⟩
    rw [Int.toNat_natCast]
    have e0 : Str.ofString "" = txt [] := by decide +kernel
    have eSt : (((List.set (L2.start n_wb5 [V.int z, V.int (m : Int)]) 0 (some ((fun i j => V.int (i % j)) z (10 ^ Int.toNat 60)))).set 2 (some ((fun i j => V.int (i % j)) (z % 10 ^ Int.toNat 60) ((m : Int) + 1)))).set 0 (some ((fun i j => V.int (i / j)) (z % 10 ^ Int.toNat 60) ((m : Int) + 1)))).set 3 (some (V.str (Str.ofString ""))) = [some (.int (z % 10 ^ Int.toNat 60 / ((m : Int) + 1))), some (.int (m : Int)), some (.int (N : Int)), some (.str (txt [])), none] := by
      rw [hN2, e0]; rfl
    refine for_range (n := N) (fun i σ H2 => ∃ (c : Int) (x : List Nat) (o4 : Option V), σ = [some (.int c), some (.int (m : Int)), some (.int (N : Int)), some (.str (txt x)), o4] ∧ Same H H2 ∧ Sq.St x ∧ x.length = i) ⟨z % 10 ^ Int.toNat 60 / ((m : Int) + 1), [], none, eSt, Same.refl _, fun _ h => (List.not_mem_nil h).elim, rfl⟩ ?_ ?_
    · rintro i σ H2 hi ⟨c, x, o4, rfl, s2, hx, hl⟩
      have b0 : 0 ≤ c % 2 := Int.emod_nonneg _ (by decide)
      have b1 : c % 2 < 2 := Int.emod_lt_of_pos _ (by decide)
      obtain ⟨e, he, hee⟩ : ∃ e : Nat, atI (Str.ofString "st").cps.toList (c % 2) = some e ∧ (e = 115 ∨ e = 116) := by
        rcases (by omega : c % 2 = 0 ∨ c % 2 = 1) with h | h
        · exact ⟨115, by rw [h]; decide +kernel, .inl rfl⟩
        · exact ⟨116, by rw [h]; decide +kernel, .inr rfl⟩
      refine ⟨_, rfl, _, rfl, _, _, rfl, rfl, (by show (0 : Int) < 2; decide), _, _, _, rfl, rfl, (by decide +kernel), he, _, _, rfl, rfl, ?_, ?_⟩
      · rw [txt_len]
        show x.length + 1 ≤ sizeLine
        have : 100 ≤ sizeLine := by decide
        omega
      refine ⟨_, rfl, _, _, rfl, rfl, ⟨by decide, by decide⟩, ?_⟩
      refine ⟨c / 2, x ++ [e], some (.int (0 + (i : Int))), ?_, s2, fun y hy => (List.mem_append.mp hy).elim (hx y) fun h => by rw [List.mem_singleton.mp h]; exact hee, by simp [hl]⟩
      rw [← txt_app, ← txt_one]; rfl
    · rintro σ H2 ⟨c, x, o4, rfl, s2, hx, hl⟩
      exact ⟨_, rfl, k H2 x s2 hx (by omega)⟩
end
end K1
namespace K1
open PySem L2 Sq
end K1
namespace K1
open PySem L2 Sq
theorem seq_by {t rest : L2.TS} {D : Ends} {σ : St} {H : Hp} (Pv : St → Hp → Prop) (h : ∀ N : St → Hp → Prop, (∀ σ' H', Pv σ' H' → N σ' H') → t { D with nx := N } σ H) (k : ∀ σ' H', Pv σ' H' → rest D σ' H') : tSeq t rest D σ H := h _ k
def spWd64 (K : PySem.W.Frag) : Sp := fun vs H Q _ => ∃ (p q : Int) (l : Addr) (ns : List Int), vs = [.int p, .int q, .ref l] ∧ SqL K H l (ns.map V.int) ∧ ns.length ≤ 60 ∧ p.natAbs ≤ 60 ∧ q.natAbs ≤ 60 ∧
  ∀ (H' : Hp) (t : Addr) (z : List Nat) (p' q' : Int), Same H H' → H' t = some (.tup [.str (txt z), .int p', .int q']) → St z → z.length ≤ 60 → act (tb4 z) p q = (p', q') → p'.natAbs ≤ 60 → q'.natAbs ≤ 60 → Q (.ref t) H'
theorem act_s {z : List Nat} {p q p' q' : Int} (h : act (tb4 z) p q = (p', q')) : act (tb4 (z ++ [115])) p q = (p' + q', q') := by
  rw [tb4_snoc, act_mul, h]
  show (1 * p' + 1 * q', 0 * p' + 1 * q') = _
  simp
theorem act_t {z : List Nat} {p q p' q' : Int} (h : act (tb4 z) p q = (p', q')) : act (tb4 (z ++ [116])) p q = (-q', p') := by
  rw [tb4_snoc, act_mul, h]
  show (0 * p' + -1 * q', 1 * p' + 0 * q') = _
  simp
section
variable {P : Program} {w : World} {K : PySem.W.Frag} {mg : Str → Option Value} {base : Heap}
abbrev n_wd64 : List Str := ["_law_p", "_law_q", "_law_cells", "_law_word_here", "_law_cell", "_law_letter", "_law_further"]
theorem sc_wd64 : FnScope n_wd64 ["_law_p", "_law_q", "_law_cells"] (defScope sLWord) := ⟨rfl, rfl, rfl, by decide +kernel, rfl, by decide +kernel, by decide +kernel⟩
set_option maxHeartbeats 600000 in
theorem ok_wd64 {f : Addr} {fd : FuncData} (T : Bi mg) (T_abs : mg "abs" = none) (T_max : mg "max" = none) (F : Fn K mg "_law_word" sLWord ["_law_p", "_law_q", "_law_cells"] f fd) : FnOk P w K mg base CX0 1 f fd ["_law_p", "_law_q", "_law_cells"] (spWd64 K) := by
  refine F.F.ok sc_wd64 (fun vs H Q E h => ?_) (fun cdv A outer s H vs Q E hr h => ?_)
  · obtain ⟨p, q, l, ns, rfl, _⟩ := h; rfl
  · obtain ⟨p, q, l, ns, rfl, hl, hn, hp, hq, k⟩ := h
    refine ⟨_, (pss_cons (ps_set (i := 3) sc_wd64.nd rfl (Or.inl rfl) pe_str)
      (pss_cons (ps_for PassesOwn.never rfl (pi_list (pv 2)) (pg_name (i := 4) sc_wd64.nd rfl (Or.inl rfl)) (pss_cons (ps_set (i := 5) sc_wd64.nd rfl (Or.inl rfl) (pe_ix ix_str pe_str (pe_op op_mod (pe_op op_fdiv (pv 4) pe_int) pe_int) (fun _ _ => rfl)))
      (pss_cons (ps_set (i := 6) sc_wd64.nd rfl (Or.inl rfl) (pe_ifExp (pt_cmpR op_eq (pv 5) pe_str (nomark _)) (pe_tup (pa_cons (pe_op op_add (pv 0) (pv 1)) (pa_cons (pv 1) pa_nil))) (pe_tup (pa_cons (pe_un un_neg (pv 1)) (pa_cons (pv 0) pa_nil)))))
      (pss_one (ps_if (pt_cmpR op_le (pe_callB (call_max2 rfl) rfl T_max boot_max (pa_cons (pe_callB call_abs rfl T_abs boot_abs (pa_cons (pe_ix ix_tup (pv 6) pe_int (fun _ _ => rfl)) pa_nil)) (pa_cons (pe_callB call_abs rfl T_abs boot_abs (pa_cons (pe_ix ix_tup (pv 6) pe_int (fun _ _ => rfl)) pa_nil)) pa_nil))) pe_int (nomark _)) (pss_cons (ps_set (i := 3) sc_wd64.nd rfl (Or.inl rfl) (pe_op op_add_str (pv 3) (pv 5)))
      (pss_one (ps_asg (pv 6) (pg_tup rfl (pgs_cons (pg_name (i := 0) sc_wd64.nd rfl (Or.inl rfl)) (pgs_cons (pg_name (i := 1) sc_wd64.nd rfl (Or.inl rfl)) pgs_nil)))))) pss_nil)))))
      (pss_one (ps_ret (pe_tup (pa_cons (pv 3) (pa_cons (pv 0) (pa_cons (pv 1) pa_nil)))))))), ?_⟩
    have two : 2 ≤ sizeLine := by decide
    have three : 3 ≤ sizeLine := by decide
    have e0 : Str.ofString "" = txt [] := by decide +kernel
    refine ⟨_, rfl, l, rfl, ⟨_, hl⟩, ?_⟩
    refine for_list (K := K) (a := l) (xs := ns.map V.int) (fun i σ H2 => ∃ (p' q' : Int) (x : List Nat) (o4 o5 o6 : Option V), σ = [some (.int p'), some (.int q'), some (.ref l), some (.str (txt x)), o4, o5, o6] ∧ Same H H2 ∧ Sq.St x ∧ x.length ≤ i ∧ act (tb4 x) p q = (p', q') ∧ p'.natAbs ≤ 60 ∧ q'.natAbs ≤ 60) ?_ (fun i σ H2 _ ⟨_, _, _, _, _, _, _, s2, _⟩ => s2.seq hl) ?_ ?_
    · refine ⟨p, q, [], none, none, none, ?_, Same.refl _, fun _ h => (List.not_mem_nil h).elim, Nat.zero_le _, ?_, hp, hq⟩
      · rw [← e0]; rfl
      · show (1 * p + 0 * q, 0 * p + 1 * q) = _
        simp
    · rintro i x σ H2 hx ⟨p', q', w, o4, o5, o6, rfl, s2, hw, hwl, ha, hp', hq'⟩
      have hi : i < ns.length := by
        have := (List.getElem?_eq_some_iff.mp hx).1
        rwa [List.length_map] at this
      obtain ⟨c, rfl⟩ : ∃ c : Int, x = .int c := by
        rw [List.getElem?_map, List.getElem?_eq_getElem hi] at hx
        exact ⟨_, (Option.some.inj hx).symm⟩
      have b0 : 0 ≤ c / 5 % 2 := Int.emod_nonneg _ (by decide)
      have b1 : c / 5 % 2 < 2 := Int.emod_lt_of_pos _ (by decide)
      obtain ⟨e, he, hee⟩ : ∃ e : Nat, atI (Str.ofString "st").cps.toList (c / 5 % 2) = some e ∧ (e = 115 ∨ e = 116) := by
        rcases (by omega : c / 5 % 2 = 0 ∨ c / 5 % 2 = 1) with h | h
        · exact ⟨115, by rw [h]; decide +kernel, .inl rfl⟩
        · exact ⟨116, by rw [h]; decide +kernel, .inr rfl⟩
      refine ⟨_, rfl, _, _, rfl, rfl, ⟨by decide, by decide⟩, _, _, rfl, rfl, (by show (0 : Int) < 2; decide), _, _, _, rfl, rfl, (by decide +kernel), he, ?_⟩
      dsimp only [gName]
      have sw : Sq.St (w ++ [e]) := fun y hy => (List.mem_append.mp hy).elim (hw y) fun h => by rw [List.mem_singleton.mp h]; exact hee
      refine seq_by (fun σ H3 => ∃ (t : Addr) (p2 q2 : Int), σ = [some (.int p'), some (.int q'), some (.ref l), some (.str (txt w)), some (.int c), some (.str (txt [e])), some (.ref t)] ∧ Same H2 H3 ∧ H3 t = some (.tup [.int p2, .int q2]) ∧ act (tb4 (w ++ [e])) p q = (p2, q2)) (fun N hN => ?_) ?_
      · refine ⟨_, rfl, rfl, _, rfl, ?_⟩
        rcases hee with e1 | e1
        · subst e1
          rw [decide_eq_true (show V.str { cps := #[115] } = V.str (Str.ofString "s") by decide +kernel)]
          refine iteT ?_
          refine ⟨_, rfl, _, rfl, _, _, rfl, rfl, _, rfl, two, fun t ht => hN _ _ ⟨t, p' + q', q', rfl, same_upd (Same.refl _) ht, upd_same, act_s ha⟩⟩
        · subst e1
          rw [decide_eq_false (show ¬ V.str { cps := #[116] } = V.str (Str.ofString "s") by decide +kernel)]
          refine iteF ?_
          refine ⟨_, rfl, _, rfl, _, rfl, two, fun t ht => hN _ _ ⟨t, -q', p', rfl, same_upd (Same.refl _) ht, upd_same, act_t ha⟩⟩
      rintro σ H3 ⟨t, p2, q2, rfl, s3, ht, ha2⟩
      refine ⟨_, rfl, t, _, 0, _, rfl, rfl, SqT.of ht, atI_nat (j := 0) rfl, _, rfl, _, rfl, t, _, 1, _, rfl, rfl, SqT.of ht, atI_nat (j := 1) rfl, _, rfl, _, _, rfl, _, _, rfl, rfl, _, rfl, ?_⟩
      by_cases cm : (if (if q2 < 0 then -q2 else q2) > (if p2 < 0 then -p2 else p2) then (if q2 < 0 then -q2 else q2) else (if p2 < 0 then -p2 else p2)) ≤ 60
      · rw [decide_eq_true cm]
        refine iteT ?_
        refine ⟨_, rfl, _, rfl, _, _, rfl, rfl, ?_, ?_⟩
        · rw [txt_len]
          show w.length + (txt [e]).length ≤ sizeLine
          rw [txt_len]
          have : 100 ≤ sizeLine := by decide
          show w.length + 1 ≤ sizeLine
          omega
        refine ⟨_, rfl, t, _, rfl, SqT.of ht, rfl, _, _, rfl, _, _, rfl, rfl, ?_⟩
        refine ⟨p2, q2, w ++ [e], some (.int c), some (.str (txt [e])), some (.ref t), ?_, s2.trans s3, sw, by simp; omega, ha2, ?_, ?_⟩
        · rw [← txt_app]; rfl
        · revert cm; split <;> split <;> split <;> omega
        · revert cm; split <;> split <;> split <;> omega
      · rw [decide_eq_false cm]
        refine iteF ?_
        exact ⟨p', q', w, _, _, _, rfl, s2.trans s3, hw, by omega, ha, hp', hq'⟩
    · rintro σ H2 ⟨p', q', w, o4, o5, o6, rfl, s2, hw, hwl, ha, hp', hq'⟩
      rw [List.length_map] at hwl
      refine ⟨_, rfl, _, rfl, _, rfl, three, fun t ht => ?_⟩
      exact k _ t w p' q' (s2.trans (same_upd (Same.refl _) ht)) upd_same hw (by omega) ha hp' hq'
end
end K1
namespace K1
open PySem L2 Sq
def spCt64 : Sp := fun vs H Q _ => ∃ (a : Addr) (n : Nat) (r u : List Nat), vs = [.ref a] ∧ ShAt H a r u ∧ Row n r ∧ Row n u ∧ n ≤ 36 ∧ ∀ (H' : Hp) (b : Addr), Same H H' → ShAt H' b (con n r) (con n u) → Q (.ref b) H'
theorem upd_tup64 {H : Hp} {d a : Addr} {xs : List V} {ys : List V} {o : HO} (hd : H d = some (.lst xs)) (ha : H a = some (.tup ys)) : (upd H d o) a = some (.tup ys) := by
  rw [upd_ne (fun e : a = d => by rw [e, hd] at ha; cases ha)]; exact ha
section
variable {P : Program} {w : World} {K : PySem.W.Frag} {mg : Str → Option Value} {base : Heap}
abbrev n_ct64 : List Str := ["_law_sheet_here", "_law_many", "_law_told", "_law_row_here"]
theorem sc_ct64 : FnScope n_ct64 ["_law_sheet_here"] (defScope sLContrary) := ⟨rfl, rfl, rfl, by decide +kernel, rfl, by decide +kernel, by decide +kernel⟩
theorem nd_ct64 : (["_law_square", "_law_many", "_law_row_here"] : List Str).Nodup := by decide +kernel
set_option maxHeartbeats 600000 in
theorem ok_ct64 {f : Addr} {fd : FuncData} (T : Bi mg) (F : Fn K mg "_law_contrary" sLContrary ["_law_sheet_here"] f fd) : FnOk P w K mg base CX0 1 f fd ["_law_sheet_here"] spCt64 := by
  refine F.F.ok sc_ct64 (fun vs H Q E h => ?_) (fun cdv A outer s H vs Q E hr h => ?_)
  · obtain ⟨a, n, r, u, rfl, _⟩ := h; rfl
  · obtain ⟨a, n, r, u, rfl, ⟨p, q, h1, h2, h3⟩, rr, ru, hn, k⟩ := h
    refine ⟨_, (pss_cons (ps_set (i := 1) sc_ct64.nd rfl (Or.inr rfl) (pe_callB call_len_seq rfl T.len PySem.boot_len (pa_cons (pe_ix ix_tup (pv 0) pe_int (fun _ _ => rfl)) pa_nil)))
      (pss_cons (ps_set (i := 2) sc_ct64.nd rfl (Or.inl rfl) (pe_lst pa_nil))
      (pss_cons (ps_for PassesOwn.never rfl (pi_tup (pv 0)) (pg_name (i := 3) sc_ct64.nd rfl (Or.inr rfl)) (pss_one (ps_expr (pe_bm PySem.F.plainAttrs_list PySem.F.slot_list_append PySem.F.type_list_append mt_append (pv 2) (pa_cons (pe_callTy call_tuple_of rfl T.tuple boot_tuple (pa_cons (pe_comp (N := n_ct64) (names := (defScope sLContrary).names) (N' := ["_law_square", "_law_many", "_law_row_here"]) (k := 1) (pull := [1, 3]) (te := (tOp (rI0 fun i j => .int (i - j)) (tOp (rI0 fun i j => .int (i - j)) (tVar 1) (tC (.int 1))) (tOp (rIxT K) (tVar 2) (tOp (rI0 fun i j => .int (i - j)) (tOp (rI0 fun i j => .int (i - j)) (tVar 1) (tC (.int 1))) (tVar 0))))) rfl ⟨by rfl, by decide +kernel, by decide +kernel, by rfl, by decide +kernel, by decide +kernel⟩ rfl rfl (pi_range1 rfl T.range (pa_cons (pv 1) pa_nil)) (fun _ _ _ _ _ _ => pg_name (i := 0) nd_ct64 rfl (Or.inl rfl)) (fun _ _ _ _ _ _ => (pe_op op_sub (pe_op op_sub (pv 1) pe_int) (pe_ix ix_tup (pv 2) (pe_op op_sub (pe_op op_sub (pv 1) pe_int) (pv 0)) (fun _ _ => rfl))))) pa_nil)) pa_nil)))))
      (pss_one (ps_ret (pe_tup (pa_cons (pe_ix ix_list (pv 2) pe_int (fun _ _ => rfl)) (pa_cons (pe_ix ix_list (pv 2) pe_int (fun _ _ => rfl)) pa_nil)))))))), ?_⟩
    have two : 2 ≤ sizeLine := by decide
    refine ⟨_, rfl, a, _, 0, _, rfl, rfl, SqT.of h1, atI_nat (j := 0) rfl, p, _, rfl, .inr (SqT.of h2), ?_⟩
    rw [nv_len, rr.len]
    refine ⟨by decide, fun tl htl => ?_⟩
    dsimp only [gName]
    refine ⟨_, rfl, a, rfl, ⟨_, SqT.of ((same_upd (Same.refl _) htl) _ _ h1)⟩, ?_⟩
    refine for_tup (K := K) (a := a) (xs := [.ref p, .ref q]) (fun i σ H2 => ∃ (ts : List Addr) (o : Option V), σ = [some (.ref a), some (.int (n : Int)), some (.ref tl), o] ∧ Same H H2 ∧ H2 tl = some (.lst (ts.map V.ref)) ∧ ts.length = i ∧ ∀ j t, ts[j]? = some t → H2 t = some (.tup (nv (con n ([r, u].getD j []))))) ?_ (fun i σ H2 _ ⟨_, _, _, s2, _⟩ => SqT.of (s2 _ _ h1)) ?_ ?_
    · exact ⟨[], none, rfl, same_upd (Same.refl _) htl, upd_same, rfl, fun j t h => by simp at h⟩
    · rintro i x σ H2 hx ⟨ts, o, rfl, s2, h2l, hlen, hts⟩
      obtain ⟨w, rfl, hw, rw', hi2⟩ : ∃ w : Addr, x = .ref w ∧ H w = some (.tup (nv ([r, u].getD i []))) ∧ Row n ([r, u].getD i []) ∧ i < 2 := by
        match i, hx with
        | 0, hx => cases hx; exact ⟨p, rfl, h2, rr, by decide⟩
        | 1, hx => cases hx; exact ⟨q, rfl, h3, ru, by decide⟩
        | i + 2, hx => cases hx
      have hw2 := s2 _ _ hw
      generalize hf : [r, u].getD i [] = f at *
      refine ⟨_, rfl, .inl ⟨rfl, _, SqL.of h2l⟩, ?_⟩
      dsimp only [tCB, tCons, tNil]
      refine compRange (m := n) (rest := [some (.int (n : Int)), some (.ref w)]) (fun i => n - 1 - nx f (n - 1 - i)) (fun R hR => ⟨_, rfl, hR⟩) rfl (fun i H4 R hi s4 hR => ?_) (by omega) fun H4 d s4 hd0 hd => ?_
      · refine ⟨_, rfl, _, _, rfl, rfl, _, rfl, _, rfl, _, _, rfl, rfl, _, rfl, _, _, rfl, rfl, w, _, _, .int ((nx f (n - 1 - i) : Nat) : Int), rfl, rfl, SqT.of (s4 _ _ hw2), ?_, _, _, rfl, rfl, ?_⟩
        · show atI (nv f) ((n : Int) - 1 - (i : Int)) = some (.int ((nx f (n - 1 - i) : Nat) : Int))
          rw [show (n : Int) - 1 - (i : Int) = ((n - 1 - i : Nat) : Int) by omega]
          exact atI_nat (nv_get (rw'.get (by omega)))
        · have hlt := rw'.nlt (show n - 1 - i < n by omega)
          show R (.int ((n : Int) - 1 - ((nx f (n - 1 - i) : Nat) : Int))) H4
          rw [show (n : Int) - 1 - ((nx f (n - 1 - i) : Nat) : Int) = ((n - 1 - nx f (n - 1 - i) : Nat) : Int) by omega]
          exact hR
      · refine ⟨d, _, rfl, .inl ⟨SqL.of hd, fun t ht => ?_⟩⟩
        have u1 := same_upd (o := .tup (nv (con n f))) (Same.refl H4) ht
        have htt : (upd H4 t (.tup (nv (con n f)))) t = some (.tup (nv (con n f))) := upd_same
        have hl5 := u1 _ _ (s4 _ _ h2l)
        refine ⟨tl, _, _, rfl, rfl, hl5, by rw [List.length_map]; exact small1000 (by omega), ?_⟩
        refine ⟨ts ++ [t], _, rfl, same_upd (s2.trans (s4.trans u1)) htl, ?_, by simp [hlen], fun j t' hj => ?_⟩
        · rw [upd_same, List.map_append]; rfl
        · refine upd_tup64 hl5 ?_
          rcases Nat.lt_or_ge j ts.length with g | g
          · rw [List.getElem?_append_left g] at hj
            exact u1 _ _ (s4 _ _ (hts j t' hj))
          · rw [List.getElem?_append_right g] at hj
            have e0 : j - ts.length = 0 := by
              rcases Nat.eq_zero_or_pos (j - ts.length) with z | z
              · exact z
              · rw [List.getElem?_eq_none (by simp; omega)] at hj; cases hj
            rw [e0] at hj
            cases hj
            have ej : j = i := by omega
            rw [ej, hf]; exact htt
    · rintro σ H2 ⟨ts, o, rfl, s2, h2l, hlen, hts⟩
      obtain ⟨t0, t1, rfl⟩ : ∃ t0 t1, ts = [t0, t1] := by
        match ts, hlen with
        | [t0, t1], _ => exact ⟨t0, t1, rfl⟩
      refine ⟨_, rfl, tl, _, 0, _, rfl, rfl, SqL.of h2l, atI_nat (j := 0) rfl, _, rfl, tl, _, 1, _, rfl, rfl, SqL.of h2l, atI_nat (j := 1) rfl, two, fun b hb => ?_⟩
      have u2 := same_upd (o := .tup [.ref t0, .ref t1]) (Same.refl H2) hb
      exact k _ b (s2.trans u2) ⟨t0, t1, upd_same, u2 _ _ (hts 0 t0 rfl), u2 _ _ (hts 1 t1 rfl)⟩
end
end K1
namespace K1
open PySem L2 Sq
def spSpr (K : PySem.W.Frag) : Sp := fun vs H Q _ => ∃ (a : Addr) (ns : List Int) (j : Int), vs = [.ref a, .int j] ∧ SqL K H a (ns.map V.int) ∧ 0 ≤ j ∧ j < 1000000 ∧ ∀ v : Int, Q (.int v) H
section
variable {P : Program} {w : World} {K : PySem.W.Frag} {mg : Str → Option Value} {base : Heap}
abbrev n_ds : List Str := ["_law_script", "_law_k", "_law_cell"]
theorem sc_ds : FnScope n_ds ["_law_script", "_law_k"] (defScope sLSpread) := ⟨rfl, rfl, rfl, by decide +kernel, rfl, by decide +kernel, by decide +kernel⟩
theorem ok_ds {f : Addr} {fd : FuncData} (T : Bi mg) (F : Fn K mg "_law_spread" sLSpread ["_law_script", "_law_k"] f fd) : FnOk P w K mg base CX0 1 f fd ["_law_script", "_law_k"] (spSpr K) := by
  refine F.F.ok sc_ds (fun vs H Q E h => ?_) (fun cdv A outer s H vs Q E hr h => ?_)
  · obtain ⟨a, ns, j, rfl, _⟩ := h; rfl
  · obtain ⟨a, ns, j, rfl, hS, h0, h1, k⟩ := h
    refine ⟨_, (pss_cons (ps_if (pt_cmpR op_lt (pv 1) (pe_callB call_len_seq rfl T.len PySem.boot_len (pa_cons (pv 0) pa_nil)) (nomark _)) (pss_one (ps_ret (pe_ix ix_list (pv 0) (pv 1) (fun _ _ => rfl)))) pss_nil)
      (pss_cons (ps_set (i := 2) sc_ds.nd rfl (Or.inl rfl) (pe_op op_add (pe_op op_mul (pv 1) (pv 1)) pe_int))
      (pss_cons (ps_if (pt_cmpR op_gt (pe_callB call_len_seq rfl T.len PySem.boot_len (pa_cons (pv 0) pa_nil)) pe_int (nomark _)) (pss_one (ps_set (i := 2) sc_ds.nd rfl (Or.inl rfl) (pe_op op_add (pe_op op_add (pe_op op_mul (pe_ix ix_list (pv 0) (pe_op op_mod (pv 1) (pe_callB call_len_seq rfl T.len PySem.boot_len (pa_cons (pv 0) pa_nil))) (fun _ _ => rfl)) pe_int) (pe_op op_mul (pe_op op_mul (pv 1) (pv 1)) pe_int)) pe_int))) pss_nil)
      (pss_one (ps_ret (pe_op op_fdiv (pe_op op_mod (pv 2) pe_int) pe_int)))))), ?_⟩
    refine ⟨_, rfl, _, rfl, a, _, rfl, .inl hS, _, _, rfl, rfl, _, rfl, ?_⟩
    have ix : ∀ m : Nat, m < ns.length → atI (ns.map V.int) (m : Int) = some (.int (ns.getD m 0)) := fun m hm => atI_nat (by simp [List.getD_eq_getElem?_getD, hm])
    have c1 : CMul j j := .inl ⟨by omega, by omega⟩
    have c2 : ∀ i, CMul i 40503 := fun i => .inr ⟨by decide, by decide⟩
    have c3 : ∀ i, CMul i 48271 := fun i => .inr ⟨by decide, by decide⟩
    refine ite2 (fun hlt => ?_) (fun hge => ?_)
    · have hlt : j < ((ns.map V.int).length : Int) := of_decide_eq_true hlt
      rw [List.length_map] at hlt
      have e := ix j.toNat (by omega)
      rw [Int.toNat_of_nonneg h0] at e
      exact ⟨_, rfl, _, rfl, a, _, j, _, rfl, rfl, hS, e, k _⟩
    · refine ⟨_, rfl, _, rfl, _, _, rfl, rfl, c1, _, _, rfl, rfl, ?_⟩
      refine ⟨_, rfl, a, _, rfl, .inl hS, _, _, rfl, rfl, _, rfl, ?_⟩
      rw [List.length_map]
      refine ite_rest' (fun σ H5 => ∃ c : Int, σ = [some (.ref a), some (.int j), some (.int c)] ∧ H5 = H) (fun _ => ⟨_, rfl, rfl⟩) ?_ ?_
      · rintro σ H5 ⟨c, rfl, rfl⟩
        exact ⟨_, rfl, _, _, rfl, rfl, (by show (0 : Int) < 2147483647; decide), _, _, rfl, rfl, ⟨by decide, by decide⟩, k _⟩
      · intro rest hc
        have hpos : 0 < ns.length := by
          have := of_decide_eq_true hc
          omega
        have hp : (0 : Int) < ((ns.map V.int).length : Int) := by rw [List.length_map]; omega
        obtain ⟨m, hm⟩ := Int.eq_ofNat_of_zero_le (Int.emod_nonneg j (show ((ns.map V.int).length : Int) ≠ 0 by omega))
        have hml : m < ns.length := by
          have := Int.emod_lt_of_pos j hp
          rw [hm, List.length_map] at this
          omega
        have e := ix m hml
        rw [← hm] at e
        exact ⟨_, rfl, _, rfl, _, rfl, a, _, rfl, .inl hS, _, _, rfl, rfl, hp, a, _, _, _, rfl, rfl, hS, e, _, _, rfl, rfl, c3 _, _, rfl, _, rfl, _, _, rfl, rfl, c1, _, _, rfl, rfl, c2 _, _, _, rfl, rfl, _, _, rfl, rfl, rest _ _ ⟨_, rfl, rfl⟩⟩
end
end K1
namespace K1
open PySem L2 Sq
def spTg (K : PySem.W.Frag) : Sp := fun vs H Q _ => ∃ (pr pu : Addr) (n : Nat) (r u : List Nat), vs = [.ref pr, .ref pu] ∧ RowAt K H pr r ∧ RowAt K H pu u ∧ Row n r ∧ Row n u ∧ 1 ≤ n ∧ n ≤ 36 ∧
  ∀ (H' : Hp) (a : Addr) (m : Nat) (r' u' : List Nat), Same H H' → ShAt H' a r' u' → Sheet m r' u' → m ≤ n → Q (.ref a) H'
abbrev teIx4 (K : PySem.W.Frag) : TE := tBM K "list" rIndexL (tVar 2) (tCons (tOp (rIx K) (tVar 1) (tVar 0)) tNil)
theorem compIx4 {K : PySem.W.Frag} {Hc : Hp} {pm px : Addr} {x S : List Nat} {n : Nat} {Q : VK} {σ : St} {pull : List Nat} (h2 : σ[5]? = some (some (.ref pm))) (hb : bst 1 pull σ = [none, some (.ref px), some (.ref pm)])
    (hx : RowAt K Hc px x) (hS : Hc pm = some (.lst (nv S))) (rx : Row n x) (hn : S.length ≤ 36) (hc : ∀ y ∈ S, y < n ∧ nx x y ∈ S)
    (k : ∀ (H' : Hp) (d : Addr), Same Hc H' → H' d = some (.lst (nv (among x S))) → Q (.ref d) H') :
    tComp (iList K (tVar 5)) 1 pull (gName 0) (teIx4 K) σ Hc Q := by
  refine ⟨_, h2, pm, rfl, ⟨_, SqL.of hS⟩, fun d hd => ?_⟩
  rw [hb]
  refine comp_by (Q := fun d H' => Q (.ref d) H') S.length (nv (among x S)) (by rw [nv_len, among_len]) (fun i σ H3 => ∃ o, σ = [o, some (.ref px), some (.ref pm)] ∧ Same Hc H3) ⟨_, rfl, same_upd (Same.refl _) hd⟩ ?_ ?_
  · rintro i σ H3 hi ⟨o, rfl, s3⟩ hd3
    have hS3 := SqL.of (K := K) (s3 _ _ hS)
    refine ⟨⟨_, _, hS3, nv_get (List.getElem?_eq_getElem hi)⟩, fun y H4 ⟨e, hy⟩ => ?_⟩
    subst e
    have hy := hy _ hS3
    rw [nv_get (List.getElem?_eq_getElem hi)] at hy
    cases hy
    have hm : S[i] ∈ S := List.getElem_mem hi
    refine ⟨_, rfl, .inl ⟨rfl, _, hS3⟩, _, rfl, _, rfl, rowIx (hx.same s3) rx (hc _ hm).1 ?_⟩
    refine ⟨pm, S, _, rfl, rfl, s3 _ _ hS, (hc _ hm).2, ?_⟩
    refine cpost hi (by omega) hd3 (nv_get ?_) ⟨_, rfl, same_upd s3 hd⟩
    unfold among
    rw [List.getElem?_map, List.getElem?_eq_getElem hi]
    rfl
  · rintro σ H3 ⟨o, rfl, s3⟩ hd3
    exact ⟨⟨_, SqL.of (s3 _ _ hS), by rw [nv_len]; exact Nat.le_refl _⟩, k H3 d s3 hd3⟩
section
variable {P : Program} {w : World} {K : PySem.W.Frag} {mg : Str → Option Value} {base : Heap}
abbrev n_tg : List Str := ["_law_right", "_law_up", "_law_met", "_law_at", "_law_square", "_law_kept"]
theorem sc_tg : FnScope n_tg ["_law_right", "_law_up"] (defScope sLTogether) := ⟨rfl, rfl, rfl, by decide +kernel, rfl, by decide +kernel, by decide +kernel⟩
theorem nd_tg : (["_law_k", "_law_up", "_law_kept"] : List Str).Nodup := by decide +kernel
theorem nd_tg1 : (["_law_k", "_law_right", "_law_kept"] : List Str).Nodup := by decide +kernel
theorem ok_tg {f : Addr} {fd : FuncData} (T : Bi mg) (F : Fn K mg "_law_together" sLTogether ["_law_right", "_law_up"] f fd) : FnOk P w K mg base CX0 1 f fd ["_law_right", "_law_up"] (spTg K) := by
  refine F.F.ok sc_tg (fun vs H Q E h => ?_) (fun cdv A outer s H vs Q E hr h => ?_)
  · obtain ⟨pr, pu, n, r, u, rfl, _⟩ := h; rfl
  · obtain ⟨pr, pu, n, r, u, rfl, hR, hU, rr, ru, h1, hn, k⟩ := h
    refine ⟨_, (pss_cons (ps_set (i := 2) sc_tg.nd rfl (Or.inl rfl) (pe_lst (pa_cons pe_int pa_nil)))
      (pss_cons (ps_set (i := 3) sc_tg.nd rfl (Or.inl rfl) pe_int)
      (pss_cons (ps_while PassesOwn.never (pt_cmpR op_lt (pv 3) (pe_callB call_len_seq rfl T.len PySem.boot_len (pa_cons (pv 2) pa_nil)) (nomark _)) (pss_cons (ps_for PassesOwn.never rfl (pi_tup (pe_tup (pa_cons (pe_ix ix_seq (pv 0) (pe_ix ix_list (pv 2) (pv 3) (fun _ _ => rfl)) (fun _ _ => rfl)) (pa_cons (pe_ix ix_seq (pv 1) (pe_ix ix_list (pv 2) (pv 3) (fun _ _ => rfl)) (fun _ _ => rfl)) pa_nil)))) (pg_name (i := 4) sc_tg.nd rfl (Or.inl rfl)) (pss_one (ps_if (pt_cmpR op_notIn_seq (pv 4) (pv 2) rfl) (pss_one (ps_expr (pe_bm PySem.F.plainAttrs_list PySem.F.slot_list_append PySem.F.type_list_append mt_append (pv 2) (pa_cons (pv 4) pa_nil)))) pss_nil)))
      (pss_one (ps_set (i := 3) sc_tg.nd rfl (Or.inl rfl) (pe_op op_add (pv 3) pe_int)))))
      (pss_cons (ps_set (i := 5) sc_tg.nd rfl (Or.inr rfl) (pe_callB (call_sorted rfl) rfl T.sorted boot_sorted (pa_cons (pv 2) pa_nil)))
      (pss_one (ps_ret (pe_tup (pa_cons (pe_callTy call_tuple_of rfl T.tuple boot_tuple (pa_cons (pe_comp (N := n_tg) (names := (defScope sLTogether).names) (N' := ["_law_k", "_law_right", "_law_kept"]) (k := 1) (pull := [0, 5]) (te := (teIx4 K)) rfl ⟨by rfl, by decide +kernel, by decide +kernel, by rfl, by decide +kernel, by decide +kernel⟩ rfl rfl (pi_list (pv 5)) (fun _ _ _ _ _ _ => pg_name (i := 0) nd_tg1 rfl (Or.inl rfl)) (fun _ _ _ _ _ _ => (pe_bm PySem.F.plainAttrs_list PySem.F.slot_list_index PySem.F.type_list_index mt_indexL (pv 2) (pa_cons (pe_ix ix_seq (pv 1) (pv 0) (fun _ _ => rfl)) pa_nil)))) pa_nil)) (pa_cons (pe_callTy call_tuple_of rfl T.tuple boot_tuple (pa_cons (pe_comp (N := n_tg) (names := (defScope sLTogether).names) (N' := ["_law_k", "_law_up", "_law_kept"]) (k := 1) (pull := [1, 5]) (te := (teIx4 K)) rfl ⟨by rfl, by decide +kernel, by decide +kernel, by rfl, by decide +kernel, by decide +kernel⟩ rfl rfl (pi_list (pv 5)) (fun _ _ _ _ _ _ => pg_name (i := 0) nd_tg rfl (Or.inl rfl)) (fun _ _ _ _ _ _ => (pe_bm PySem.F.plainAttrs_list PySem.F.slot_list_index PySem.F.type_list_index mt_indexL (pv 2) (pa_cons (pe_ix ix_seq (pv 1) (pv 0) (fun _ _ => rfl)) pa_nil)))) pa_nil)) pa_nil))))))))), ?_⟩
    refine ⟨(by show 1 ≤ sizeLine; decide), fun l hl => ?_⟩
    refine while_by (fun σ H2 => ∃ (M : List Nat) (k : Nat) (o4 : Option V), σ = [some (.ref pr), some (.ref pu), some (.ref l), some (.int (k : Int)), o4, none] ∧ Same H H2 ∧ H2 l = some (.lst (nv M)) ∧ Met n r u 0 M k) (fun σ _ => mu 3 σ) ?_ ?_ ?_
    · exact ⟨[0], 0, _, rfl, same_upd (Same.refl H) hl, upd_same, Met.start h1⟩
    · rintro σ H2 ⟨M, kk, o4, rfl, s2, h2l, hM⟩
      refine ⟨_, rfl, _, rfl, l, _, rfl, .inl (SqL.of h2l), _, _, rfl, rfl, _, rfl, ?_⟩
      rw [nv_len]
      refine ite2 (fun hlt => ?_) (fun hge => ?_)
      · have hlt : (kk : Int) < (M.length : Int) := of_decide_eq_true hlt
        have hk : kk < M.length := by omega
        have hx : M[kk]? = some M[kk] := List.getElem?_eq_getElem hk
        have hxn : M[kk] < n := hM.lt _ (List.getElem_mem hk)
        have hMl := hM.len
        refine ⟨_, rfl, _, rfl, _, rfl, l, _, _, _, rfl, rfl, SqL.of h2l, atI_nat (nv_get hx), rowIx (hR.same s2) rr hxn ?_⟩
        refine ⟨_, rfl, _, rfl, _, rfl, l, _, _, _, rfl, rfl, SqL.of h2l, atI_nat (nv_get hx), rowIx (hU.same s2) ru hxn ?_⟩
        refine ⟨(by show 2 ≤ sizeLine; decide), fun tp htp => ⟨tp, rfl, ⟨_, SqT.of upd_same⟩, ?_⟩⟩
        have nlt : l ≠ tp := ne_of_none h2l htp
        refine for_tup (K := K) (a := tp) (xs := [.int (nx r M[kk] : Int), .int (nx u M[kk] : Int)]) (fun i σ H3 => ∃ (o4 : Option V), σ = [some (.ref pr), some (.ref pu), some (.ref l), some (.int (kk : Int)), o4, none] ∧ Same H H3 ∧ H3 tp = some (.tup [.int (nx r M[kk] : Int), .int (nx u M[kk] : Int)]) ∧
          H3 l = some (.lst (nv (([nx r M[kk], nx u M[kk]].take i).foldl put M)))) ?_ ?_ ?_ ?_
        · refine ⟨_, rfl, same_upd s2 (s2.free htp), upd_same, by rw [upd_ne nlt]; exact h2l⟩
        · rintro i σ H3 hi ⟨_, _, _, h3, _⟩
          exact SqT.of h3
        · rintro i x σ H3 hi ⟨o4, rfl, s3, h3, h3l⟩
          obtain ⟨y, ey, rfl⟩ := nv_get' (xs := [nx r M[kk], nx u M[kk]]) hi
          have hi2 : i < 2 := (List.getElem?_eq_some_iff.mp ey).1
          have hlen := foldl_put_len ([nx r M[kk], nx u M[kk]].take i) M
          have htk : ([nx r M[kk], nx u M[kk]].take i).length ≤ 2 := by rw [List.length_take]; exact Nat.min_le_right _ _
          have hfold : ([nx r M[kk], nx u M[kk]].take (i + 1)).foldl put M = put (([nx r M[kk], nx u M[kk]].take i).foldl put M) y := by
            rw [List.take_add_one, ey, List.foldl_append]; rfl
          rw [hfold]
          generalize hM' : ([nx r M[kk], nx u M[kk]].take i).foldl put M = M' at h3l hlen
          refine ⟨_, rfl, _, rfl, l, _, rfl, .inl (SqL.of h3l), rfl, nv_flat _, _, rfl, ?_⟩
          show (if (!inV (.int (y : Int)) (nv M')) = true then _ else _)
          rw [inV_nv]
          by_cases hy : y ∈ M'
          · rw [decide_eq_true hy]
            refine iteF ?_
            refine ⟨_, rfl, s3, h3, ?_⟩
            unfold put; rw [if_pos hy]; exact h3l
          · rw [decide_eq_false hy]
            refine iteT ?_
            refine ⟨_, rfl, .inl ⟨rfl, _, SqL.of h3l⟩, _, rfl, l, _, _, rfl, rfl, h3l, ?_, ?_⟩
            · rw [nv_len]; exact small1000 (by omega)
            refine ⟨_, rfl, same_upd s3 hl, by rw [upd_ne nlt.symm]; exact h3, ?_⟩
            unfold put; rw [if_neg hy, upd_same, nv_snoc]
        · rintro σ H3 ⟨o4, rfl, s3, h3, h3l⟩
          refine ⟨_, rfl, _, _, rfl, rfl, ⟨_, kk + 1, _, rfl, s3, h3l, hM.step rr ru hx⟩, ?_⟩
          show (100 - ((kk : Int) + 1)).toNat < (100 - (kk : Int)).toNat
          omega
      · have hge : ¬ (kk : Int) < (M.length : Int) := fun z => hge (decide_eq_true z)
        have hA := hM.all (by omega)
        have hMl : M.length ≤ n := by
          have := sub_len M (List.range n) hA.nd fun x hx => List.mem_range.mpr (hA.lt x hx)
          simpa using this
        refine ⟨_, rfl, l, M, rfl, .inl (SqL.of h2l), by omega, fun l2 S hl2 pS sS => ?_⟩
        have hS' := hA.perm pS
        have hSl : S.length ≤ n := by rw [pS.length_eq]; exact hMl
        have s3 : Same H (upd H2 l2 (.lst (nv S))) := same_upd s2 (s2.free hl2)
        have h3S : (upd H2 l2 (.lst (nv S))) l2 = some (.lst (nv S)) := upd_same
        revert s3 h3S
        generalize (upd H2 l2 (.lst (nv S))) = H3
        intro s3 h3S
        dsimp only [tSeq, tAsg, tCB, tCons, gName, tRet, tTup]
        refine compIx4 rfl rfl (hR.same s3) h3S rr (by omega) (fun y hy => ⟨hS'.lt y hy, (hS'.shut y hy).1⟩) ?_
        intro H4 d4 s4 h4
        refine ⟨d4, _, rfl, .inl ⟨SqL.of h4, fun t1 ht1 => ?_⟩⟩
        have s4' : Same H3 (upd H4 t1 (.tup (nv (among r S)))) := same_upd s4 (s4.free ht1)
        have s5 : Same H (upd H4 t1 (.tup (nv (among r S)))) := s3.trans s4'
        refine compIx4 rfl rfl (hU.same s5) (s4' _ _ h3S) ru (by omega) (fun y hy => ⟨hS'.lt y hy, (hS'.shut y hy).2⟩) ?_
        intro H5 d5 s6 h5
        refine ⟨d5, _, rfl, .inl ⟨SqL.of h5, fun t2 ht2 => ?_⟩⟩
        have s7 : Same (upd H4 t1 (.tup (nv (among r S)))) (upd H5 t2 (.tup (nv (among u S)))) := same_upd s6 (s6.free ht2)
        refine ⟨by show 2 ≤ sizeLine; decide, fun a ha => k _ a S.length _ _ ?_ ⟨t1, t2, upd_same, ?_, ?_⟩ (among_sheet hn rr ru hS' sS) hSl⟩
        · exact same_upd (s5.trans s7) ((s5.trans s7).free ha)
        · have e1 := s7 t1 _ upd_same
          rw [upd_ne (ne_of_none e1 ha)]; exact e1
        · have e2 : (upd H5 t2 (.tup (nv (among u S)))) t2 = some (.tup (nv (among u S))) := upd_same
          rw [upd_ne (ne_of_none e2 ha)]; exact e2
    · rintro σ H Q Q' h ⟨v, e1, v', e2, p, ys, e3, sq, i, j, e4, e5, k, e6, q⟩
      exact ⟨v, e1, v', e2, p, ys, e3, sq, i, j, e4, e5, k, e6, h _ _ q⟩
end
end K1
namespace K1
open PySem L2 Sq
def spSe (K : PySem.W.Frag) : Sp := fun vs H Q _ => ∃ (a : Addr) (ns : List Int) (j : Int) (n : Nat), vs = [.ref a, .int j, .int (n : Int)] ∧ SqL K H a (ns.map V.int) ∧ 0 ≤ j ∧ j < 900000 ∧ 1 ≤ n ∧ n ≤ 36 ∧
  ∀ (H' : Hp) (b : Addr) (m : Nat) (r u : List Nat), Same H H' → ShAt H' b r u → Sheet m r u → m ≤ n → Q (.ref b) H'
/-- [g(k) for k in range(m)], whole numbers unknown ahead -/
theorem compInt {Hc : Hp} {m : Nat} {ta : TA} {te : TE} {pull : List Nat} {Q : VK} {σ : St} {rest : St} (hj : ∀ R : List V → Hp → Prop, R [.int (m : Int)] Hc → ta σ Hc R) (hb : bst 1 pull σ = none :: rest)
    (hte : ∀ (i : Nat) (H : Hp) (R : VK), i < m → Same Hc H → (∀ v : Int, R (.int v) H) → te (some (.int (i : Int)) :: rest) H R) (hm : m ≤ 1000)
    (k : ∀ (H' : Hp) (d : Addr) (ns : List Int), ns.length = m → Same Hc H' → Hc d = none → H' d = some (.lst (ns.map V.int)) → Q (.ref d) H') :
    tComp (iRng1 ta) 1 pull (gName 0) te σ Hc Q := by
  refine hj _ ⟨(m : Int), rfl, by omega, by omega, fun d hd => ?_⟩
  rw [Int.toNat_natCast, hb]
  refine comp_ex (J := Itr 0 m) (Q := fun d H' => Q (.ref d) H') m (fun i xs σ H9 => (∃ o, σ = o :: rest) ∧ Same Hc H9 ∧ ∃ ns : List Int, xs = ns.map V.int ∧ ns.length = i) ⟨⟨_, rfl⟩, same_upd (Same.refl _) hd, [], rfl, rfl⟩ ?_ ?_
  · rintro i xs σ H9 hi ⟨⟨o, rfl⟩, s9, ns, rfl, hl⟩ hd9
    refine ⟨hi, fun x H4 ⟨e1, e2⟩ => ?_⟩
    subst e1 e2
    rw [show (0 : Int) + (i : Int) = (i : Int) from by omega]
    refine hte i _ _ hi s9 fun v => ?_
    refine xpost hi hd9 (by rw [List.length_map]; omega) ⟨⟨_, rfl⟩, same_upd s9 hd, ns ++ [v], by simp, by simp [hl]⟩
  · rintro xs σ H9 ⟨⟨o, rfl⟩, s9, ns, rfl, hl⟩ hd9
    exact ⟨Nat.le_refl _, k H9 d ns hl s9 hd hd9⟩
section
variable {P : Program} {w : World} {K : PySem.W.Frag} {mg : Str → Option Value} {base : Heap}
abbrev n_se : List Str := ["_law_script", "_law_at", "_law_many", "_law_right", "_law_up"]
theorem sc_se : FnScope n_se ["_law_script", "_law_at", "_law_many"] (defScope sSheet) := ⟨rfl, rfl, rfl, by decide +kernel, rfl, by decide +kernel, by decide +kernel⟩
theorem nd_se : (["_law_k", "_law_script", "_law_at", "_law_many"] : List Str).Nodup := by decide +kernel
theorem nd_se1 : (["_law_k", "_law_script", "_law_at"] : List Str).Nodup := by decide +kernel
theorem ok_se {f fp fr ft : Addr} {fd dp dr dt : FuncData} (T : Bi mg) (F : Fn K mg "_law_sheet" sSheet ["_law_script", "_law_at", "_law_many"] f fd) (FP : Fn K mg "_law_spread" sLSpread ["_law_script", "_law_k"] fp dp) (GP : FnOk P w K mg base CX0 1 fp dp ["_law_script", "_law_k"] (spSpr K))
    (FR : Fn K mg "_law_row" sLRow ["_law_cells"] fr dr) (GR : FnOk P w K mg base CX0 1 fr dr ["_law_cells"] spRw)
    (FT : Fn K mg "_law_together" sLTogether ["_law_right", "_law_up"] ft dt) (GT : FnOk P w K mg base CX0 1 ft dt ["_law_right", "_law_up"] (spTg K)) : FnOk P w K mg base CX0 3 f fd ["_law_script", "_law_at", "_law_many"] (spSe K) := by
  refine F.F.ok sc_se (fun vs H Q E h => ?_) (fun cdv A outer s H vs Q E hr h => ?_)
  · obtain ⟨a, ns, j, n, rfl, _⟩ := h; rfl
  · obtain ⟨a, ns, j, n, rfl, hS, h0, hj, h1, hn, k⟩ := h
    have hr1 : Room 1 _ := hr.mono (by decide)
    refine ⟨_, (pss_cons (ps_set (i := 3) sc_se.nd rfl (Or.inl rfl) (pe_call GR hr1 rfl FR.m FR.F.kp FR.b .nil pass0 (pa_cons (pe_comp (N := n_se) (names := (defScope sSheet).names) (N' := ["_law_k", "_law_script", "_law_at"]) (k := 1) (pull := [0, 1]) (te := (tCall (spSpr K) [] E0 (tCons (tVar 1) (tCons (tOp (rI0 fun i j => .int (i + j)) (tVar 2) (tVar 0)) tNil)))) rfl ⟨by rfl, by decide +kernel, by decide +kernel, by rfl, by decide +kernel, by decide +kernel⟩ rfl rfl (pi_range1 rfl T.range (pa_cons (pv 2) pa_nil)) (fun _ _ _ _ _ _ => pg_name (i := 0) nd_se1 rfl (Or.inl rfl)) (fun _ _ _ _ _ _ => (pe_call GP hr1 rfl FP.m FP.F.kp FP.b .nil pass0 (pa_cons (pv 1) (pa_cons (pe_op op_add (pv 2) (pv 0)) pa_nil))))) pa_nil)))
      (pss_cons (ps_set (i := 4) sc_se.nd rfl (Or.inl rfl) (pe_call GR hr1 rfl FR.m FR.F.kp FR.b .nil pass0 (pa_cons (pe_comp (N := n_se) (names := (defScope sSheet).names) (N' := ["_law_k", "_law_script", "_law_at", "_law_many"]) (k := 1) (pull := [0, 1, 2]) (te := (tCall (spSpr K) [] E0 (tCons (tVar 1) (tCons (tOp (rI0 fun i j => .int (i + j)) (tOp (rI0 fun i j => .int (i + j)) (tVar 2) (tVar 3)) (tVar 0)) tNil)))) rfl ⟨by rfl, by decide +kernel, by decide +kernel, by rfl, by decide +kernel, by decide +kernel⟩ rfl rfl (pi_range1 rfl T.range (pa_cons (pv 2) pa_nil)) (fun _ _ _ _ _ _ => pg_name (i := 0) nd_se rfl (Or.inl rfl)) (fun _ _ _ _ _ _ => (pe_call GP hr1 rfl FP.m FP.F.kp FP.b .nil pass0 (pa_cons (pv 1) (pa_cons (pe_op op_add (pe_op op_add (pv 2) (pv 3)) (pv 0)) pa_nil))))) pa_nil)))
      (pss_one (ps_ret (pe_call GT hr1 rfl FT.m FT.F.kp FT.b .nil pass0 (pa_cons (pv 3) (pa_cons (pv 4) pa_nil))))))), ?_⟩
    dsimp only [tNext, tSeq, tAsg, tCons, tCB, tCall, gName]
    refine compInt (m := n) (rest := [some (.ref a), some (.int j)]) (fun R hR => ⟨_, rfl, hR⟩) rfl (fun i H' R hi s' hR => ?_) (by omega) fun H1 d1 ms1 e1 s1 _ hd1 => ?_
    · exact ⟨_, rfl, _, rfl, _, rfl, _, _, rfl, rfl, a, ns, _, rfl, s'.seq hS, by omega, by omega, fun v => hR v⟩
    refine ⟨d1, ms1, rfl, hd1, by omega, fun H2 p r s2 _ hp rr => ?_⟩
    rw [e1] at rr
    have s12 := s1.trans s2
    refine compInt (m := n) (rest := [some (.ref a), some (.int j), some (.int (n : Int))]) (fun R hR => ⟨_, rfl, hR⟩) rfl (fun i H' R hi s' hR => ?_) (by omega) fun H3 d3 ms3 e3 s3 _ hd3 => ?_
    · exact ⟨_, rfl, _, rfl, _, rfl, _, _, rfl, rfl, _, rfl, _, _, rfl, rfl, a, ns, _, rfl, (s12.trans s').seq hS, by omega, by omega, fun v => hR v⟩
    refine ⟨d3, ms3, rfl, hd3, by omega, fun H4 q u s4 _ hq ru => ?_⟩
    rw [e3] at ru
    have s34 := s3.trans s4
    refine ⟨_, rfl, _, rfl, p, q, n, r, u, rfl, .inl (SqL.of (s34 _ _ hp)), .inl (SqL.of hq), rr, ru, h1, hn, fun H5 b m r' u' s5 hb hSh hm => ?_⟩
    exact k H5 b m r' u' (s12.trans (s34.trans s5)) hb hSh hm
end
end K1
namespace K1
open PySem L2 Sq
def spRb5 : Sp := fun vs H Q _ => ∃ (z : Int) (n : Nat), vs = [.int z, .int (n : Int)] ∧ n ≤ 36 ∧
  ∀ (H' : Hp) (p : Addr) (r : List Nat), Same H H' → H p = none → H' p = some (.lst (nv r)) → Row n r → Q (.ref p) H'
section
variable {P : Program} {w : World} {K : PySem.W.Frag} {mg : Str → Option Value} {base : Heap}
abbrev n_rb5 : List Str := ["_law_cell", "_law_many", "_law_left", "_law_row_here"]
theorem sc_rb5 : FnScope n_rb5 ["_law_cell", "_law_many"] (defScope sLRowBy) := ⟨rfl, rfl, rfl, by decide +kernel, rfl, by decide +kernel, by decide +kernel⟩
theorem ok_rb5 {f : Addr} {fd : FuncData} (T : Bi mg) (F : Fn K mg "_law_row_by" sLRowBy ["_law_cell", "_law_many"] f fd) : FnOk P w K mg base CX0 1 f fd ["_law_cell", "_law_many"] spRb5 := by
  refine F.F.ok sc_rb5 (fun vs H Q E h => ?_) (fun cdv A outer s H vs Q E hr h => ?_)
  · obtain ⟨z, n, rfl, _⟩ := h; rfl
  · obtain ⟨z, n, rfl, hn, k⟩ := h
    refine ⟨_, (pss_cons (ps_set (i := 2) sc_rb5.nd rfl (Or.inl rfl) (pe_callTy (call_list_rng rfl) rfl T.list boot_list (pa_cons (pe_callTy call_range1 rfl T.range PyProof.Rows.boot_range (pa_cons (pv 1) pa_nil)) pa_nil)))
      (pss_cons (ps_set (i := 0) sc_rb5.nd rfl (Or.inl rfl) (pe_op op_mod (pv 0) (pe_op op_pow pe_int pe_int)))
      (pss_cons (ps_set (i := 3) sc_rb5.nd rfl (Or.inl rfl) (pe_lst pa_nil))
      (pss_cons (ps_while PassesOwn.never (pt_cmpR op_gt (pe_callB call_len_seq rfl T.len PySem.boot_len (pa_cons (pv 2) pa_nil)) pe_int (nomark _)) (pss_cons (ps_expr (pe_bm PySem.F.plainAttrs_list PySem.F.slot_list_append PySem.F.type_list_append mt_append (pv 3) (pa_cons (pe_bm PySem.F.plainAttrs_list PySem.F.slot_list_pop PySem.F.type_list_pop mt_popAt (pv 2) (pa_cons (pe_op op_mod (pv 0) (pe_callB call_len_seq rfl T.len PySem.boot_len (pa_cons (pv 2) pa_nil))) pa_nil)) pa_nil)))
      (pss_one (ps_set (i := 0) sc_rb5.nd rfl (Or.inl rfl) (pe_op op_fdiv (pv 0) (pe_op op_add (pe_callB call_len_seq rfl T.len PySem.boot_len (pa_cons (pv 2) pa_nil)) pe_int))))))
      (pss_one (ps_ret (pv 3))))))), ?_⟩
    refine ⟨_, rfl, (n : Int), rfl, fun r0 hr0 => ⟨r0, n, rfl, upd_same, by omega, fun lf hlf => ?_⟩⟩
    refine ⟨_, rfl, 10, 60, rfl, rfl, ⟨by decide, by decide, by decide⟩, _, _, rfl, rfl, (by show (0 : Int) < 10 ^ Int.toNat 60; decide), ?_⟩
    refine ⟨Nat.zero_le _, fun ln hln => ?_⟩
    have nlfr : lf ≠ r0 := fun e => by rw [e, upd_same] at hlf; cases hlf
    have f0 : H lf = none := by rwa [upd_ne nlfr] at hlf
    have nlnl : ln ≠ lf := fun e => by rw [e, upd_same] at hln; cases hln
    have g0 : (upd H r0 (.rng 0 (n : Int))) ln = none := by rwa [upd_ne nlnl] at hln
    have nlnr : ln ≠ r0 := fun e => by rw [e, upd_same] at g0; cases g0
    have g1 : H ln = none := by rwa [upd_ne nlnr] at g0
    refine while_nat (fun m σ H3 => ∃ (z : Int) (line left : List Nat), m = left.length ∧ σ = [some (.int z), some (.int (n : Int)), some (.ref lf), some (.ref ln)] ∧
      Same H H3 ∧ H3 lf = some (.lst (nv left)) ∧ H3 ln = some (.lst (nv line)) ∧ (line ++ left).Perm (List.range n)) ⟨_, _, [], List.range n, rfl, rfl, same_upd (same_upd (same_upd (Same.refl H) hr0) f0) g1, by rw [upd_ne nlnl.symm, upd_same], upd_same, List.Perm.refl _⟩ ?_ ?_
    · rintro m σ H3 ⟨z, line, left, rfl, rfl, s3, hlf3, hln3, hp⟩
      have hll : line.length + left.length = n := by
        have := hp.length_eq
        simp only [List.length_append, List.length_range] at this
        omega
      refine ⟨_, rfl, lf, _, rfl, .inl (SqL.of hlf3), _, _, rfl, rfl, _, rfl, ?_⟩
      rw [nv_len]
      by_cases hpos : 0 < left.length
      · rw [decide_eq_true (show (0 : Int) < (left.length : Int) by omega)]
        refine iteT ?_
        refine ⟨_, rfl, .inl ⟨rfl, _, SqL.of hln3⟩, _, rfl, .inl ⟨rfl, _, SqL.of hlf3⟩, _, rfl, _, rfl, lf, _, rfl, .inl (SqL.of hlf3), _, _, rfl, rfl, ?_, ?_⟩
        · rw [nv_len]; omega
        refine popDraw hlf3 hpos (by omega) fun kx y hy => ?_
        have hkx : kx < left.length := (List.getElem?_eq_some_iff.mp hy).1
        have e3 : (upd H3 lf (.lst (nv (left.eraseIdx kx)))) ln = some (.lst (nv line)) := by rw [upd_ne nlnl]; exact hln3
        refine ⟨ln, _, _, rfl, rfl, e3, ?_, ?_⟩
        · rw [nv_len]; exact small1000 (by omega)
        have hel : (left.eraseIdx kx).length = left.length - 1 := by rw [List.length_eraseIdx, if_pos hkx]
        have e4 : (upd (upd H3 lf (.lst (nv (left.eraseIdx kx)))) ln (.lst (nv line ++ [.int (y : Int)]))) lf = some (.lst (nv (left.eraseIdx kx))) := by rw [upd_ne nlnl.symm, upd_same]
        refine ⟨_, rfl, _, rfl, lf, _, rfl, .inl (SqL.of e4), _, _, rfl, rfl, _, _, rfl, rfl, ⟨?_, ?_⟩, ?_⟩
        · rw [nv_len]; omega
        · rw [nv_len]; omega
        exact ⟨(left.eraseIdx kx).length, by omega, _, line ++ [y], left.eraseIdx kx, rfl, rfl, same_upd (same_upd s3 f0) g1, e4, by rw [upd_same, nv_snoc], pop_perm hp hy⟩
      · rw [decide_eq_false (show ¬ (0 : Int) < (left.length : Int) by omega)]
        refine iteF ?_
        have hl0 : left = [] := List.length_eq_zero_iff.mp (by omega)
        have hrow : Row n line := Row.of_perm (by rw [hl0, List.append_nil] at hp; exact hp)
        exact ⟨_, rfl, k H3 ln line s3 g1 hln3 hrow⟩
    · rintro σ H' Q1 Q2 hq ⟨y, e1, a1, a2, a3, a4, a5, a6, a7, a8, a9, b1, b2⟩
      exact ⟨y, e1, a1, a2, a3, a4, a5, a6, a7, a8, a9, b1, hq _ _ b2⟩
end
end K1
namespace K1
open PySem L2 Sq
def spCellT (K : PySem.W.Frag) : Sp := fun vs H Q _ => ∃ (a : Addr) (ns : List Int) (j : Int), vs = [.ref a, .int j] ∧ SqL K H a (ns.map V.int) ∧ 0 ≤ j ∧ ∀ v : Int, Q (.int v) H
section
variable {P : Program} {w : World} {K : PySem.W.Frag} {mg : Str → Option Value} {base : Heap}
theorem scVc : FnScope ["_law_script", "_law_k"] ["_law_script", "_law_k"] (defScope sLCellAt) := ⟨rfl, rfl, rfl, by decide +kernel, rfl, by decide +kernel, by decide +kernel⟩
theorem ok_cellT {f : Addr} {fd : FuncData} (T : Bi mg) (F : Fn K mg "_law_cell_at" sLCellAt ["_law_script", "_law_k"] f fd) : FnOk P w K mg base CX0 1 f fd ["_law_script", "_law_k"] (spCellT K) := by
  refine F.F.ok scVc (fun vs H Q E h => ?_) (fun cdv A outer s H vs Q E hr h => ?_)
  · obtain ⟨a, ns, j, rfl, _⟩ := h; rfl
  · obtain ⟨a, ns, j, rfl, hS, h0, k⟩ := h
    refine ⟨_, pss_cons (ps_if (pt_cmpR op_lt (pv 1) (pe_callB call_len_seq (by rfl) T.len PySem.boot_len (pa_cons (pv 0) pa_nil)) (nomark _)) (pss_one (ps_ret (pe_ix ix_list (pv 0) (pv 1) (fun _ _ => rfl)))) pss_nil)
      (pss_one (ps_ret pe_int)), ?_⟩
    refine ⟨_, rfl, _, rfl, a, _, rfl, .inl hS, _, _, rfl, rfl, _, rfl, ?_⟩
    refine ite2 (fun hlt => ?_) (fun _ => k 0)
    have hlt : j < ((ns.map V.int).length : Int) := of_decide_eq_true hlt
    rw [List.length_map] at hlt
    have e : atI (ns.map V.int) ((j.toNat : Nat) : Int) = some (.int (ns.getD j.toNat 0)) := atI_nat (by
      have : j.toNat < ns.length := by omega
      simp [List.getD_eq_getElem?_getD, this])
    rw [Int.toNat_of_nonneg h0] at e
    exact ⟨_, rfl, _, rfl, a, _, j, _, rfl, rfl, hS, e, k _⟩
end
end K1
namespace K1
open PySem L2 Sq
def spSb5 (K : PySem.W.Frag) : Sp := fun vs H Q _ => ∃ (a : Addr) (ns : List Int) (n : Nat), vs = [.ref a, .int (n : Int)] ∧ SqL K H a (ns.map V.int) ∧ 1 ≤ n ∧ n ≤ 36 ∧
  ∀ (H' : Hp) (b : Addr) (m : Nat) (r u : List Nat), Same H H' → ShAt H' b r u → Sheet m r u → m ≤ n → Q (.ref b) H'
section
variable {P : Program} {w : World} {K : PySem.W.Frag} {mg : Str → Option Value} {base : Heap}
abbrev n_sb5 : List Str := ["_law_script", "_law_many"]
theorem sc_sb5 : FnScope n_sb5 ["_law_script", "_law_many"] (defScope sLSheetBy) := ⟨rfl, rfl, rfl, by decide +kernel, rfl, by decide +kernel, by decide +kernel⟩
theorem ok_sb5 {f ft fr fc : Addr} {fd dt dr dc : FuncData} (F : Fn K mg "_law_sheet_by" sLSheetBy ["_law_script", "_law_many"] f fd) (FT : Fn K mg "_law_together" sLTogether ["_law_right", "_law_up"] ft dt) (GT : FnOk P w K mg base CX0 1 ft dt ["_law_right", "_law_up"] (spTg K))
    (FR : Fn K mg "_law_row_by" sLRowBy ["_law_cell", "_law_many"] fr dr) (GR : FnOk P w K mg base CX0 1 fr dr ["_law_cell", "_law_many"] spRb5)
    (FC : Fn K mg "_law_cell_at" sLCellAt ["_law_script", "_law_k"] fc dc) (GC : FnOk P w K mg base CX0 1 fc dc ["_law_script", "_law_k"] (spCellT K)) : FnOk P w K mg base CX0 2 f fd ["_law_script", "_law_many"] (spSb5 K) := by
  refine F.F.ok sc_sb5 (fun vs H Q E h => ?_) (fun cdv A outer s H vs Q E hr h => ?_)
  · obtain ⟨a, ns, n, rfl, _⟩ := h; rfl
  · obtain ⟨a, ns, n, rfl, hS, h1, h36, k⟩ := h
    have hr1 : Room 1 _ := hr.mono (by decide)
    refine ⟨_, (pss_one (ps_ret (pe_call GT hr1 rfl FT.m FT.F.kp FT.b .nil pass0 (pa_cons (pe_call GR hr1 rfl FR.m FR.F.kp FR.b .nil pass0 (pa_cons (pe_call GC hr1 rfl FC.m FC.F.kp FC.b .nil pass0 (pa_cons (pv 0) (pa_cons pe_int pa_nil))) (pa_cons (pv 1) pa_nil))) (pa_cons (pe_call GR hr1 rfl FR.m FR.F.kp FR.b .nil pass0 (pa_cons (pe_call GC hr1 rfl FC.m FC.F.kp FC.b .nil pass0 (pa_cons (pv 0) (pa_cons pe_int pa_nil))) (pa_cons (pv 1) pa_nil))) pa_nil))))), ?_⟩
    refine ⟨_, rfl, a, ns, 1, rfl, hS, by decide, fun z1 => ⟨_, rfl, z1, n, rfl, h36, fun H1 p r s1 _ hp rr => ?_⟩⟩
    refine ⟨_, rfl, a, ns, 2, rfl, s1.seq hS, by decide, fun z2 => ⟨_, rfl, z2, n, rfl, h36, fun H2 q u s2 _ hq ru => ?_⟩⟩
    exact ⟨p, q, n, r, u, rfl, .inl (SqL.of (s2 _ _ hp)), .inl (SqL.of hq), rr, ru, h1, h36, fun H3 b m r' u' s3 hb hSh hm => k H3 b m r' u' (s1.trans (s2.trans s3)) hb hSh hm⟩
end
end K1
namespace K1
open PySem L2 Sq
def spGc : Sp := fun vs H Q _ => ∃ a b : Int, vs = [.int a, .int b] ∧ ∀ H' : Hp, Same H H' → Q (.int ((Int.gcd a b : Nat) : Int)) H'
section
variable {P : Program} {w : World} {K : PySem.W.Frag} {mg : Str → Option Value} {base : Heap}
abbrev n_gc : List Str := ["_law_one", "_law_other"]
theorem sc_gc : FnScope n_gc ["_law_one", "_law_other"] (defScope sLGcd) := ⟨rfl, rfl, rfl, by decide +kernel, rfl, by decide +kernel, by decide +kernel⟩
theorem ok_gc {f : Addr} {fd : FuncData} (T_abs : mg "abs" = none) (F : Fn K mg "_law_gcd" sLGcd ["_law_one", "_law_other"] f fd) : FnOk P w K mg base CX0 1 f fd ["_law_one", "_law_other"] spGc := by
  refine F.F.ok sc_gc (fun vs H Q E h => ?_) (fun cdv A outer s H vs Q E hr h => ?_)
  · obtain ⟨a, b, rfl, _⟩ := h; rfl
  · obtain ⟨a, b, rfl, k⟩ := h
    refine ⟨_, (pss_cons (ps_par (i := 0) (j := 1) rfl sc_gc.nd rfl rfl (by decide) rfl rfl (pa_cons (pe_callB call_abs rfl T_abs boot_abs (pa_cons (pv 0) pa_nil)) (pa_cons (pe_callB call_abs rfl T_abs boot_abs (pa_cons (pv 1) pa_nil)) pa_nil)) rfl)
      (pss_cons (ps_while PassesOwn.never (pt_cmpR op_ne (pv 1) pe_int (nomark _)) (pss_one (ps_par (i := 0) (j := 1) rfl sc_gc.nd rfl rfl (by decide) rfl rfl (pa_cons (pv 1) (pa_cons (pe_op op_mod (pv 0) (pv 1)) pa_nil)) rfl)))
      (pss_one (ps_ret (pv 0))))), ?_⟩
    refine ⟨_, rfl, _, rfl, _, rfl, _, rfl, _, _, rfl, ?_⟩
    have abs : ∀ i : Int, (if i < 0 then -i else i) = ((i.natAbs : Nat) : Int) := fun i => by split <;> omega
    rw [abs a, abs b]
    refine while_by (fun σ H' => Same H H' ∧ ∃ (x y : Nat), σ = [some (.int (x : Int)), some (.int (y : Int))] ∧ Nat.gcd x y = Int.gcd a b)
      (fun σ _ => match σ with | [_, some (.int y)] => y.natAbs | _ => 0) ⟨Same.refl H, _, _, rfl, rfl⟩ ?_ ?_
    · rintro σ H' ⟨s', x, y, rfl, hg⟩
      refine ⟨_, rfl, rfl, _, rfl, ?_⟩
      refine ite2 (fun h => ?_) (fun h => ?_)
      · have hy : (y : Int) ≠ 0 := by simpa using h
        refine ⟨_, rfl, _, rfl, _, rfl, _, _, rfl, rfl, (by show (0 : Int) < (y : Int); omega), _, _, rfl, ?_⟩
        refine ⟨⟨s', y, x % y, by simp [Int.natCast_emod], ?_⟩, ?_⟩
        · rw [← hg, Nat.gcd_comm x y, Nat.gcd_rec y x, Nat.gcd_comm]
        · show ((x : Int) % (y : Int)).natAbs < ((y : Int)).natAbs
          have := Nat.mod_lt x (show 0 < y by omega)
          rw [← Int.natCast_emod, Int.natAbs_natCast, Int.natAbs_natCast]; exact this
      · have hy : (y : Int) = 0 := by simpa using h
        have : y = 0 := by omega
        subst this
        rw [Nat.gcd_zero_right] at hg
        refine ⟨_, rfl, ?_⟩
        rw [hg]; exact k _ s'
    · rintro σ H' Q1 Q2 hq ⟨x, e1, e2, y, e3, e4⟩
      exact ⟨x, e1, e2, y, e3, hq _ _ e4⟩
end
end K1
namespace K1
open PySem L2 Sq
/-- a direction, drawn -/
def spWy : Sp := fun vs H Q _ => ∃ a b m : Int, vs = [.int a, .int b, .int m] ∧ 0 < m ∧ m ≤ 60 ∧ ∀ (H' : Hp) (l : Addr) (p q : Int), Same H H' → H' l = some (.tup [.int p, .int q]) → p.natAbs ≤ m.toNat → q.natAbs ≤ m.toNat → Int.gcd p q = 1 → Q (.ref l) H'
theorem div_le (p : Int) (g : Nat) : (p / (g : Int)).natAbs ≤ p.natAbs := Int.natAbs_ediv_le_natAbs p g
section
variable {P : Program} {w : World} {K : PySem.W.Frag} {mg : Str → Option Value} {base : Heap}
abbrev n_wy : List Str := ["_law_one", "_law_other", "_law_most", "_law_p", "_law_q", "_law_common"]
theorem sc_wy : FnScope n_wy ["_law_one", "_law_other", "_law_most"] (defScope sLWay) := ⟨rfl, rfl, rfl, by decide +kernel, rfl, by decide +kernel, by decide +kernel⟩
theorem ok_wy {f fg : Addr} {fd dg : FuncData} (F : Fn K mg "_law_way" sLWay ["_law_one", "_law_other", "_law_most"] f fd) (FG : Fn K mg "_law_gcd" sLGcd ["_law_one", "_law_other"] fg dg) (GG : FnOk P w K mg base CX0 1 fg dg ["_law_one", "_law_other"] spGc) : FnOk P w K mg base CX0 2 f fd ["_law_one", "_law_other", "_law_most"] spWy := by
  refine F.F.ok sc_wy (fun vs H Q E h => ?_) (fun cdv A outer s H vs Q E hr h => ?_)
  · obtain ⟨a, b, m, rfl, _⟩ := h; rfl
  · obtain ⟨a, b, m, rfl, hm0, hm, k⟩ := h
    have hr1 : Room 1 _ := hr.mono (by decide)
    refine ⟨_, (pss_cons (ps_set (i := 3) sc_wy.nd rfl (Or.inl rfl) (pe_op op_sub (pe_op op_mod (pv 0) (pe_op op_add (pe_op op_mul pe_int (pv 2)) pe_int)) (pv 2)))
      (pss_cons (ps_set (i := 4) sc_wy.nd rfl (Or.inl rfl) (pe_op op_sub (pe_op op_mod (pv 1) (pe_op op_add (pe_op op_mul pe_int (pv 2)) pe_int)) (pv 2)))
      (pss_cons (ps_if (PW.pt (pw_and (pt_cmpR op_eq (pv 3) pe_int (nomark _)) (pw_and1 (pt_cmpR op_eq (pv 4) pe_int (nomark _))))) (pss_one (ps_ret (pe_tup (pa_cons pe_int (pa_cons pe_int pa_nil))))) pss_nil)
      (pss_cons (ps_set (i := 5) sc_wy.nd rfl (Or.inl rfl) (pe_call GG hr1 rfl FG.m FG.F.kp FG.b .nil pass0 (pa_cons (pv 3) (pa_cons (pv 4) pa_nil))))
      (pss_one (ps_ret (pe_tup (pa_cons (pe_op op_fdiv (pv 3) (pv 5)) (pa_cons (pe_op op_fdiv (pv 4) (pv 5)) pa_nil))))))))), ?_⟩
    have cm : CMul 2 m := .inl ⟨by decide, by decide⟩
    have hpos : (0 : Int) < 2 * m + 1 := by omega
    refine ⟨_, rfl, _, rfl, _, _, rfl, rfl, cm, _, _, rfl, rfl, _, _, rfl, rfl, hpos, _, rfl, _, _, rfl, rfl, ?_⟩
    refine ⟨_, rfl, _, rfl, _, _, rfl, rfl, cm, _, _, rfl, rfl, _, _, rfl, rfl, hpos, _, rfl, _, _, rfl, rfl, ?_⟩
    have bp : (a % (2 * m + 1) - m).natAbs ≤ m.toNat := by
      have h1 := Int.emod_nonneg a (Int.ne_of_gt hpos)
      have h2 := Int.emod_lt_of_pos a hpos
      omega
    have bq : (b % (2 * m + 1) - m).natAbs ≤ m.toNat := by
      have h1 := Int.emod_nonneg b (Int.ne_of_gt hpos)
      have h2 := Int.emod_lt_of_pos b hpos
      omega
    dsimp only
    generalize a % (2 * m + 1) - m = p at bp ⊢
    generalize b % (2 * m + 1) - m = q at bq ⊢
    have two : 2 ≤ sizeLine := by decide
    have fin : ¬ (p = 0 ∧ q = 0) → ∀ (H' : Hp), Same H H' → ∀ l, H' l = none → Q (.ref l) (upd H' l (.tup [.int (p / ((Int.gcd p q : Nat) : Int)), .int (q / ((Int.gcd p q : Nat) : Int))])) := fun h0 H' s' l hl => by
      refine k _ l _ _ (same_upd s' (s'.free hl)) upd_same (Nat.le_trans (div_le p _) bp) (Nat.le_trans (div_le q _) bq) ?_
      have hg : 0 < Int.gcd p q := Int.gcd_pos_iff.mpr (by omega)
      exact Int.gcd_ediv_gcd_ediv_gcd hg
    have gl : ¬ (p = 0 ∧ q = 0) → 0 < Int.gcd p q ∧ ((Int.gcd p q : Nat) : Int) < 1073741824 := fun h0 => by
      have hg : 0 < Int.gcd p q := Int.gcd_pos_iff.mpr (by omega)
      refine ⟨hg, ?_⟩
      by_cases e : p = 0
      · have : q ≠ 0 := fun z => h0 ⟨e, z⟩
        have := Int.gcd_le_natAbs_right p this
        omega
      · have := Int.gcd_le_natAbs_left q e
        omega
    refine ⟨_, rfl, rfl, _, rfl, ?_⟩
    by_cases e1 : p = 0
    · subst e1
      refine iteT ?_
      refine ⟨_, rfl, rfl, _, rfl, ?_⟩
      by_cases e2 : q = 0
      · subst e2
        refine iteT ?_
        exact ⟨two, fun l hl => k _ l 1 0 (same_upd (Same.refl H) hl) upd_same (by omega) (by omega) (by decide)⟩
      · rw [decide_eq_false (by intro z; exact e2 (V.int.inj z))]
        refine iteF ?_
        have h0 : ¬ ((0 : Int) = 0 ∧ q = 0) := fun z => e2 z.2
        obtain ⟨g0, g1⟩ := gl h0
        refine ⟨_, rfl, _, rfl, 0, q, rfl, fun H1 s1 => ?_⟩
        refine ⟨_, rfl, _, rfl, _, _, rfl, rfl, ⟨by omega, g1⟩, _, rfl, _, rfl, _, _, rfl, rfl, ⟨by omega, g1⟩, two, fun l hl => fin h0 H1 s1 l hl⟩
    · rw [decide_eq_false (by intro z; exact e1 (V.int.inj z))]
      refine iteF ?_
      refine iteF ?_
      have h0 : ¬ (p = 0 ∧ q = 0) := fun z => e1 z.1
      obtain ⟨g0, g1⟩ := gl h0
      refine ⟨_, rfl, _, rfl, p, q, rfl, fun H1 s1 => ?_⟩
      refine ⟨_, rfl, _, rfl, _, _, rfl, rfl, ⟨by omega, g1⟩, _, rfl, _, rfl, _, _, rfl, rfl, ⟨by omega, g1⟩, two, fun l hl => fin h0 H1 s1 l hl⟩
end
end K1
namespace Sq
open L2
theorem Sheet.any {n : Nat} {r u : List Nat} (s : Sheet n r u) {T : Nat → Prop} {x0 : Nat} (h0 : x0 < n) (ht : T x0) (sh : Shut n r u T) : ∀ x, x < n → T x := by
  classical
  have M := (List.range n).filter fun x => decide (T x)
  have key : ∀ {row : List Nat}, Row n row → (∀ x, x < n → T x → T (nx row x)) → ∀ x, x < n → ¬ T x → ¬ T (nx row x) := fun {row} rr cl x hx hn z => by
    have := shut_compl (M := (List.range n).filter fun x => decide (T x)) rr (List.nodup_range.filter _) (fun x hx => List.mem_range.mp (List.mem_filter.mp hx).1)
      (fun y hy => by
        obtain ⟨h1, h2⟩ := List.mem_filter.mp hy
        have h1 := List.mem_range.mp h1
        exact List.mem_filter.mpr ⟨List.mem_range.mpr (rr.nlt h1), decide_eq_true (cl y h1 (of_decide_eq_true h2))⟩) hx (fun w => hn (of_decide_eq_true (List.mem_filter.mp w).2))
    exact this (List.mem_filter.mpr ⟨List.mem_range.mpr (rr.nlt hx), decide_eq_true z⟩)
  by_cases c : T 0
  · exact s.conn T c sh
  · have := s.conn (fun x => ¬ T x) c (fun x hx hn => ⟨key s.row (fun y hy ht => (sh y hy ht).1) x hx hn, key s.col (fun y hy ht => (sh y hy ht).2) x hx hn⟩) x0 h0
    exact absurd ht this
theorem Sheet.ren {n : Nat} {r u f : List Nat} (s : Sheet n r u) (hf : Row n f) : Sheet n (ren r f) (Sq.ren u f) where
  pos := s.pos
  most := s.most
  row := ren_row s.row hf
  col := ren_row s.col hf
  conn := fun T h0 sh x hx => by
    have := s.any (T := fun y => T (nx f y)) (hf.back.nlt s.pos) (by show T (nx f (nx (back f) 0)); rw [nx_back' hf s.pos]; exact h0) (fun y hy ht => by
      obtain ⟨h1, h2⟩ := sh (nx f y) (hf.nlt hy) ht
      rw [ren_at hf hy] at h1 h2
      exact ⟨h1, h2⟩) (nx (back f) x) (hf.back.nlt hx)
    rwa [nx_back' hf hx] at this
end Sq
namespace K1
open PySem L2 Sq
theorem are_of {n : Nat} {x : List Nat × List Nat} (s : Sheet n x.1 x.2) {ps : List Pr} (hp : ps.Perm ((NB n x).map short)) : (∀ b ∈ ps, 1 ≤ b.1 ∧ 1 ≤ b.2 ∧ b.1 ≤ 36) ∧ ps.length ≤ 36 ∧ (ps.map fun b => b.1 * b.2).sum = n := by
  obtain ⟨k1, k2, k3, _⟩ := cov_of s (as := List.replicate (NB n x).length 0) (bs := NB n x) (by simp) (List.Perm.refl _)
  rw [List.length_replicate] at k2
  refine ⟨fun b hb => ?_, ?_, ?_⟩
  · obtain ⟨B, hB, rfl⟩ := List.mem_map.mp (hp.mem_iff.mp hb)
    have := k1 B hB
    exact ⟨this.1, this.2.2.1, this.2.1⟩
  · rw [hp.length_eq, List.length_map]; exact k2
  · rw [(hp.map fun b => b.1 * b.2).sum_nat, List.map_map]
    exact k3
def spLaw (K : PySem.W.Frag) : Sp := fun vs H Q _ => ∃ (a : Addr) (ns : List Int), vs = [.ref a] ∧ SqL K H a (ns.map V.int) ∧ ∀ H' : Hp, Q (.bl true) H'
theorem cut_ints64 (fs : List Int) : ∃ gs : List Int, cutV (fs.map V.int) (some 3) (some 43) = gs.map V.int ∧ gs.length ≤ 60 := by
  unfold cutV
  rw [← List.map_drop, ← List.map_take]
  refine ⟨_, rfl, ?_⟩
  rw [List.length_take, List.length_drop, List.length_map]
  have h1 := HT.sIx_nat fs.length 0 3
  have h2 := HT.sIx_nat fs.length fs.length 43
  have h1 : HT.sIx fs.length 0 (some 3) = min 3 fs.length := h1
  have h2 : HT.sIx fs.length fs.length (some 43) = min 43 fs.length := h2
  rw [h1, h2]
  omega
theorem asg_by {te : TE} {g : TG} {D : Ends} {σ : St} {H : Hp} (h : te σ H fun v H' => g v σ H' D.nx) : tAsg te g D σ H := h
theorem ren_iff64 {n : Nat} {r f r2 : List Nat} (rr : Row n r) (rf : Row n f) (r2r : Row n r2) : ren r f = r2 ↔ ∀ k, k < n → nx r2 (nx f k) = nx f (nx r k) := by
  constructor
  · rintro rfl k hk
    exact ren_at rf hk
  · intro h
    refine ext_row (n := n) (by rw [ren_len, rf.len]) r2r.len fun i hi => ?_
    obtain ⟨k, hk, rfl⟩ := rf.onto hi
    rw [ren_at rf hk, h k hk]
theorem con_sheet {n : Nat} {r u : List Nat} (s : Sheet n r u) : Sheet n (con n r) (con n u) := by
  have e : ∀ {f : List Nat}, Row n f → ren f (rv64 n) = con n f := fun {f} rf => (ren_iff64 rf (rv64_row n) (con_row rf)).mpr (con_lds rf)
  have := s.ren (rv64_row n)
  rwa [e s.row, e s.col] at this
theorem okW_st64 {z : List Nat} (h : St z) (hl : z.length ≤ 1000) : okW z = true := by
  unfold okW
  rw [decide_eq_true hl, Bool.true_and, List.all_eq_true]
  intro c hc
  rcases h c hc with e | e <;> rw [e] <;> rfl
/-- ['st'.index(letter) * 5 for letter in word] -/
theorem compSt {K : PySem.W.Frag} {Hc : Hp} {tl : TE} {Q : VK} {σ : St} (hj : ∀ R : VK, (∀ (H3 : Hp) (z : List Nat), Same Hc H3 → Sq.St z → z.length ≤ 60 → R (.str (txt z)) H3) → tl σ Hc R)
    (k : ∀ (H' : Hp) (d : Addr) (gs : List Int), Same Hc H' → H' d = some (.lst (gs.map V.int)) → gs.length ≤ 60 → Q (.ref d) H') :
    tComp (iStr tl) 1 [] (gName 0) (tOp (rI CMul fun i j => .int (i * j)) (tBM K "str" rIndexS (tC (.str (Str.ofString "st"))) (tCons (tVar 0) tNil)) (tC (.int 5))) σ Hc Q := by
  refine hj _ fun Hd z sd hz hl => ⟨txt z, rfl, fun d hd => ?_⟩
  have hn : z.length ≤ 1000 := by omega
  refine comp_by (Q := fun d H' => Q (.ref d) H') z.length ((z.map fun c => if c = 115 then (0 : Int) else 5).map V.int) (by simp) (fun i σ H3 => ∃ o, σ = [o] ∧ Same Hd H3) ⟨none, rfl, same_upd (Same.refl _) hd⟩ ?_ ?_
  · rintro i σ H3 hi ⟨o, rfl, s3⟩ hd3
    refine ⟨by show i < (txt _).length; rw [txt_len]; exact hi, fun y H4 ⟨e, c, hc, ey⟩ => ?_⟩
    subst e ey
    rw [txt_get] at hc
    have hc : c = z[i] := by
      rw [List.getElem?_eq_getElem hi] at hc
      exact (Option.some.inj hc).symm
    subst hc
    rcases hz _ (List.getElem_mem hi) with e | e
    · refine ⟨rfl, _, rfl, Str.ofString "st", txt [z[i]], 0, [], rfl, rfl, by rw [e]; decide +kernel, _, _, rfl, rfl, .inl ⟨by decide, by decide⟩, ?_⟩
      exact cpost hi hn hd3 (by simp [hi, e]) ⟨_, rfl, same_upd s3 hd⟩
    · refine ⟨rfl, _, rfl, Str.ofString "st", txt [z[i]], 1, [], rfl, rfl, by rw [e]; decide +kernel, _, _, rfl, rfl, .inl ⟨by decide, by decide⟩, ?_⟩
      exact cpost hi hn hd3 (by simp [hi, e]) ⟨_, rfl, same_upd s3 hd⟩
  · rintro σ H3 ⟨o, rfl, s3⟩ hd3
    exact ⟨by show (txt _).length = _; rw [txt_len], k H3 d _ (sd.trans s3) hd3 (by simpa using hl)⟩
section
variable {P : Program} {w : World} {K : PySem.W.Frag} {mg : Str → Option Value} {base : Heap}
abbrev n_law : List Str := ["_law_script", "_law_first", "_law_sheet_here", "_law_p", "_law_q", "_law_letters", "_law_word_here", "_law_far_p", "_law_far_q", "_law_found"]
theorem sc_law : FnScope n_law ["_law_script"] (defScope sLaw) := ⟨rfl, rfl, rfl, by decide +kernel, rfl, by decide +kernel, by decide +kernel⟩
theorem nd_law : (["_law_letter"] : List Str).Nodup := by decide +kernel
set_option maxHeartbeats 1000000 in
theorem ok_law {f fc fs fy fw fx fz fb fr fm ft : Addr} {fd dc ds dy dw dx dz db dr dm dt : FuncData} {CW : Addr} (T : Bi mg) (F : Fn K mg "law" sLaw ["_law_script"] f fd) (FC : Fn K mg "_law_cell_at" sLCellAt ["_law_script", "_law_k"] fc dc) (GC : FnOk P w K mg base CX0 1 fc dc ["_law_script", "_law_k"] (spCellT K))
    (FS : Fn K mg "_law_sheet" sSheet ["_law_script", "_law_at", "_law_many"] fs ds) (GS : FnOk P w K mg base CX0 3 fs ds ["_law_script", "_law_at", "_law_many"] (spSe K))
    (FY : Fn K mg "_law_sheet_by" sLSheetBy ["_law_script", "_law_many"] fy dy) (GY : FnOk P w K mg base CX0 2 fy dy ["_law_script", "_law_many"] (spSb5 K))
    (FW : Fn K mg "_law_way" sLWay ["_law_one", "_law_other", "_law_most"] fw dw) (GW : FnOk P w K mg base CX0 2 fw dw ["_law_one", "_law_other", "_law_most"] spWy)
    (FX : Fn K mg "_law_word_by" sLWordBy ["_law_cell", "_law_most"] fx dx) (GX : FnOk P w K mg base CX0 1 fx dx ["_law_cell", "_law_most"] spWb5)
    (FZ : Fn K mg "_law_word" sLWord ["_law_p", "_law_q", "_law_cells"] fz dz) (GZ : FnOk P w K mg base CX0 1 fz dz ["_law_p", "_law_q", "_law_cells"] (spWd64 K))
    (FB : Fn K mg "bands_along" sBandsAlong ["sheet", "p", "q"] fb db) (GB : FnOk P w K mg base CX0 10 fb db ["sheet", "p", "q"] spBal4)
    (FR : Fn K mg "_law_bands_are" sLBandsAre ["_law_found", "_law_many"] fr dr) (GR : FnOk P w K mg base CX0 2 fr dr ["_law_found", "_law_many"] spAre)
    (FM : Fn K mg "moved" sMoved ["sheet", "word"] fm dm) (GM : FnOk P w K mg base (CX1 P w) 4 fm dm ["sheet", "word"] (spMd CW))
    (FT : Fn K mg "_law_contrary" sLContrary ["_law_sheet_here"] ft dt) (GT : FnOk P w K mg base CX0 1 ft dt ["_law_sheet_here"] spCt64) : FnOk P w K mg base CX0 12 f fd ["_law_script"] (spLaw K) := by
  refine F.F.ok sc_law (fun vs H Q E h => ?_) (fun cdv A outer s H vs Q E hr h => ?_)
  · obtain ⟨a, ns, rfl, _⟩ := h; rfl
  · obtain ⟨sc, ns, rfl, hS, k⟩ := h
    have hr1 : Room 1 _ := hr.mono (by decide)
    have hr10 : Room 10 _ := hr.mono (by decide)
    have hr2 : Room 2 _ := hr.mono (by decide)
    have hr3 : Room 3 _ := hr.mono (by decide)
    have hr4 : Room 4 _ := hr.mono (by decide)
    refine ⟨_, (pss_cons (ps_set (i := 1) sc_law.nd rfl (Or.inl rfl) (pe_call GC hr1 rfl FC.m FC.F.kp FC.b .nil pass0 (pa_cons (pv 0) (pa_cons pe_int pa_nil))))
      (pss_cons (ps_if (pt_cmpR op_eq (pe_op op_mod (pv 1) pe_int) pe_int (nomark _)) (pss_cons (ps_set (i := 2) sc_law.nd rfl (Or.inl rfl) (pe_call GY hr2 rfl FY.m FY.F.kp FY.b .nil pass0 (pa_cons (pv 0) (pa_cons (pe_op op_add pe_int (pe_op op_mod (pe_op op_fdiv (pv 1) pe_int) pe_int)) pa_nil))))
      (pss_cons (ps_asg (pe_call GW hr2 rfl FW.m FW.F.kp FW.b .nil pass0 (pa_cons (pe_call GC hr1 rfl FC.m FC.F.kp FC.b .nil pass0 (pa_cons (pv 0) (pa_cons pe_int pa_nil))) (pa_cons (pe_op op_fdiv (pe_call GC hr1 rfl FC.m FC.F.kp FC.b .nil pass0 (pa_cons (pv 0) (pa_cons pe_int pa_nil))) pe_int) (pa_cons pe_int pa_nil)))) (pg_tup rfl (pgs_cons (pg_name (i := 3) sc_law.nd rfl (Or.inl rfl)) (pgs_cons (pg_name (i := 4) sc_law.nd rfl (Or.inl rfl)) pgs_nil))))
      (pss_one (ps_comp (j := 5) (N := n_law) (names := (defScope sLaw).names) (N' := ["_law_letter"]) (k := 1) (pull := []) (te := (tOp (rI CMul fun i j => .int (i * j)) (tBM K "str" rIndexS (tC (.str (Str.ofString "st"))) (tCons (tVar 0) tNil)) (tC (.int 5)))) rfl sc_law.nd rfl rfl ⟨by rfl, by decide +kernel, by decide +kernel, by rfl, by decide +kernel, by decide +kernel⟩ rfl rfl (pi_str (pe_call GX hr1 rfl FX.m FX.F.kp FX.b .nil pass0 (pa_cons (pe_call GC hr1 rfl FC.m FC.F.kp FC.b .nil pass0 (pa_cons (pv 0) (pa_cons pe_int pa_nil))) (pa_cons pe_int pa_nil)))) (fun _ _ _ _ _ _ => pg_name (i := 0) nd_law rfl (Or.inl rfl)) (fun _ _ _ _ _ _ => (pe_op op_mul (pe_bm PySem.F.plainAttrs_str PySem.F.slot_str_index PySem.F.type_str_index mt_indexS pe_str (pa_cons (pv 0) pa_nil)) pe_int)))))) (pss_cons (ps_set (i := 2) sc_law.nd rfl (Or.inl rfl) (pe_call GS hr3 rfl FS.m FS.F.kp FS.b .nil pass0 (pa_cons (pv 0) (pa_cons pe_int (pa_cons (pe_op op_add pe_int (pe_op op_mod (pe_op op_fdiv (pv 1) pe_int) pe_int)) pa_nil)))))
      (pss_cons (ps_asg (pe_call GW hr2 rfl FW.m FW.F.kp FW.b .nil pass0 (pa_cons (pe_call GC hr1 rfl FC.m FC.F.kp FC.b .nil pass0 (pa_cons (pv 0) (pa_cons pe_int pa_nil))) (pa_cons (pe_call GC hr1 rfl FC.m FC.F.kp FC.b .nil pass0 (pa_cons (pv 0) (pa_cons pe_int pa_nil))) (pa_cons pe_int pa_nil)))) (pg_tup rfl (pgs_cons (pg_name (i := 3) sc_law.nd rfl (Or.inl rfl)) (pgs_cons (pg_name (i := 4) sc_law.nd rfl (Or.inl rfl)) pgs_nil))))
      (pss_one (ps_set (i := 5) sc_law.nd rfl (Or.inl rfl) (pe_slice sl_list (pv 0) (po_some pe_int) (po_some pe_int)))))))
      (pss_cons (ps_asg (pe_call GZ hr1 rfl FZ.m FZ.F.kp FZ.b .nil pass0 (pa_cons (pv 3) (pa_cons (pv 4) (pa_cons (pv 5) pa_nil)))) (pg_tup rfl (pgs_cons (pg_name (i := 6) sc_law.nd rfl (Or.inl rfl)) (pgs_cons (pg_name (i := 7) sc_law.nd rfl (Or.inl rfl)) (pgs_cons (pg_name (i := 8) sc_law.nd rfl (Or.inl rfl)) pgs_nil)))))
      (pss_cons (ps_set (i := 9) sc_law.nd rfl (Or.inl rfl) (pe_call GB hr10 rfl FB.m FB.F.kp FB.b .nil pass0 (pa_cons (pv 2) (pa_cons (pv 3) (pa_cons (pv 4) pa_nil)))))
      (pss_cons (ps_if (pt_not (pt_val (pe_call GR hr2 rfl FR.m FR.F.kp FR.b .nil pass0 (pa_cons (pv 9) (pa_cons (pe_callB call_len_seq rfl T.len PySem.boot_len (pa_cons (pe_ix ix_tup (pv 2) pe_int (fun _ _ => rfl)) pa_nil)) pa_nil))))) (pss_one (ps_ret pe_bl)) pss_nil)
      (pss_cons (ps_if (pt_cmpR op_neD (pe_call GB hr10 rfl FB.m FB.F.kp FB.b .nil pass0 (pa_cons (pe_call GM hr4 rfl FM.m FM.F.kp FM.b .nil passE0 (pa_cons (pv 2) (pa_cons (pv 6) pa_nil))) (pa_cons (pv 7) (pa_cons (pv 8) pa_nil)))) (pv 9) (nomark _)) (pss_one (ps_ret pe_bl)) pss_nil)
      (pss_one (ps_ret (pe_and (pe_cmpR op_eqD (pe_call GB hr10 rfl FB.m FB.F.kp FB.b .nil pass0 (pa_cons (pe_call GM hr4 rfl FM.m FM.F.kp FM.b .nil passE0 (pa_cons (pv 2) (pa_cons pe_str pa_nil))) (pa_cons (pv 3) (pa_cons (pv 4) pa_nil)))) (pv 9) (nomark _)) (pe_one (pe_cmpR op_eqD (pe_call GB hr10 rfl FB.m FB.F.kp FB.b .nil pass0 (pa_cons (pe_call GT hr1 rfl FT.m FT.F.kp FT.b .nil pass0 (pa_cons (pv 2) pa_nil)) (pa_cons (pv 3) (pa_cons (pv 4) pa_nil)))) (pv 9) (nomark _)))))))))))), ?_⟩
    refine ⟨_, rfl, sc, ns, 0, rfl, hS, by decide, fun z0 => ?_⟩
    dsimp only [gName]
    refine seq_by (fun σ H2 => ∃ (b l : Addr) (n : Nat) (r u : List Nat) (p q : Int) (gs : List Int), σ = [some (.ref sc), some (.int z0), some (.ref b), some (.int p), some (.int q), some (.ref l), none, none, none, none] ∧ Same H H2 ∧ ShAt H2 b r u ∧ Sheet n r u ∧ p.natAbs ≤ 12 ∧ q.natAbs ≤ 12 ∧ Int.gcd p q = 1 ∧ SqL K H2 l (gs.map V.int) ∧ gs.length ≤ 60) (fun N hN => ?_) ?_
    · obtain ⟨n0, hn0⟩ : ∃ n0 : Nat, 1 + z0 / 2 % 36 = (n0 : Int) := ⟨(1 + z0 / 2 % 36).toNat, by omega⟩
      refine ⟨_, rfl, _, _, rfl, rfl, (by show (0 : Int) < 2; decide), rfl, _, rfl, ?_⟩
      refine ite2 (fun _ => ?_) (fun _ => ?_)
      · refine ⟨_, rfl, _, rfl, _, _, rfl, rfl, ⟨by decide, by decide⟩, _, _, rfl, rfl, (by show (0 : Int) < 36; decide), _, _, rfl, rfl, ?_⟩
        refine ⟨sc, ns, n0, by show [V.ref sc, V.int (1 + z0 / 2 % 36)] = _; rw [hn0], hS, by omega, by omega, fun H1 b n r u s1 hb hSh _ => ?_⟩
        have hS1 := s1.seq hS
        refine ⟨_, rfl, sc, ns, 3, rfl, hS1, by decide, fun z1 => ⟨_, rfl, sc, ns, 3, rfl, hS1, by decide, fun z2 => ⟨_, _, rfl, rfl, ⟨by decide, by decide⟩, _, _, 12, rfl, by decide, by decide, fun H2 t p q s2 ht f3 f4 f5 => ?_⟩⟩⟩
        refine ⟨t, _, rfl, SqT.of ht, rfl, _, _, rfl, _, _, rfl, rfl, ?_⟩
        have s12 := s1.trans s2
        dsimp only
        refine asg_by (compSt (fun R hR => ⟨_, rfl, sc, ns, 4, rfl, s12.seq hS, by decide, fun z4 => ⟨z4, 60, rfl, by decide, fun H3 z s3 hz hl => hR H3 z s3 hz hl⟩⟩) (fun H4 d gs s4 hd hl => ?_))
        exact hN _ _ ⟨b, d, n, r, u, p, q, gs, rfl, s12.trans s4, (hb.same s2).same s4, hSh, f3, f4, f5, SqL.of hd, hl⟩
      · refine ⟨_, rfl, _, rfl, _, _, rfl, rfl, ⟨by decide, by decide⟩, _, _, rfl, rfl, (by show (0 : Int) < 36; decide), _, _, rfl, rfl, ?_⟩
        refine ⟨sc, ns, 3, n0, by show [V.ref sc, V.int 3, V.int (1 + z0 / 2 % 36)] = _; rw [hn0], hS, by decide, by decide, by omega, by omega, fun H1 b n r u s1 hb hSh _ => ?_⟩
        have hS1 := s1.seq hS
        refine ⟨_, rfl, sc, ns, 1, rfl, hS1, by decide, fun z1 => ⟨_, rfl, sc, ns, 2, rfl, hS1, by decide, fun z2 => ⟨_, _, 12, rfl, by decide, by decide, fun H2 t p q s2 ht f3 f4 f5 => ?_⟩⟩⟩
        refine ⟨t, _, rfl, SqT.of ht, rfl, _, _, rfl, _, _, rfl, rfl, ?_⟩
        have s12 := s1.trans s2
        obtain ⟨gs, eg, hgs⟩ := cut_ints64 ns
        refine ⟨_, rfl, _, rfl, _, rfl, sc, _, rfl, s12.seq hS, fun l hl => ?_⟩
        rw [eg]
        have s3 := same_upd (o := .lst (gs.map V.int)) (Same.refl H2) hl
        exact hN _ _ ⟨b, l, n, r, u, p, q, gs, rfl, s12.trans s3, (hb.same s2).same s3, hSh, f3, f4, f5, SqL.of upd_same, hgs⟩
    rintro σ H2 ⟨b, l, n, r, u, p, q, gs, rfl, s2, hb, hSh, hp, hq, hg, hl, hgs⟩
    have rr := hSh.row
    have ru := hSh.col
    have hn := hSh.most
    have hrow : Row n (r, u).1 ∧ Row n (r, u).2 := ⟨rr, ru⟩
    refine ⟨_, rfl, _, rfl, _, rfl, p, q, l, gs, rfl, hl, hgs, by omega, by omega, fun H3 t z p' q' s3 ht hz hzl hact hp' hq' => ?_⟩
    refine ⟨t, _, rfl, SqT.of ht, rfl, _, _, rfl, _, _, rfl, _, _, rfl, rfl, ?_⟩
    have hb3 := hb.same s3
    refine ⟨_, rfl, _, rfl, _, rfl, b, p, q, n, r, u, rfl, hb3, hSh, by omega, by omega, hg, fun H4 lf asf ps s4 _ hlf hPf hpf hsf => ?_⟩
    have hb4 := hb3.same s4
    obtain ⟨pr, pu, g1, g2, g3⟩ := id hb4
    obtain ⟨k1, k2, k3⟩ := are_of (mvs_sheet (wordF (lq p q)) (x := (r, u)) hSh) hpf
    refine ⟨_, rfl, _, rfl, b, _, 0, _, rfl, rfl, SqT.of g1, atI_nat (j := 0) rfl, pr, _, rfl, .inr (SqT.of g2), lf, n, asf, ps, by rw [nv_len, rr.len]; rfl, hlf, hPf, hsf, k1, k2, k3, hn, fun H5 s5 => ⟨_, rfl, iteF ?_⟩⟩
    obtain ⟨lq1, lq2, lq3⟩ := lq_word (show p.natAbs ≤ 60 by omega) (show q.natAbs ≤ 60 by omega) hg
    have hg' := act_gcd (tb_det hz) hact hg
    obtain ⟨lw1, lw2, lw3⟩ := lq_word hp' hq' hg'
    refine ⟨_, rfl, _, rfl, b, z, n, r, u, rfl, by omega, hb4.same s5, rr, ru, hn, fun _ H6 c s6 hc => ?_, fun e => absurd (e.symm.trans (okW_st64 hz (by omega))) (by decide)⟩
    refine ⟨_, rfl, _, rfl, c, p', q', n, _, _, rfl, hc, mvs_sheet z (x := (r, u)) hSh, hp', hq', hg', fun H7 lg asg pg s7 _ hlg hPg hpg hsg => ?_⟩
    have sA := s5.trans (s6.trans s7)
    refine ⟨_, rfl, _, _, psD_dt hlg hPg, psD_dt (sA _ _ hlf) (hPf.same sA), psD_lay _, psD_lay _, unitsD hr (psD_depth _), _, rfl, ?_⟩
    have st2 : Sq.St (z ++ wordF (lq p' q')) := fun c hc => (List.mem_append.mp hc).elim (hz c) (lw2 c)
    have rel := level_bands (x := (r, u)) hSh st2 lq2 (p := p) (q := q) (by rw [tb4_app, act_mul, hact, lw1]; exact lw3) (by rw [lq1]; exact lq3)
    rw [mvs_app] at rel
    rw [if_pos rfl, sortedP_unique (hpg.trans (rel.trans hpf.symm)) hsg hsf, psD_eqv]
    refine iteF ?_
    have hb7 := hb4.same sA
    refine ⟨_, rfl, b, [], n, r, u, by rw [show txt [] = Str.ofString "" by decide +kernel]; rfl, by decide, hb7, rr, ru, hn, fun _ H8 c8 s8 hc8 => ?_, fun e => absurd (e.symm.trans (okW_st64 (fun _ h => (List.not_mem_nil h).elim) (by decide))) (by decide)⟩
    refine ⟨_, rfl, _, rfl, c8, p, q, n, r, u, rfl, hc8, hSh, by omega, by omega, hg, fun H9 lh ash ph s9 _ hlh hPh hph hsh => ?_⟩
    have sB := sA.trans (s8.trans s9)
    refine ⟨_, rfl, _, _, psD_dt hlh hPh, psD_dt (sB _ _ hlf) (hPf.same sB), psD_lay _, psD_lay _, unitsD hr (psD_depth _), _, rfl, ?_⟩
    rw [if_neg (by decide : ¬ (false = true)), sortedP_unique (hph.trans hpf.symm) hsh hsf, psD_eqv, if_pos rfl]
    refine ⟨_, rfl, b, n, r, u, rfl, hb4.same sB, rr, ru, hn, fun H10 c10 s10 hc10 => ?_⟩
    have hal := con_alk rr ru
    have hSc := con_sheet hSh
    refine ⟨_, rfl, _, rfl, c10, p, q, n, _, _, rfl, hc10, hSc, by omega, by omega, hg, fun H11 li asi pi s11 _ hli hPi hpi hsi => ?_⟩
    have sC := sB.trans (s10.trans s11)
    have rel2 := alk_bands (mvs_sheet (wordF (lq p q)) (x := (r, u)) hSh) (mvs_row _ (x := (con n r, con n u)) ⟨con_row rr, con_row ru⟩) (alk_all (wordF (lq p q)) (x := (r, u)) (y := (con n r, con n u)) hrow ⟨con_row rr, con_row ru⟩ hal)
    refine ⟨_, rfl, _, _, psD_dt hli hPi, psD_dt (sC _ _ hlf) (hPf.same sC), psD_lay _, psD_lay _, unitsD hr (psD_depth _), ?_⟩
    rw [if_neg (by decide), sortedP_unique (hpi.trans ((rel2.map short).trans hpf.symm)) hsi hsf, psD_eqv]
    exact k _
end
end K1
def PySem.W.Fast.tw5465262703053950431 : Nat := 0
def PySem.W.Fast.tw5062927063624443230 : Nat := 0
def PySem.W.Fast.tw9709640094481413834 : Nat := 0
def PySem.W.Fast.tw2572513428119994531 : Nat := 0
def PySem.W.Fast.tw3180311383993043314 : Nat := 0
def PySem.W.Fast.tw12238418171346708102 : Nat := 0
def PySem.W.Fast.tw13803306734946243430 : Nat := 0
def PySem.W.Fast.tw12832313088679196619 : Nat := 0
def PySem.W.Fast.tw614317993751103505 : Nat := 0
def PySem.W.Fast.tw12342529387564031122 : Nat := 0
def PySem.W.Fast.tw2181133986708742180 : Nat := 0
def PySem.W.Fast.tw2241230948707043486 : Nat := 0
namespace K1
open PySem L2 Sq
/-- a def as the top has left it -/
def Raw (K : PySem.W.Frag) (x : Str) (st : Stmt) : Prop := ∃ f fd, Fun K x x st f fd ∧ PySem.W.nsIn K mainGlobals x = some (some (.ref f)) ∧ ∃ kV doc pm an cdv ct, fd = PySem.W.fnOf x x (defArgs st) (defBody st) (defScope st) .none kV doc pm an cdv ct
theorem raw_mk {K : PySem.W.Frag} {x : Str} {st : Stmt} {f : Addr} {oc : Value} {od an : Option Addr} {osl : Array (Option Value)} {kV doc pm cdv ct : Value} (a : PySem.W.nsIn K mainGlobals x = some (some (.ref f)))
    (l : K.lookup f = some ⟨oc, od, .func (PySem.W.fnOf x x (defArgs st) (defBody st) (defScope st) .none kV doc pm an cdv ct), osl⟩) (c : PySem.W.codeIn K cdv x = true) (k : PySem.W.keepIn K (.ref f) = true) : Raw K x st :=
  ⟨f, _, fun_mk l c k, a, kV, doc, pm, an, cdv, ct, rfl⟩
theorem Raw.fn {K : PySem.W.Frag} {h : Heap} {mg : Str → Option Value} {x : Str} {st : Stmt} {ps : List Str} (X : K.In h) (G : h.Ns mainGlobals mg) (R : Raw K x st)
    (b : ∀ (kV doc pm : Value) (an : Option Addr) (cdv ct : Value) (us : List Value), us.length = ps.length → bindArgs (PySem.W.fnOf x x (defArgs st) (defBody st) (defScope st) .none kV doc pm an cdv ct) ⟨us, []⟩ = pure (ps.zip us)) : ∃ f fd, Fn K mg x st ps f fd := by
  obtain ⟨f, fd, F, a, _⟩ := R
  exact ⟨f, fd, F, F.binds b, PySem.W.mg_of X G a⟩
set_option maxHeartbeats 0 in
theorem all_mk {l : PySem.W.OpenLaw} {w : World} {K : PySem.W.Frag} {h : Heap} {mg : Str → Option Value} {fa : Addr} {t_MOST_LETTERS : Tok} {t_GREATEST : Tok} {t_FARTHEST : Tok} {a_LETTERS : Addr} {v0_LETTERS : Addr} {v1_LETTERS : Addr} {CT : Addr} {CW : Addr} (X : K.In h) (G : h.Ns mainGlobals mg) (hfa : mg "law" = some (.ref fa))
    (R_back_row : Raw K "back_row" sBackRow)
    (R_is_whole : Raw K "is_whole" sIsWhole)
    (R_cycle_from : Raw K "cycle_from" sCycleFrom)
    (R_cycles : Raw K "cycles" sCycles)
    (R_corners : Raw K "corners" sCorners)
    (R_turn_row : Raw K "turn_row" sTurnRow)
    (R_rough_squares : Raw K "rough_squares" sRoughSquares)
    (R_rows : Raw K "rows" sRows)
    (R_borders : Raw K "borders" sBorders)
    (R_bands : Raw K "bands" sBands)
    (R_has_some : Raw K "has_some" sHasSome)
    (R_band_from : Raw K "band_from" sBandFrom)
    (R_above_all : Raw K "above_all" sAboveAll)
    (R_has_shift : Raw K "has_shift" sHasShift)
    (R_common_divisor : Raw K "common_divisor" sCommonDivisor)
    (R_product : Raw K "product" sProduct)
    (R_back_table : Raw K "back_table" sBackTable)
    (R_word_of : Raw K "word_of" sWordOf)
    (R_need_word : Raw K "need_word" sNeedWord)
    (R_need_table : Raw K "need_table" sNeedTable)
    (R_is_table : Raw K "is_table" sIsTable)
    (R_shears : Raw K "shears" sShears)
    (R_need_way : Raw K "need_way" sNeedWay)
    (R_need_straight_way : Raw K "need_straight_way" sNeedStraightWay)
    (R_sheared : Raw K "sheared" sSheared)
    (R_turned : Raw K "turned" sTurned)
    (R_moved : Raw K "moved" sMoved)
    (R_moved_once : Raw K "moved_once" sMovedOnce)
    (R_to_level : Raw K "to_level" sToLevel)
    (R_bands_along : Raw K "bands_along" sBandsAlong)
    (R_weights_to_one : Raw K "weights_to_one" sWeightsToOne)
    (R__law_cell_at : Raw K "_law_cell_at" sLCellAt)
    (R__law_whole : Raw K "_law_whole" sWhole)
    (R__law_spread : Raw K "_law_spread" sLSpread)
    (R__law_row : Raw K "_law_row" sLRow)
    (R__law_together : Raw K "_law_together" sLTogether)
    (R__law_sheet : Raw K "_law_sheet" sSheet)
    (R__law_row_by : Raw K "_law_row_by" sLRowBy)
    (R__law_sheet_by : Raw K "_law_sheet_by" sLSheetBy)
    (R__law_word_by : Raw K "_law_word_by" sLWordBy)
    (R__law_gcd : Raw K "_law_gcd" sLGcd)
    (R__law_way : Raw K "_law_way" sLWay)
    (R__law_bands_are : Raw K "_law_bands_are" sLBandsAre)
    (R__law_word : Raw K "_law_word" sLWord)
    (R__law_contrary : Raw K "_law_contrary" sLContrary)
    (R_law : Raw K "law" sLaw)
    (c_MOST_LETTERS : PySem.W.nsIn K mainGlobals "MOST_LETTERS" = some (some (.int 1000 t_MOST_LETTERS)))
    (c_GREATEST : PySem.W.nsIn K mainGlobals "GREATEST" = some (some (.int 60 t_GREATEST)))
    (c_FARTHEST : PySem.W.nsIn K mainGlobals "FARTHEST" = some (some (.int 60 t_FARTHEST)))
    (m_CT : PySem.W.nsIn K mainGlobals "NoTable" = some (some (.ref CT))) (f_CT : ClsF K CT)
    (m_CW : PySem.W.nsIn K mainGlobals "NoWord" = some (some (.ref CW))) (f_CW : ClsF K CW)
    (e_CT : ExCls K CT)
    (e_CW : ExCls K CW)
    (m_LETTERS : PySem.W.nsIn K mainGlobals "LETTERS" = some (some (.ref a_LETTERS))) (d_LETTERS : TDi l.prog w K a_LETTERS [(Sum.inr (Str.ofString "s"), (.ref v0_LETTERS)), (Sum.inr (Str.ofString "t"), (.ref v1_LETTERS))])
    (w0_LETTERS : TTu K v0_LETTERS [1, 1, 0, 1])
    (w1_LETTERS : TTu K v1_LETTERS [0, -1, 1, 0])
    (z_len : PySem.W.nsIn K mainGlobals "len" = some none)
    (z_range : PySem.W.nsIn K mainGlobals "range" = some none)
    (z_list : PySem.W.nsIn K mainGlobals "list" = some none)
    (z_tuple : PySem.W.nsIn K mainGlobals "tuple" = some none)
    (z_isinstance : PySem.W.nsIn K mainGlobals "isinstance" = some none)
    (z_int : PySem.W.nsIn K mainGlobals "int" = some none)
    (z_bool : PySem.W.nsIn K mainGlobals "bool" = some none)
    (z_all : PySem.W.nsIn K mainGlobals "all" = some none)
    (z_set : PySem.W.nsIn K mainGlobals "set" = some none)
    (z_sorted : PySem.W.nsIn K mainGlobals "sorted" = some none)
    (z_enumerate : PySem.W.nsIn K mainGlobals "enumerate" = some none)
    (z_min : PySem.W.nsIn K mainGlobals "min" = some none)
    (z_any : PySem.W.nsIn K mainGlobals "any" = some none)
    (z_abs : PySem.W.nsIn K mainGlobals "abs" = some none)
    (z_max : PySem.W.nsIn K mainGlobals "max" = some none)
    : ∃ fd : FuncData, (∀ (s : Shared) (v : Value), BindsTo s fd ⟨[v], []⟩ [("_law_script", v)]) ∧ ∀ base : Heap, K.In base → base.Ns mainGlobals mg → FnOk l.prog w K mg base CX0 12 fa fd ["_law_script"] (spLaw K) := by
  have T : Bi mg := ⟨PySem.W.mg_none_of X G z_len, PySem.W.mg_none_of X G z_range, PySem.W.mg_none_of X G z_list, PySem.W.mg_none_of X G z_tuple, PySem.W.mg_none_of X G z_isinstance, PySem.W.mg_none_of X G z_int, PySem.W.mg_none_of X G z_bool, PySem.W.mg_none_of X G z_all, PySem.W.mg_none_of X G z_set, PySem.W.mg_none_of X G z_sorted, PySem.W.mg_none_of X G z_enumerate⟩
  have T_min : mg "min" = none := PySem.W.mg_none_of X G z_min
  have T_any : mg "any" = none := PySem.W.mg_none_of X G z_any
  have T_abs : mg "abs" = none := PySem.W.mg_none_of X G z_abs
  have T_max : mg "max" = none := PySem.W.mg_none_of X G z_max
  have C_MOST_LETTERS := PySem.W.mg_of X G c_MOST_LETTERS
  have C_GREATEST := PySem.W.mg_of X G c_GREATEST
  have C_FARTHEST := PySem.W.mg_of X G c_FARTHEST
  have C_LETTERS := PySem.W.mg_of X G m_LETTERS
  have D_LETTERS := d_LETTERS
  have U0_LETTERS := w0_LETTERS
  have U1_LETTERS := w1_LETTERS
  have M_CT := PySem.W.mg_of X G m_CT
  have M_CW := PySem.W.mg_of X G m_CW
  obtain ⟨f_back_row, d_back_row, F_back_row⟩ := R_back_row.fn (ps := ["row"]) X G fun _ _ _ _ _ _ us hl => match us, hl with | [_], _ => rfl
  obtain ⟨f_is_whole, d_is_whole, F_is_whole⟩ := R_is_whole.fn (ps := ["thing"]) X G fun _ _ _ _ _ _ us hl => match us, hl with | [_], _ => rfl
  obtain ⟨f_cycle_from, d_cycle_from, F_cycle_from⟩ := R_cycle_from.fn (ps := ["row", "first"]) X G fun _ _ _ _ _ _ us hl => match us, hl with | [_, _], _ => rfl
  obtain ⟨f_cycles, d_cycles, F_cycles⟩ := R_cycles.fn (ps := ["row"]) X G fun _ _ _ _ _ _ us hl => match us, hl with | [_], _ => rfl
  obtain ⟨f_corners, d_corners, F_corners⟩ := R_corners.fn (ps := ["sheet"]) X G fun _ _ _ _ _ _ us hl => match us, hl with | [_], _ => rfl
  obtain ⟨f_turn_row, d_turn_row, F_turn_row⟩ := R_turn_row.fn (ps := ["sheet"]) X G fun _ _ _ _ _ _ us hl => match us, hl with | [_], _ => rfl
  obtain ⟨f_rough_squares, d_rough_squares, F_rough_squares⟩ := R_rough_squares.fn (ps := ["sheet"]) X G fun _ _ _ _ _ _ us hl => match us, hl with | [_], _ => rfl
  obtain ⟨f_rows, d_rows, F_rows⟩ := R_rows.fn (ps := ["sheet"]) X G fun _ _ _ _ _ _ us hl => match us, hl with | [_], _ => rfl
  obtain ⟨f_borders, d_borders, F_borders⟩ := R_borders.fn (ps := ["sheet"]) X G fun _ _ _ _ _ _ us hl => match us, hl with | [_], _ => rfl
  obtain ⟨f_bands, d_bands, F_bands⟩ := R_bands.fn (ps := ["sheet"]) X G fun _ _ _ _ _ _ us hl => match us, hl with | [_], _ => rfl
  obtain ⟨f_has_some, d_has_some, F_has_some⟩ := R_has_some.fn (ps := ["edge", "squares"]) X G fun _ _ _ _ _ _ us hl => match us, hl with | [_, _], _ => rfl
  obtain ⟨f_band_from, d_band_from, F_band_from⟩ := R_band_from.fn (ps := ["sheet", "edge", "lowest"]) X G fun _ _ _ _ _ _ us hl => match us, hl with | [_, _, _], _ => rfl
  obtain ⟨f_above_all, d_above_all, F_above_all⟩ := R_above_all.fn (ps := ["sheet", "squares"]) X G fun _ _ _ _ _ _ us hl => match us, hl with | [_, _], _ => rfl
  obtain ⟨f_has_shift, d_has_shift, F_has_shift⟩ := R_has_shift.fn (ps := ["edge", "lowest", "above", "t"]) X G fun _ _ _ _ _ _ us hl => match us, hl with | [_, _, _, _], _ => rfl
  obtain ⟨f_common_divisor, d_common_divisor, F_common_divisor⟩ := R_common_divisor.fn (ps := ["one", "other"]) X G fun _ _ _ _ _ _ us hl => match us, hl with | [_, _], _ => rfl
  obtain ⟨f_product, d_product, F_product⟩ := R_product.fn (ps := ["one", "other"]) X G fun _ _ _ _ _ _ us hl => match us, hl with | [_, _], _ => rfl
  obtain ⟨f_back_table, d_back_table, F_back_table⟩ := R_back_table.fn (ps := ["table"]) X G fun _ _ _ _ _ _ us hl => match us, hl with | [_], _ => rfl
  obtain ⟨f_word_of, d_word_of, F_word_of⟩ := R_word_of.fn (ps := ["table"]) X G fun _ _ _ _ _ _ us hl => match us, hl with | [_], _ => rfl
  obtain ⟨f_need_word, d_need_word, F_need_word⟩ := R_need_word.fn (ps := ["word"]) X G fun _ _ _ _ _ _ us hl => match us, hl with | [_], _ => rfl
  obtain ⟨f_need_table, d_need_table, F_need_table⟩ := R_need_table.fn (ps := ["thing"]) X G fun _ _ _ _ _ _ us hl => match us, hl with | [_], _ => rfl
  obtain ⟨f_is_table, d_is_table, F_is_table⟩ := R_is_table.fn (ps := ["thing"]) X G fun _ _ _ _ _ _ us hl => match us, hl with | [_], _ => rfl
  obtain ⟨f_shears, d_shears, F_shears⟩ := R_shears.fn (ps := ["many"]) X G fun _ _ _ _ _ _ us hl => match us, hl with | [_], _ => rfl
  obtain ⟨f_need_way, d_need_way, F_need_way⟩ := R_need_way.fn (ps := ["p", "q"]) X G fun _ _ _ _ _ _ us hl => match us, hl with | [_, _], _ => rfl
  obtain ⟨f_need_straight_way, d_need_straight_way, F_need_straight_way⟩ := R_need_straight_way.fn (ps := ["p", "q"]) X G fun _ _ _ _ _ _ us hl => match us, hl with | [_, _], _ => rfl
  obtain ⟨f_sheared, d_sheared, F_sheared⟩ := R_sheared.fn (ps := ["sheet"]) X G fun _ _ _ _ _ _ us hl => match us, hl with | [_], _ => rfl
  obtain ⟨f_turned, d_turned, F_turned⟩ := R_turned.fn (ps := ["sheet"]) X G fun _ _ _ _ _ _ us hl => match us, hl with | [_], _ => rfl
  obtain ⟨f_moved, d_moved, F_moved⟩ := R_moved.fn (ps := ["sheet", "word"]) X G fun _ _ _ _ _ _ us hl => match us, hl with | [_, _], _ => rfl
  obtain ⟨f_moved_once, d_moved_once, F_moved_once⟩ := R_moved_once.fn (ps := ["sheet", "letter"]) X G fun _ _ _ _ _ _ us hl => match us, hl with | [_, _], _ => rfl
  obtain ⟨f_to_level, d_to_level, F_to_level⟩ := R_to_level.fn (ps := ["p", "q"]) X G fun _ _ _ _ _ _ us hl => match us, hl with | [_, _], _ => rfl
  obtain ⟨f_bands_along, d_bands_along, F_bands_along⟩ := R_bands_along.fn (ps := ["sheet", "p", "q"]) X G fun _ _ _ _ _ _ us hl => match us, hl with | [_, _, _], _ => rfl
  obtain ⟨f_weights_to_one, d_weights_to_one, F_weights_to_one⟩ := R_weights_to_one.fn (ps := ["p", "q"]) X G fun _ _ _ _ _ _ us hl => match us, hl with | [_, _], _ => rfl
  obtain ⟨f__law_cell_at, d__law_cell_at, F__law_cell_at⟩ := R__law_cell_at.fn (ps := ["_law_script", "_law_k"]) X G fun _ _ _ _ _ _ us hl => match us, hl with | [_, _], _ => rfl
  obtain ⟨f__law_whole, d__law_whole, F__law_whole⟩ := R__law_whole.fn (ps := ["_law_found"]) X G fun _ _ _ _ _ _ us hl => match us, hl with | [_], _ => rfl
  obtain ⟨f__law_spread, d__law_spread, F__law_spread⟩ := R__law_spread.fn (ps := ["_law_script", "_law_k"]) X G fun _ _ _ _ _ _ us hl => match us, hl with | [_, _], _ => rfl
  obtain ⟨f__law_row, d__law_row, F__law_row⟩ := R__law_row.fn (ps := ["_law_cells"]) X G fun _ _ _ _ _ _ us hl => match us, hl with | [_], _ => rfl
  obtain ⟨f__law_together, d__law_together, F__law_together⟩ := R__law_together.fn (ps := ["_law_right", "_law_up"]) X G fun _ _ _ _ _ _ us hl => match us, hl with | [_, _], _ => rfl
  obtain ⟨f__law_sheet, d__law_sheet, F__law_sheet⟩ := R__law_sheet.fn (ps := ["_law_script", "_law_at", "_law_many"]) X G fun _ _ _ _ _ _ us hl => match us, hl with | [_, _, _], _ => rfl
  obtain ⟨f__law_row_by, d__law_row_by, F__law_row_by⟩ := R__law_row_by.fn (ps := ["_law_cell", "_law_many"]) X G fun _ _ _ _ _ _ us hl => match us, hl with | [_, _], _ => rfl
  obtain ⟨f__law_sheet_by, d__law_sheet_by, F__law_sheet_by⟩ := R__law_sheet_by.fn (ps := ["_law_script", "_law_many"]) X G fun _ _ _ _ _ _ us hl => match us, hl with | [_, _], _ => rfl
  obtain ⟨f__law_word_by, d__law_word_by, F__law_word_by⟩ := R__law_word_by.fn (ps := ["_law_cell", "_law_most"]) X G fun _ _ _ _ _ _ us hl => match us, hl with | [_, _], _ => rfl
  obtain ⟨f__law_gcd, d__law_gcd, F__law_gcd⟩ := R__law_gcd.fn (ps := ["_law_one", "_law_other"]) X G fun _ _ _ _ _ _ us hl => match us, hl with | [_, _], _ => rfl
  obtain ⟨f__law_way, d__law_way, F__law_way⟩ := R__law_way.fn (ps := ["_law_one", "_law_other", "_law_most"]) X G fun _ _ _ _ _ _ us hl => match us, hl with | [_, _, _], _ => rfl
  obtain ⟨f__law_bands_are, d__law_bands_are, F__law_bands_are⟩ := R__law_bands_are.fn (ps := ["_law_found", "_law_many"]) X G fun _ _ _ _ _ _ us hl => match us, hl with | [_, _], _ => rfl
  obtain ⟨f__law_word, d__law_word, F__law_word⟩ := R__law_word.fn (ps := ["_law_p", "_law_q", "_law_cells"]) X G fun _ _ _ _ _ _ us hl => match us, hl with | [_, _, _], _ => rfl
  obtain ⟨f__law_contrary, d__law_contrary, F__law_contrary⟩ := R__law_contrary.fn (ps := ["_law_sheet_here"]) X G fun _ _ _ _ _ _ us hl => match us, hl with | [_], _ => rfl
  obtain ⟨fL, dL, FL, aL, kV, doc, pm, an, cdv, ct, eL⟩ := R_law
  have bL := FL.binds (ps := ["_law_script"]) fun _ _ _ _ _ _ us hl => match us, hl with | [_], _ => rfl
  have e := hfa.symm.trans (PySem.W.mg_of X G aL)
  cases e
  refine ⟨dL, fun s v => ?_, fun base _ _ => ?_⟩
  · subst eL; exact .of_eq rfl
  · have F_law : Fn K mg "law" sLaw ["_law_script"] fa dL := ⟨FL, bL, PySem.W.mg_of X G aL⟩
    have X0 := U0_LETTERS
    have G_cell := ok_cellT (P := l.prog) (w := w) (base := base) T F__law_cell_at
    have G_whole := ok_whole (P := l.prog) (w := w) (base := base) T F__law_whole
    have G_spr := ok_ds (P := l.prog) (w := w) (base := base) T F__law_spread
    have G_row := ok_rw (P := l.prog) (w := w) (base := base) T F__law_row
    have G_tg := ok_tg (P := l.prog) (w := w) (base := base) T F__law_together
    have G_sheet := ok_se T F__law_sheet F__law_spread G_spr F__law_row G_row F__law_together G_tg
    have G_back := ok_backRow (P := l.prog) (w := w) (base := base) T F_back_row
    have G_shr := ok_shr T F_sheared F_back_row G_back
    have G_trn := ok_trn F_turned F_back_row G_back
    have G_m1 := ok_m1 F_moved_once F_sheared G_shr F_turned G_trn
    have G_nd := ok_nd (P := l.prog) (w := w) (base := base) T e_CW M_CW C_LETTERS D_LETTERS C_MOST_LETTERS F_need_word
    have G_md := ok_md F_moved F_need_word G_nd F_moved_once G_m1
    have G_wh := ok_isWh (P := l.prog) (w := w) (base := base) T F_is_whole
    have G_it := ok_it T F_is_table F_is_whole G_wh
    have G_nt := ok_nt F_need_table F_is_table G_it
    have G_pr := ok_pr F_product F_need_table G_nt
    have G_itB := ok_itB T F_is_table F_is_whole G_wh
    have G_ntB := ok_ntB e_CT M_CT F_need_table F_is_table G_itB
    have G_bk := ok_bk F_back_table F_need_table G_nt
    have G_sh := ok_sh (P := l.prog) (w := w) (base := base) F_shears
    have G_wd := ok_wd T_abs T_max e_CT M_CT C_LETTERS D_LETTERS U1_LETTERS C_GREATEST F_word_of F_need_table G_ntB F_shears G_sh F_product G_pr F_back_table G_bk
    have G_cd := ok_cd (P := l.prog) (w := w) (base := base) T_abs F_common_divisor
    have G_nw := ok_nw (P := l.prog) (w := w) (base := base) T_abs C_FARTHEST F_need_way
    have G_ns := ok_ns F_need_straight_way F_need_way G_nw F_common_divisor G_cd
    have G_wo := ok_wo (P := l.prog) (w := w) (base := base) F_weights_to_one
    have G_tl := ok_tl F_to_level F_need_straight_way G_ns F_weights_to_one G_wo
    have G_gc := ok_gc (P := l.prog) (w := w) (base := base) T_abs F__law_gcd
    have G_wy := ok_wy F__law_way F__law_gcd G_gc
    have G_turn := ok_turn F_turn_row F_back_row G_back
    have G_cyc := ok_cycF (P := l.prog) (w := w) (base := base) F_cycle_from
    have G_cycles := ok_cycles T T_min F_cycles F_cycle_from G_cyc
    have G_corners := ok_corners F_corners F_turn_row G_turn F_cycles G_cycles
    have G_rough := ok_rough T F_rough_squares F_corners G_corners
    have G_borders := ok_borders T F_borders F_rough_squares G_rough
    have G_rows := ok_rs F_rows F_cycles G_cycles
    have G_ha := ok_ha (P := l.prog) (w := w) (base := base) T T_any F_has_some
    have G_ab := ok_ab (P := l.prog) (w := w) (base := base) T F_above_all
    have G_hs := ok_hs (P := l.prog) (w := w) (base := base) T T_any F_has_shift
    have G_bf := ok_bf T F_band_from F_above_all G_ab F_has_some G_ha F_has_shift G_hs
    have G_bs := ok_bs T F_bands F_borders G_borders F_rows G_rows F_has_some G_ha F_band_from G_bf
    have G_bal := ok_bal T F_bands_along F_moved G_md F_word_of G_wd F_to_level G_tl F_bands G_bs
    have G_are := ok_are T F__law_bands_are F__law_whole G_whole
    have G_rb := ok_rb5 (P := l.prog) (w := w) (base := base) T F__law_row_by
    have G_sb := ok_sb5 F__law_sheet_by F__law_together G_tg F__law_row_by G_rb F__law_cell_at G_cell
    have G_wb := ok_wb5 (P := l.prog) (w := w) (base := base) T F__law_word_by
    have G_w64 := ok_wd64 (P := l.prog) (w := w) (base := base) T T_abs T_max F__law_word
    have G_ct := ok_ct64 (P := l.prog) (w := w) (base := base) T F__law_contrary
    exact ok_law T F_law F__law_cell_at G_cell F__law_sheet G_sheet F__law_sheet_by G_sb F__law_way G_wy F__law_word_by G_wb F__law_word G_w64 F_bands_along G_bal F__law_bands_are G_are F_moved G_md F__law_contrary G_ct
theorem walk {l : PySem.W.OpenLaw} {q : Program} {loose : List Str} {XP : (Str → Option Value) → Heap → Prop} {YP : World → Heap → Prop} {d : DefRec} {K : Params → PySem.W.Frag} (hn : l.most = some 63) (hdf : d.params.defaults = [])
    (hY : ∀ (w : World) (h : Heap), YP w h → (K w.params).In h)
    (F : ∀ (w : World) (mg : Str → Option Value) (fa : Addr) (h : Heap), (K w.params).In h → h.Ns mainGlobals mg → mg d.name = some (.ref fa) →
      ∃ fd : FuncData, (∀ (s : Shared) (u : Value), BindsTo s fd ⟨[u], []⟩ [("_law_script", u)]) ∧ ∀ base : Heap, (K w.params).In base → base.Ns mainGlobals mg → FnOk l.prog w (K w.params) mg base CX0 12 fa fd ["_law_script"] (spLaw (K w.params))) :
    PySem.W.WalkO q loose XP YP l.row.toRowW d [] (fun f vs => PySem.call f vs) :=
  L2.walk_of (n := 63) (k := 12) (x := "_law_script") (CX := fun _ => CX0) (sp := fun w => spLaw (K w.params)) hn (by decide) hdf ⟨rfl, by decide, by decide⟩ hY F (fun _ _ a ns hl _ hS => ⟨a, ns, rfl, hS, fun _ => rfl⟩) fun _ _ _ _ _ z => z
end K1
open PySem PySem.W PyProof.Rows
set_option maxRecDepth 100000 in
set_option maxHeartbeats 0 in
theorem PySem.Challenge.cw_squaresheet_k64_whole_bands_moved_holds : PySem.Challenge.rw_squaresheet_k64_whole_bands_moved.Holds := by
  w_on; o_law; k_head; (case hw => w_witness2)
  k_fill
  refine K1.walk (l := PySem.Challenge.rw_squaresheet_k64_whole_bands_moved) rfl rfl (fun w h Y => PySem.W.kIn_of Y) ?F
  case F =>
    intro w mg fa h KX G hmg
    have R_back_row : K1.Raw (L2.KOf KX) "back_row" K1.sBackRow := by
      dsimp only [L2.KOf]
      refine' K1.raw_mk ?a ?l ?c ?k
      (case a => k_is); (case l => k_is); (case c => k_is); (case k => k_is)
    have R_is_whole : K1.Raw (L2.KOf KX) "is_whole" K1.sIsWhole := by
      dsimp only [L2.KOf]
      refine' K1.raw_mk ?a ?l ?c ?k
      (case a => k_is); (case l => k_is); (case c => k_is); (case k => k_is)
    have R_cycle_from : K1.Raw (L2.KOf KX) "cycle_from" K1.sCycleFrom := by
      dsimp only [L2.KOf]
      refine' K1.raw_mk ?a ?l ?c ?k
      (case a => k_is); (case l => k_is); (case c => k_is); (case k => k_is)
    have R_cycles : K1.Raw (L2.KOf KX) "cycles" K1.sCycles := by
      dsimp only [L2.KOf]
      refine' K1.raw_mk ?a ?l ?c ?k
      (case a => k_is); (case l => k_is); (case c => k_is); (case k => k_is)
    have R_corners : K1.Raw (L2.KOf KX) "corners" K1.sCorners := by
      dsimp only [L2.KOf]
      refine' K1.raw_mk ?a ?l ?c ?k
      (case a => k_is); (case l => k_is); (case c => k_is); (case k => k_is)
    have R_turn_row : K1.Raw (L2.KOf KX) "turn_row" K1.sTurnRow := by
      dsimp only [L2.KOf]
      refine' K1.raw_mk ?a ?l ?c ?k
      (case a => k_is); (case l => k_is); (case c => k_is); (case k => k_is)
    have R_rough_squares : K1.Raw (L2.KOf KX) "rough_squares" K1.sRoughSquares := by
      dsimp only [L2.KOf]
      refine' K1.raw_mk ?a ?l ?c ?k
      (case a => k_is); (case l => k_is); (case c => k_is); (case k => k_is)
    have R_rows : K1.Raw (L2.KOf KX) "rows" K1.sRows := by
      dsimp only [L2.KOf]
      refine' K1.raw_mk ?a ?l ?c ?k
      (case a => k_is); (case l => k_is); (case c => k_is); (case k => k_is)
    have R_borders : K1.Raw (L2.KOf KX) "borders" K1.sBorders := by
      dsimp only [L2.KOf]
      refine' K1.raw_mk ?a ?l ?c ?k
      (case a => k_is); (case l => k_is); (case c => k_is); (case k => k_is)
    have R_bands : K1.Raw (L2.KOf KX) "bands" K1.sBands := by
      dsimp only [L2.KOf]
      refine' K1.raw_mk ?a ?l ?c ?k
      (case a => k_is); (case l => k_is); (case c => k_is); (case k => k_is)
    have R_has_some : K1.Raw (L2.KOf KX) "has_some" K1.sHasSome := by
      dsimp only [L2.KOf]
      refine' K1.raw_mk ?a ?l ?c ?k
      (case a => k_is); (case l => k_is); (case c => k_is); (case k => k_is)
    have R_band_from : K1.Raw (L2.KOf KX) "band_from" K1.sBandFrom := by
      dsimp only [L2.KOf]
      refine' K1.raw_mk ?a ?l ?c ?k
      (case a => k_is); (case l => k_is); (case c => k_is); (case k => k_is)
    have R_above_all : K1.Raw (L2.KOf KX) "above_all" K1.sAboveAll := by
      dsimp only [L2.KOf]
      refine' K1.raw_mk ?a ?l ?c ?k
      (case a => k_is); (case l => k_is); (case c => k_is); (case k => k_is)
    have R_has_shift : K1.Raw (L2.KOf KX) "has_shift" K1.sHasShift := by
      dsimp only [L2.KOf]
      refine' K1.raw_mk ?a ?l ?c ?k
      (case a => k_is); (case l => k_is); (case c => k_is); (case k => k_is)
    have R_common_divisor : K1.Raw (L2.KOf KX) "common_divisor" K1.sCommonDivisor := by
      dsimp only [L2.KOf]
      refine' K1.raw_mk ?a ?l ?c ?k
      (case a => k_is); (case l => k_is); (case c => k_is); (case k => k_is)
    have R_product : K1.Raw (L2.KOf KX) "product" K1.sProduct := by
      dsimp only [L2.KOf]
      refine' K1.raw_mk ?a ?l ?c ?k
      (case a => k_is); (case l => k_is); (case c => k_is); (case k => k_is)
    have R_back_table : K1.Raw (L2.KOf KX) "back_table" K1.sBackTable := by
      dsimp only [L2.KOf]
      refine' K1.raw_mk ?a ?l ?c ?k
      (case a => k_is); (case l => k_is); (case c => k_is); (case k => k_is)
    have R_word_of : K1.Raw (L2.KOf KX) "word_of" K1.sWordOf := by
      dsimp only [L2.KOf]
      refine' K1.raw_mk ?a ?l ?c ?k
      (case a => k_is); (case l => k_is); (case c => k_is); (case k => k_is)
    have R_need_word : K1.Raw (L2.KOf KX) "need_word" K1.sNeedWord := by
      dsimp only [L2.KOf]
      refine' K1.raw_mk ?a ?l ?c ?k
      (case a => k_is); (case l => k_is); (case c => k_is); (case k => k_is)
    have R_need_table : K1.Raw (L2.KOf KX) "need_table" K1.sNeedTable := by
      dsimp only [L2.KOf]
      refine' K1.raw_mk ?a ?l ?c ?k
      (case a => k_is); (case l => k_is); (case c => k_is); (case k => k_is)
    have R_is_table : K1.Raw (L2.KOf KX) "is_table" K1.sIsTable := by
      dsimp only [L2.KOf]
      refine' K1.raw_mk ?a ?l ?c ?k
      (case a => k_is); (case l => k_is); (case c => k_is); (case k => k_is)
    have R_shears : K1.Raw (L2.KOf KX) "shears" K1.sShears := by
      dsimp only [L2.KOf]
      refine' K1.raw_mk ?a ?l ?c ?k
      (case a => k_is); (case l => k_is); (case c => k_is); (case k => k_is)
    have R_need_way : K1.Raw (L2.KOf KX) "need_way" K1.sNeedWay := by
      dsimp only [L2.KOf]
      refine' K1.raw_mk ?a ?l ?c ?k
      (case a => k_is); (case l => k_is); (case c => k_is); (case k => k_is)
    have R_need_straight_way : K1.Raw (L2.KOf KX) "need_straight_way" K1.sNeedStraightWay := by
      dsimp only [L2.KOf]
      refine' K1.raw_mk ?a ?l ?c ?k
      (case a => k_is); (case l => k_is); (case c => k_is); (case k => k_is)
    have R_sheared : K1.Raw (L2.KOf KX) "sheared" K1.sSheared := by
      dsimp only [L2.KOf]
      refine' K1.raw_mk ?a ?l ?c ?k
      (case a => k_is); (case l => k_is); (case c => k_is); (case k => k_is)
    have R_turned : K1.Raw (L2.KOf KX) "turned" K1.sTurned := by
      dsimp only [L2.KOf]
      refine' K1.raw_mk ?a ?l ?c ?k
      (case a => k_is); (case l => k_is); (case c => k_is); (case k => k_is)
    have R_moved : K1.Raw (L2.KOf KX) "moved" K1.sMoved := by
      dsimp only [L2.KOf]
      refine' K1.raw_mk ?a ?l ?c ?k
      (case a => k_is); (case l => k_is); (case c => k_is); (case k => k_is)
    have R_moved_once : K1.Raw (L2.KOf KX) "moved_once" K1.sMovedOnce := by
      dsimp only [L2.KOf]
      refine' K1.raw_mk ?a ?l ?c ?k
      (case a => k_is); (case l => k_is); (case c => k_is); (case k => k_is)
    have R_to_level : K1.Raw (L2.KOf KX) "to_level" K1.sToLevel := by
      dsimp only [L2.KOf]
      refine' K1.raw_mk ?a ?l ?c ?k
      (case a => k_is); (case l => k_is); (case c => k_is); (case k => k_is)
    have R_bands_along : K1.Raw (L2.KOf KX) "bands_along" K1.sBandsAlong := by
      dsimp only [L2.KOf]
      refine' K1.raw_mk ?a ?l ?c ?k
      (case a => k_is); (case l => k_is); (case c => k_is); (case k => k_is)
    have R_weights_to_one : K1.Raw (L2.KOf KX) "weights_to_one" K1.sWeightsToOne := by
      dsimp only [L2.KOf]
      refine' K1.raw_mk ?a ?l ?c ?k
      (case a => k_is); (case l => k_is); (case c => k_is); (case k => k_is)
    have R__law_cell_at : K1.Raw (L2.KOf KX) "_law_cell_at" K1.sLCellAt := by
      dsimp only [L2.KOf]
      refine' K1.raw_mk ?a ?l ?c ?k
      (case a => k_is); (case l => k_is); (case c => k_is); (case k => k_is)
    have R__law_whole : K1.Raw (L2.KOf KX) "_law_whole" K1.sWhole := by
      dsimp only [L2.KOf]
      refine' K1.raw_mk ?a ?l ?c ?k
      (case a => k_is); (case l => k_is); (case c => k_is); (case k => k_is)
    have R__law_spread : K1.Raw (L2.KOf KX) "_law_spread" K1.sLSpread := by
      dsimp only [L2.KOf]
      refine' K1.raw_mk ?a ?l ?c ?k
      (case a => k_is); (case l => k_is); (case c => k_is); (case k => k_is)
    have R__law_row : K1.Raw (L2.KOf KX) "_law_row" K1.sLRow := by
      dsimp only [L2.KOf]
      refine' K1.raw_mk ?a ?l ?c ?k
      (case a => k_is); (case l => k_is); (case c => k_is); (case k => k_is)
    have R__law_together : K1.Raw (L2.KOf KX) "_law_together" K1.sLTogether := by
      dsimp only [L2.KOf]
      refine' K1.raw_mk ?a ?l ?c ?k
      (case a => k_is); (case l => k_is); (case c => k_is); (case k => k_is)
    have R__law_sheet : K1.Raw (L2.KOf KX) "_law_sheet" K1.sSheet := by
      dsimp only [L2.KOf]
      refine' K1.raw_mk ?a ?l ?c ?k
      (case a => k_is); (case l => k_is); (case c => k_is); (case k => k_is)
    have R__law_row_by : K1.Raw (L2.KOf KX) "_law_row_by" K1.sLRowBy := by
      dsimp only [L2.KOf]
      refine' K1.raw_mk ?a ?l ?c ?k
      (case a => k_is); (case l => k_is); (case c => k_is); (case k => k_is)
    have R__law_sheet_by : K1.Raw (L2.KOf KX) "_law_sheet_by" K1.sLSheetBy := by
      dsimp only [L2.KOf]
      refine' K1.raw_mk ?a ?l ?c ?k
      (case a => k_is); (case l => k_is); (case c => k_is); (case k => k_is)
    have R__law_word_by : K1.Raw (L2.KOf KX) "_law_word_by" K1.sLWordBy := by
      dsimp only [L2.KOf]
      refine' K1.raw_mk ?a ?l ?c ?k
      (case a => k_is); (case l => k_is); (case c => k_is); (case k => k_is)
    have R__law_gcd : K1.Raw (L2.KOf KX) "_law_gcd" K1.sLGcd := by
      dsimp only [L2.KOf]
      refine' K1.raw_mk ?a ?l ?c ?k
      (case a => k_is); (case l => k_is); (case c => k_is); (case k => k_is)
    have R__law_way : K1.Raw (L2.KOf KX) "_law_way" K1.sLWay := by
      dsimp only [L2.KOf]
      refine' K1.raw_mk ?a ?l ?c ?k
      (case a => k_is); (case l => k_is); (case c => k_is); (case k => k_is)
    have R__law_bands_are : K1.Raw (L2.KOf KX) "_law_bands_are" K1.sLBandsAre := by
      dsimp only [L2.KOf]
      refine' K1.raw_mk ?a ?l ?c ?k
      (case a => k_is); (case l => k_is); (case c => k_is); (case k => k_is)
    have R__law_word : K1.Raw (L2.KOf KX) "_law_word" K1.sLWord := by
      dsimp only [L2.KOf]
      refine' K1.raw_mk ?a ?l ?c ?k
      (case a => k_is); (case l => k_is); (case c => k_is); (case k => k_is)
    have R__law_contrary : K1.Raw (L2.KOf KX) "_law_contrary" K1.sLContrary := by
      dsimp only [L2.KOf]
      refine' K1.raw_mk ?a ?l ?c ?k
      (case a => k_is); (case l => k_is); (case c => k_is); (case k => k_is)
    have R_law : K1.Raw (L2.KOf KX) "law" K1.sLaw := by
      dsimp only [L2.KOf]
      refine' K1.raw_mk ?a ?l ?c ?k
      (case a => k_is); (case l => k_is); (case c => k_is); (case k => k_is)
    refine' K1.all_mk KX G hmg R_back_row R_is_whole R_cycle_from R_cycles R_corners R_turn_row R_rough_squares R_rows R_borders R_bands R_has_some R_band_from R_above_all R_has_shift R_common_divisor R_product R_back_table R_word_of R_need_word R_need_table R_is_table R_shears R_need_way R_need_straight_way R_sheared R_turned R_moved R_moved_once R_to_level R_bands_along R_weights_to_one R__law_cell_at R__law_whole R__law_spread R__law_row R__law_together R__law_sheet R__law_row_by R__law_sheet_by R__law_word_by R__law_gcd R__law_way R__law_bands_are R__law_word R__law_contrary R_law ?c_MOST_LETTERS ?c_GREATEST ?c_FARTHEST ?m_CT ?f_CT ?m_CW ?f_CW ?e_CT ?e_CW ?m_LETTERS ?d_LETTERS ?w0_LETTERS ?w1_LETTERS ?z_len ?z_range ?z_list ?z_tuple ?z_isinstance ?z_int ?z_bool ?z_all ?z_set ?z_sorted ?z_enumerate ?z_min ?z_any ?z_abs ?z_max
    (case c_MOST_LETTERS => k_is); (case c_GREATEST => k_is); (case c_FARTHEST => k_is); (case m_CT => k_is); (case f_CT => (refine' ⟨?_, ?_, ?_, ?_, ?_, ?_, ?_, ?_, ?_⟩ <;> k_is)); (case m_CW => k_is); (case f_CW => (refine' ⟨?_, ?_, ?_, ?_, ?_, ?_, ?_, ?_, ?_⟩ <;> k_is)); (case e_CT => (unfold L2.ExCls; k_exc)); (case e_CW => (unfold L2.ExCls; k_exc)); (case m_LETTERS => k_is); (case d_LETTERS => (refine' L2.tdi2 ?hs ?l ?e1 ?e2 ?ne; (case hs => decide); (case l => k_is); (case e1 => rfl); (case e2 => rfl); (case ne => decide))); (case w0_LETTERS => (refine' L2.ttu4 ?l; (case l => k_is))); (case w1_LETTERS => (refine' L2.ttu4 ?l; (case l => k_is))); (case z_len => k_is); (case z_range => k_is); (case z_list => k_is); (case z_tuple => k_is); (case z_isinstance => k_is); (case z_int => k_is); (case z_bool => k_is); (case z_all => k_is); (case z_set => k_is); (case z_sorted => k_is); (case z_enumerate => k_is); (case z_min => k_is); (case z_any => k_is); (case z_abs => k_is); (case z_max => k_is)
#print axioms PySem.Challenge.cw_squaresheet_k64_whole_bands_moved_holds
