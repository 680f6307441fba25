import PyProof.Rows.All
import Wide.All
import OpenK.AllK
import Wide.FinOn
import Lean
import PyProof.EqAt
import PyProof.EqKinds
import PyProof.TupleCall
import PyProof.Draws
import PyProof.EnumMake
import PyProof.WalksEnum
import PyProof.TupleIter
import PyProof.NeData
import PyProof.WalksMore
import PyProof.Rows.StrJoin2
import PyProof.StrWalks
import PyProof.StrBlockH
import PyProof.StrLawsTight
import PyProof.Rows.StrItems
import OpenK.KOwn
import PyProof.NsDelKeeps
import PyProof.RulesAs
import PyProof.ExcAttrAll.ValueError
import PyProof.ExcInit
import PyProof.InstStoreFacts
import PyProof.FitsInt
import PyProof.ZipIter
import PyProof.SumWalkG
import PyProof.CompUse
import KE.KSortAsk
import KE.KSortTup
import PyProof.StrLawsChain
import PyProof.MinMaxWalk
import PyProof.WalkInts
import PyProof.FitsBits
import KE.KRevIter
import PyProof.SliceStr2
import PyProof.StrLawsIdx
import PyProof.StrOps2
import PyProof.EnumStmt
import PySem.Challenge.RW_squaresheet_k07_texts_refused
set_option Elab.async false
set_option linter.all false
set_option maxRecDepth 100000
namespace L2
open PySem PySem.Spec PyProof.Rows

/-- a key: an int or a str -/
abbrev Key := Sum Int Str
def keyIs : Key → Value → Bool
  | .inl k, v => Value.isInt k v
  | .inr x, v => Value.isStrOf x v
def keyH (w : World) : Key → Int
  | .inl k => hashInt k
  | .inr x => hashStr w x
theorem keyIs_shape : ∀ {k : Key} {v : Value}, keyIs k v = true → (∃ i t, k = Sum.inl i ∧ v = Value.int i t) ∨ (∃ x t, k = Sum.inr x ∧ v = Value.str x t)
  | .inl i, v, h => by
    obtain ⟨t, e⟩ := Value.isInt_shape (k := i) (v := v) h
    exact .inl ⟨i, t, rfl, e⟩
  | .inr x, v, h => by
    obtain ⟨t, e⟩ := Value.isStrOf_shape (x := x) (v := v) h
    exact .inr ⟨x, t, rfl, e⟩
theorem keyIs_int (i : Int) (t : Tok) : keyIs (.inl i) (.int i t) = true := by simp [keyIs, Value.isInt]
theorem keyIs_str (x : Str) (t : Tok) : keyIs (.inr x) (.str x t) = true := by simp [keyIs, Value.isStrOf]
theorem key_ll (a b : Int) : decide ((Sum.inl a : Key) = Sum.inl b) = (a == b) := by
  by_cases e : a = b
  · subst e; simp
  · have h : ¬ (Sum.inl a : Key) = Sum.inl b := fun q => e (Sum.inl.inj q)
    rw [decide_eq_false h]
    exact (beq_eq_false_iff_ne.mpr e).symm
theorem key_rr (a b : Str) : decide ((Sum.inr a : Key) = Sum.inr b) = decide (a = b) := by
  by_cases e : a = b
  · subst e; simp
  · have h : ¬ (Sum.inr a : Key) = Sum.inr b := fun q => e (Sum.inr.inj q)
    rw [decide_eq_false h, decide_eq_false e]
theorem key_lr (a : Int) (b : Str) : decide ((Sum.inl a : Key) = Sum.inr b) = false := decide_eq_false (fun q => nomatch q)
theorem key_rl (a : Str) (b : Int) : decide ((Sum.inr a : Key) = Sum.inl b) = false := decide_eq_false (fun q => nomatch q)

def mixKind (prog : Program) (w : World) : PySem.KeyKind prog w Key where
  is := keyIs
  hash := keyH w
  inj := fun v a b ha hb => by
    rcases keyIs_shape ha with ⟨i, t, rfl, rfl⟩ | ⟨x, t, rfl, rfl⟩
    · rcases keyIs_shape hb with ⟨j, u, rfl, e⟩ | ⟨y, u, rfl, e⟩
      · injection e with e1 _; rw [e1]
      · exact nomatch e
    · rcases keyIs_shape hb with ⟨j, u, rfl, e⟩ | ⟨y, u, rfl, e⟩
      · exact nomatch e
      · injection e with e1 _; rw [e1]
  byValue := fun k v h => by
    rcases keyIs_shape h with ⟨i, t, rfl, rfl⟩ | ⟨x, t, rfl, rfl⟩ <;> rfl
  pyHash := fun hv h => by
    rcases keyIs_shape hv with ⟨i, t, rfl, rfl⟩ | ⟨x, t, rfl, rfl⟩
    · exact wpAny_pyHash_int h
    · exact wpAny_pyHash_str h
  eqBool := fun hu hv h => by
    rcases keyIs_shape hu with ⟨i, t, rfl, rfl⟩ | ⟨x, t, rfl, rfl⟩
    · rcases keyIs_shape hv with ⟨j, u, rfl, rfl⟩ | ⟨y, u, rfl, rfl⟩
      · rw [key_ll] at h; exact wpAny_eqBool_int h
      · rw [key_lr] at h; exact SeqAt.EqAt.int_str i t y u _ _ _ _ h
    · rcases keyIs_shape hv with ⟨j, u, rfl, rfl⟩ | ⟨y, u, rfl, rfl⟩
      · rw [key_rl] at h; exact SeqAt.EqAt.str_int x t j u _ _ _ _ h
      · rw [key_rr] at h; exact wpAny_eqBool_str h
  «strs» := fun k x t v h => by
    rcases keyIs_shape h with ⟨i, u, rfl, e⟩ | ⟨y, u, rfl, e⟩
    · exact nomatch e
    · injection e with e1 _
      subst e1
      cases v <;> rfl

theorem mixKind_int (prog : Program) (w : World) (i : Int) (t : Tok) : (mixKind prog w).is (.inl i) (.int i t) = true := keyIs_int i t
theorem mixKind_str (prog : Program) (w : World) (x : Str) (t : Tok) : (mixKind prog w).is (.inr x) (.str x t) = true := keyIs_str x t
end L2

namespace L2
open PySem PySem.Spec PyProof.Rows

/-- a value, without the heap -/
inductive V where
  | non | bl (b : Bool) | int (i : Int) | str (x : Str) | byt (b : Array UInt8) | flt (b : UInt64) | ref (a : Addr) | ty (n : String)
  deriving DecidableEq

def RelV : V → Value → Prop
  | .non, u => u = Value.none
  | .bl b, u => u = Value.bool b
  | .int i, u => ∃ t, u = Value.int i t
  | .str x, u => ∃ t, u = Value.str x t
  | .byt b, u => ∃ t, u = Value.bytes b t
  | .flt b, u => ∃ t, u = Value.float b t
  | .ref a, u => u = Value.ref a
  | .ty n, u => u = Value.type n

abbrev Vals : List V → List Value → Prop := Paired RelV
theorem Vals.length {xs : List V} {us : List Value} (r : Vals xs us) : xs.length = us.length := Paired.length r
theorem Vals.get : ∀ {xs : List V} {us : List Value} {i : Nat} {x : V}, Vals xs us → xs[i]? = some x → ∃ u, us[i]? = some u ∧ RelV x u
  | _, _, _, _, .nil, e => by simp at e
  | _, _, 0, _, .cons r _, e => by simp at e; subst e; exact ⟨_, rfl, r⟩
  | _, _, i + 1, x, .cons _ t, e => by
    obtain ⟨u, h1, h2⟩ := Vals.get (i := i) (x := x) t (by simpa using e)
    exact ⟨u, by simpa using h1, h2⟩
theorem Vals.set {x : V} {u : Value} (r : RelV x u) : ∀ {xs : List V} {us : List Value} (i : Nat), Vals xs us → Vals (xs.set i x) (us.set i u)
  | _, _, _, .nil => .nil
  | _, _, 0, .cons _ t => .cons r t
  | _, _, i + 1, .cons q t => .cons q (Vals.set r i t)
theorem Vals.append : ∀ {xs ys : List V} {us ws : List Value}, Vals xs us → Vals ys ws → Vals (xs ++ ys) (us ++ ws)
  | _, _, _, _, .nil, s => s
  | _, _, _, _, .cons r t, s => .cons r (Vals.append t s)
theorem Vals.take : ∀ {xs : List V} {us : List Value} (n : Nat), Vals xs us → Vals (xs.take n) (us.take n)
  | _, _, 0, _ => .nil
  | _, _, _ + 1, .nil => .nil
  | _, _, n + 1, .cons r t => .cons r (Vals.take n t)
theorem Vals.drop : ∀ {xs : List V} {us : List Value} (n : Nat), Vals xs us → Vals (xs.drop n) (us.drop n)
  | _, _, 0, r => r
  | _, _, _ + 1, .nil => .nil
  | _, _, n + 1, .cons _ t => Vals.drop n t
def RelO : Option V → Option Value → Prop
  | some v, some u => RelV v u
  | none, none => True
  | _, _ => False
def KV {κ : Type} : List (κ × V) → List (κ × Value) → Prop := Paired fun (p : κ × V) (q : κ × Value) => p.1 = q.1 ∧ RelV p.2 q.2

/-- a key of a dict (00_mix): an int or a text -/
def kV : Key → V
  | .inl i => .int i
  | .inr x => .str x

/-- what stands at a tracked address -/
inductive HO where
  /-- a list -/
  | lst (xs : List V)
  /-- a tuple (never changes) -/
  | tup (xs : List V)
  /-- a dict whose keys are ints and texts; one whose keys are tuples of ints and texts (the empty one is both) -/
  | dK (kvs : List (Key × V)) | dT (kvs : List (List Key × V))
  /-- a set of ints: its members, its size -/
  | set (S : Int → Bool) (n : Nat)
  /-- an instance of the class at C, its dict at dx, its attributes -/
  | ins (C dx : Addr) (fs : List (Str × V))
  /-- the dict of the instance at x -/
  | own (x : Addr)
  /-- the dict of an exception -/
  | xd (fs : List (Str × V))
  /-- a bound method, f of x -/
  | met (f x : Addr)
  /-- a range object lo, lo + 1, .. below hi -/
  | rng (lo hi : Int)
  /-- a thing that is known to the object (the script; a dict while a loop walks it): read, never written while it is so -/
  | frz (o : Obj) (u : HO)
  /-- a code object's table -/
  | tbl (ps : Array Value)
  /-- any other thing, by what is true of its one object (a def of one's own: SetO a S n := HO.ext fun h => ..) -/
  | ext (φ : Heap → Prop)

abbrev Hp := Addr → Option HO
def upd (H : Hp) (a : Addr) (o : HO) : Hp := fun b => if b = a then some o else H b
theorem upd_same {H : Hp} {a : Addr} {o : HO} : upd H a o a = some o := by unfold upd; rw [if_pos rfl]
theorem upd_ne {H : Hp} {a b : Addr} {o : HO} (h : b ≠ a) : upd H a o b = H b := by unfold upd; rw [if_neg h]
/-- two objects of different content stand apart -/
theorem ne_of {H : Hp} {a b : Addr} {o u : HO} (h : H a = some o) (h' : H b = some u) (d : o ≠ u) : a ≠ b := by
  intro e; subst e; rw [h] at h'; exact d (Option.some.inj h')
theorem ne_of_none {H : Hp} {a b : Addr} {o : HO} (h : H a = some o) (h' : H b = none) : a ≠ b := by
  intro e; subst e; rw [h] at h'; cases h'

section
variable (P : Program) (w : World)
/-- the object has no dict -/
def NoD (h : Heap) (a : Addr) : Prop := ∃ o, h.get? a = some o ∧ o.dict = none
def ObjOk (H : Hp) (h : Heap) (a : Addr) : HO → Prop
  | .lst xs => xs.length ≤ sizeLine ∧ ∃ (its : List Value) (n : Nat), Vals xs its ∧ h.get? a = some { cls := .type "list", data := .seq its.toArray n }
  | .tup xs => (xs.length ≤ sizeLine ∧ NoD h a) ∧ ∃ its : List Value, Vals xs its ∧ IsTup h a its.toArray
  | .dK kvs => kvs.length ≤ sizeLine ∧ (a == sysModules) = false ∧ ∃ vs, KV kvs vs ∧ h.DictOf (mixKind P w) a vs
  | .dT kvs => kvs.length ≤ sizeLine ∧ (a == sysModules) = false ∧ ∃ xs : List (List Key × Addr × Value),
      Paired (fun (p : List Key × V) (q : List Key × Addr × Value) => p.1 = q.1 ∧ H q.2.1 = some (.tup (p.1.map kV)) ∧ RelV p.2 q.2.2) kvs xs ∧
      ∃ o es ep, h.get? a = some o ∧ o.ExactDict ∧ o.data = .dict es ep ∧ es.toList = xs.map (entryOfKey (tupleKind (mixKind P w))) ∧ (xs.map (·.1)).Nodup
  | .set S n => h.SetOf (intKind P w) a S n
  | .ins C dx fs => H dx = some (.own a) ∧ fs.length ≤ 1000 ∧ dx ≠ a ∧ h.get? a = some (PySem.W.instObj C dx) ∧
      ∃ mA, h.Ns1 dx mA ∧ (∀ f, RelO (fs.lookup f) (mA f)) ∧ PySem.Within mA (fs.map (·.1))
  | .own _ => ∃ o, h.get? a = some o
  | .xd fs => ∃ mA, h.Ns1 a mA ∧ ∀ f, RelO (fs.lookup f) (mA f)
  | .rng lo hi => ∃ t u v, h.get? a = some { cls := .type "range", data := .fields #[.int lo t, .int hi u, .int 1 v] }
  | .frz o u => h.get? a = some o ∧ ObjOk H h a u
  | .tbl ps => h.get? a = some { cls := .none, data := .fields ps }
  | .met f x => h.get? a = some (PySem.W.methodObj (.ref f) (.ref x))
  | .ext φ => φ h ∧ (∃ o, h.get? a = some o) ∧ ∀ h1 h2 : Heap, φ h1 → (∀ o, h1.get? a = some o → h2.get? a = some o) → φ h2
/-- the abstract heap is held -/
def HOk (H : Hp) (h : Heap) : Prop := ∀ a o, H a = some o → ObjOk P w H h a o
end

section
variable {P : Program} {w : World} {H H' : Hp} {h h' : Heap} {a : Addr} {o : HO}
theorem ObjOk.lt (x : ObjOk P w H h a o) : a < h.objs.size := by
  cases o with
  | lst xs => obtain ⟨_, _, _, _, e⟩ := x; exact Heap.lt_size e
  | tup xs => obtain ⟨_, _, _, p⟩ := x; exact p.lt
  | dK kvs => obtain ⟨_, _, _, _, o, _, _, e, _⟩ := x; exact Heap.lt_size e
  | dT kvs => obtain ⟨_, _, _, _, o, _, _, e, _⟩ := x; exact Heap.lt_size e
  | set S n => obtain ⟨o, _, _, _, e, _⟩ := x; exact Heap.lt_size e
  | ins C dx fs => obtain ⟨_, _, _, e, _⟩ := x; exact Heap.lt_size e
  | own y => obtain ⟨_, e⟩ := x; exact Heap.lt_size e
  | xd fs => obtain ⟨_, ⟨_, _, _, e, _⟩, _⟩ := x; exact Heap.lt_size e
  | rng lo hi => obtain ⟨_, _, _, e⟩ := x; exact Heap.lt_size e
  | frz ob u => obtain ⟨e, _⟩ := x; exact Heap.lt_size e
  | tbl ps => exact Heap.lt_size (show h.get? a = some _ from x)
  | met f y => exact Heap.lt_size (show h.get? a = some _ from x)
  | ext φ => obtain ⟨_, ⟨_, e⟩, _⟩ := x; exact Heap.lt_size e
theorem Paired.mapP {α β : Type} {F G : α → β → Prop} : ∀ {l₁ : List α} {l₂ : List β}, Paired F l₁ l₂ → (∀ a b, F a b → G a b) → Paired G l₁ l₂
  | _, _, .nil, _ => .nil
  | _, _, .cons r t, f => .cons (f _ _ r) (Paired.mapP t f)
/-- what an object's description leans on: its own object, its own dict, the tuples -/
theorem ObjOk.stay (x : ObjOk P w H h a o) (k : ∀ b u, (b = a ∨ H b = some (.own a)) → h.get? b = some u → h'.get? b = some u)
    (ho : ∀ b, H b = some (.own a) → H' b = some (.own a)) (ht : ∀ b xs, H b = some (.tup xs) → H' b = some (.tup xs)) : ObjOk P w H' h' a o := by
  induction o with
  | lst xs => obtain ⟨z, its, n, r, e⟩ := x; exact ⟨z, its, n, r, k _ _ (.inl rfl) e⟩
  | tup xs => obtain ⟨z, its, r, ob, e, c⟩ := x; exact ⟨⟨z.1, z.2.imp fun _ q => ⟨k _ _ (.inl rfl) q.1, q.2⟩⟩, its, r, ob, k _ _ (.inl rfl) e, c⟩
  | dK kvs => obtain ⟨z, y, vs, r, ob, es, ep, e, c⟩ := x; exact ⟨z, y, vs, r, ob, es, ep, k _ _ (.inl rfl) e, c⟩
  | dT kvs =>
    obtain ⟨z, y, xs, r, ob, es, ep, e, c⟩ := x
    exact ⟨z, y, xs, Paired.mapP r fun p q z => ⟨z.1, ht _ _ z.2.1, z.2.2⟩, ob, es, ep, k _ _ (.inl rfl) e, c⟩
  | set S n => obtain ⟨ob, es, ep, t, e, c⟩ := x; exact ⟨ob, es, ep, t, k _ _ (.inl rfl) e, c⟩
  | ins C dx fs =>
    obtain ⟨d, z, ne, e, mA, ⟨od, es, ep, e2, c⟩, r⟩ := x
    exact ⟨ho _ d, z, ne, k _ _ (.inl rfl) e, mA, ⟨od, es, ep, k _ _ (.inr d) e2, c⟩, r⟩
  | own y => obtain ⟨ob, e⟩ := x; exact ⟨ob, k _ _ (.inl rfl) e⟩
  | xd fs => obtain ⟨mA, ⟨od, es, ep, e, c⟩, r⟩ := x; exact ⟨mA, ⟨od, es, ep, k _ _ (.inl rfl) e, c⟩, r⟩
  | rng lo hi => obtain ⟨t, u, v, e⟩ := x; exact ⟨t, u, v, k _ _ (.inl rfl) e⟩
  | frz ob u ih => obtain ⟨e, q⟩ := x; exact ⟨k _ _ (.inl rfl) e, ih q⟩
  | tbl ps =>
    have e : h.get? a = some { cls := .none, data := .fields ps } := x
    show h'.get? a = some { cls := .none, data := .fields ps }
    exact k a _ (.inl rfl) e
  | met f y =>
    have e : h.get? a = some (PySem.W.methodObj (.ref f) (.ref y)) := x
    show h'.get? a = some (PySem.W.methodObj (.ref f) (.ref y))
    exact k a _ (.inl rfl) e
  | ext φ => obtain ⟨p, ⟨o, e⟩, st⟩ := x; exact ⟨st _ _ p fun o q => k _ _ (.inl rfl) q, ⟨o, k _ _ (.inl rfl) e⟩, st⟩
theorem HOk.lt (x : HOk P w H h) (e : H a = some o) : a < h.objs.size := (x a o e).lt
theorem HOk.fresh (x : HOk P w H h) (e : h.objs.size ≤ a) : H a = none := by
  cases q : H a with
  | none => rfl
  | some u => exact absurd (Nat.lt_of_lt_of_le (x.lt q) e) (Nat.lt_irrefl _)
/-- every object of the heap is kept -/
theorem HOk.kept (x : HOk P w H h) (k : ∀ b u, h.get? b = some u → h'.get? b = some u) : HOk P w H h' := fun a o e =>
  (x a o e).stay (fun b u _ q => k b u q) (fun _ q => q) fun _ _ q => q
/-- a new object is laid and tracked -/
theorem HOk.laid (x : HOk P w H h) (k : ∀ b u, h.get? b = some u → h'.get? b = some u) (hp : h.objs.size ≤ a) (new : ObjOk P w (upd H a o) h' a o) : HOk P w (upd H a o) h' := fun b u e => by
  have hn := x.fresh hp
  by_cases hb : b = a
  · subst hb; rw [upd_same] at e; cases e; exact new
  · rw [upd_ne hb] at e
    exact (x b u e).stay (fun c v _ q => k c v q) (fun c q => by rw [upd_ne (ne_of_none q hn)]; exact q) fun c xs q => by rw [upd_ne (ne_of_none q hn)]; exact q
end

/-- what may be read as u: it is u, or a known u -/
def Rd (H : Hp) (a : Addr) (u : HO) : Prop := H a = some u ∨ ∃ o, H a = some (.frz o u)
theorem Rd.ok {P : Program} {w : World} {H : Hp} {h : Heap} {a : Addr} {u : HO} (r : Rd H a u) (x : HOk P w H h) : ObjOk P w H h a u := by
  rcases r with r | ⟨o, r⟩
  · exact x a u r
  · obtain ⟨_, q⟩ := x a _ r
    exact q
/-- what may be written -/
def Mut : Option HO → Prop
  | some (.lst _) => True
  | some (.dK _) => True
  | some (.dT _) => True
  | some (.set _ _) => True
  | some (.ins _ _ _) => True
  | some (.ext _) => True
  | _ => False
section
variable {P : Program} {w : World} {H : Hp} {h h' : Heap} {x e : Addr} {o' : HO}
/-- the object at e is changed: x itself, or the dict of the instance x -/
theorem HOk.write (ok : HOk P w H h) (mu : Mut (H x)) (he : e = x ∨ H e = some (.own x)) (k : ∀ b u, b ≠ e → h.get? b = some u → h'.get? b = some u) (heo : ∃ u, h'.get? e = some u)
    (new : ObjOk P w (upd H x o') h' x o') : HOk P w (upd H x o') h' := fun b u q => by
  have nown : ∀ c y, H c = some (.own y) → c ≠ x := fun c y r z => by subst z; rw [r] at mu; exact mu
  have ntup : ∀ c xs, H c = some (.tup xs) → c ≠ x := fun c xs r z => by subst z; rw [r] at mu; exact mu
  by_cases hb : b = x
  · subst hb; rw [upd_same] at q; cases q; exact new
  · rw [upd_ne hb] at q
    by_cases hbe : b = e
    · have q' : H b = some (.own x) := by
        rcases he with z | z
        · exact absurd (hbe.trans z) hb
        · rw [hbe]; exact z
      rw [q] at q'; cases q'
      obtain ⟨v, hv⟩ := heo
      exact ⟨v, by rw [hbe]; exact hv⟩
    · refine (ok b u q).stay (fun c v hc r => k c v ?_ r) (fun c r => by rw [upd_ne (nown c b r)]; exact r) fun c xs r => by rw [upd_ne (ntup c xs r)]; exact r
      rcases hc with rfl | hc
      · exact hbe
      · rintro rfl
        rcases he with z | z
        · exact nown c b hc z
        · rw [hc] at z; cases z; exact hb rfl
end

structure Un (fs ex : List Addr) (H H' : Hp) (h h' : Heap) : Prop where
  keep : ∀ b o, h.get? b = some o → H b = none → b ∉ fs → b ∉ ex → h'.get? b = some o
  slot : ∀ b o, h.get? b = some o → H b = none → b ∈ fs → b ∉ ex → ∃ sl, h'.get? b = some { o with slots := sl }
  free : ∀ b o, h.get? b = some o → H b = none → b ∉ ex → H' b = none
  there : ∀ b o, h.get? b = some o → b ∉ ex → ∃ o', h'.get? b = some o'
  tups : ∀ b xs, H b = some (.tup xs) → H' b = some (.tup xs)
  frzs : ∀ b o u, H b = some (.frz o u) → H' b = some (.frz o u)
  tbls : ∀ b ps, H b = some (.tbl ps) → ∃ more, H' b = some (.tbl (ps ++ more))
section
variable {fs fs' ex ex' : List Addr} {H H1 H2 : Hp} {h h1 h2 h' : Heap} {a x e : Addr} {o : HO}
theorem Un.any (u : Un fs ex H H1 h h1) {b : Addr} {ob : Obj} (q : h.get? b = some ob) (n : H b = none) (hx : b ∉ ex) : ∃ sl, h1.get? b = some { ob with slots := sl } := by
  by_cases hb : b ∈ fs
  · exact u.slot b ob q n hb hx
  · exact ⟨ob.slots, u.keep b ob q n hb hx⟩
theorem Un.kept (k : ∀ b u, h.get? b = some u → h'.get? b = some u) : Un fs ex H H h h' :=
  ⟨fun b ob q _ _ _ => k b ob q, fun b ob q _ _ _ => ⟨ob.slots, k b ob q⟩, fun _ _ _ n _ => n, fun b ob q _ => ⟨ob, k b ob q⟩, fun _ _ q => q, fun _ _ _ q => q, fun _ ps q => ⟨#[], by rw [q]; simp⟩⟩
theorem Un.refl : Un fs ex H H h h := Un.kept fun _ _ q => q
theorem Un.laid (k : ∀ b u, h.get? b = some u → h'.get? b = some u) (hp : h.objs.size ≤ a) (hn : H a = none) : Un fs ex H (upd H a o) h h' where
  keep := fun b u q _ _ _ => k b u q
  slot := fun b u q _ _ _ => ⟨u.slots, k b u q⟩
  free := fun b u q n _ => by rw [upd_ne (Nat.ne_of_lt (Nat.lt_of_lt_of_le (Heap.lt_size q) hp))]; exact n
  there := fun b u q _ => ⟨u, k b u q⟩
  tups := fun b xs q => by rw [upd_ne (ne_of_none q hn)]; exact q
  frzs := fun b u xs q => by rw [upd_ne (ne_of_none q hn)]; exact q
  tbls := fun b ps q => ⟨#[], by rw [upd_ne (ne_of_none q hn), q]; simp⟩
theorem Un.write (mu : Mut (H x)) (he : e = x ∨ H e = some (.own x)) (k : ∀ b u, b ≠ e → h.get? b = some u → h'.get? b = some u) (heo : ∃ u, h'.get? e = some u) : Un fs ex H (upd H x o) h h' := by
  have hx : ∀ b, H b = none → b ≠ x := fun b n z => by subst z; rw [n] at mu; exact mu
  have hb : ∀ b, H b = none → b ≠ e := fun b n z => by
    subst z
    rcases he with r | r
    · exact hx b n r
    · rw [n] at r; cases r
  have hm : ∀ b u, H b = some u → ¬ Mut (some u) → b ≠ x := fun b u q nm z => by subst z; rw [q] at mu; exact nm mu
  refine ⟨fun b u q n _ _ => k b u (hb b n) q, fun b u q n _ _ => ⟨u.slots, k b u (hb b n) q⟩, fun b u q n _ => by rw [upd_ne (hx b n)]; exact n, fun b u q _ => ?_,
    fun b xs q => by rw [upd_ne (hm b _ q fun z => z)]; exact q, fun b u xs q => by rw [upd_ne (hm b _ q fun z => z)]; exact q, fun b ps q => ⟨#[], by rw [upd_ne (hm b _ q fun z => z), q]; simp⟩⟩
  by_cases hbe : b = e
  · subst hbe; exact heo
  · exact ⟨u, k b u hbe q⟩
end

def trk (h : Heap) (H : Hp) : List Addr := (List.range h.objs.size).filter fun a => (H a).isSome
def hidT (h : Heap) (H : Hp) : Heap := PySem.W.hideAll h (trk h H)
theorem hidT_size (h : Heap) (H : Hp) : (hidT h H).objs.size = h.objs.size := PySem.W.hideAll_size _ _
theorem hidT_get {h : Heap} {H : Hp} {b : Addr} {o : Obj} (e : h.get? b = some o) (n : H b = none) : (hidT h H).get? b = some o :=
  PySem.W.hideAll_get _ e fun hm => by
    have q : (H b).isSome = true := (List.mem_filter.mp hm).2
    rw [n] at q; simp at q
theorem of_hidT {h : Heap} {H : Hp} {b : Addr} {o : Obj} (e : (hidT h H).get? b = some o) : h.get? b = some o ∧ H b = none := by
  have e' : h.get? b = some o := PySem.W.of_hideAll (trk h H) e
  refine ⟨e', ?_⟩
  cases q : H b with
  | none => rfl
  | some x =>
    have hm : b ∈ trk h H := List.mem_filter.mpr ⟨List.mem_range.mpr (Heap.lt_size e'), by simp [q]⟩
    have z : (hidT h H).get? b = none := PySem.W.hideAll_none (trk h H) hm
    rw [z] at e; cases e

end L2

namespace L2
open PySem PySem.Spec PyProof.Rows

/-- the module's facts, over the base: the heap at the law's entry without what is tracked there -/
structure Mod (K : PySem.W.Frag) (mg : Str → Option Value) (base : Heap) : Prop where
  kin : K.In base
  glob : base.Ns mainGlobals mg
  blt : ∃ mb, base.Ns builtinsNs mb ∧ ∀ x : Str, x ≠ "__name__" → mb x = bootBuiltins x
  nolimit : base.NoLimit

/-- the context: a def's body (or a comprehension's block) running. base: fixed through the whole law; s₀, H₀: the entry; outer: the frames whose slots others may change (a def's callers); stack: all frames that run;
   ex: iterators that were made ahead of the entry and are walked here (a comprehension's); fn: the names whose cells were made at the entry (a def: all; a comprehension's block: its own); calm: not within an except suite; pn: pins that every state bears; xe: what is wanted of an exception that leaves the code -/
structure Cx where
  prog : Program
  w : World
  K : PySem.W.Frag
  mg : Str → Option Value
  base : Heap
  A : Around
  N : List Str
  s₀ : Shared
  H₀ : Hp
  env : Env
  outer : List Env
  stack : List Env
  ex : List Addr
  fn : Str → Bool
  calm : Bool
  pn : List (Addr × Obj)
  xe : Value → Shared → Prop
/-- the callers' frames -/
def frs (l : List Env) : List Addr := l.filterMap (·.frame)
abbrev Cx.fs (X : Cx) : List Addr := frs X.outer

def Vis (sc : Scope) (x : Str) : Prop := sc.names.lookup x = some .local ∨ sc.names.lookup x = some .cell ∨ sc.names.lookup x = some .free
def Loc (sc : Scope) (x : Str) : Prop := sc.names.lookup x = some .local ∨ sc.names.lookup x = some .cell
def Look (env : Env) (h : Heap) (m : Str → Option Value) (x : Str) (u : Value) : Prop :=
  (env.kindOf x = some .local ∧ m x = some u) ∨ ((env.kindOf x = some .cell ∨ env.kindOf x = some .free) ∧ ∃ c, env.cells.lookup x = some c ∧ h.IsCell c (some u))

structure Cx.Ok (X : Cx) : Prop where
  mod : Mod X.K X.mg X.base
  kind : X.env.scope.kind = .function
  glob : X.env.globals = mainGlobals
  blt : X.env.builtins = builtinsNs
  above : X.s₀.heap.objs.size ≤ X.env.locals
  inj : ∀ x y c, X.env.cells.lookup x = some c → X.env.cells.lookup y = some c → x = y
  has : ∀ x, (X.env.kindOf x = some .cell ∨ X.env.kindOf x = some .free) → ∃ c, X.env.cells.lookup x = some c
  cab : ∀ x c, X.fn x = true → X.env.cells.lookup x = some c → X.s₀.heap.objs.size ≤ c
  hd : X.calm = true → X.A.handled = none
  frames : X.A.frames = some X.stack
  stk : X.stack = X.outer ∨ (X.stack = X.env :: X.outer ∧ X.env.frame = some X.env.locals)
  exf : ∀ b ∈ X.ex, b ≠ X.env.locals ∧ ∀ x c, X.env.cells.lookup x = some c → c ≠ b
  bs : ∀ b o, X.base.get? b = some o → X.s₀.heap.get? b = some o ∧ X.H₀ b = none
  bsz : X.base.objs.size ≤ X.s₀.heap.objs.size
  noex : ∀ b o, X.base.get? b = some o → b ∉ X.ex
  exfs : ∀ b ∈ X.ex, b ∉ X.fs
  funs : X.s₀.heap.FunFrames X.base X.outer
  frf : ∀ b ∈ X.fs, X.H₀ b = none

structure Inv (X : Cx) (pins : List (Addr × Obj)) (σ : List (Option V)) (H : Hp) (s : Shared) : Prop where
  ok : X.Ok
  os : s.os = X.s₀.os
  bare : AllBare s.gens
  base : Un X.fs X.ex X.H₀ H X.s₀.heap s.heap
  loc : ∃ m, s.heap.Ns X.env.locals m ∧ ∀ (i : Nat) (x : Str) (v : V), X.N[i]? = some x → σ[i]? = some (some v) → Vis X.env.scope x → ∃ u, RelV v u ∧ Look X.env s.heap m x u
  cell : ∀ x c, X.env.cells.lookup x = some c → ∃ v, s.heap.IsCell c v
  free : H X.env.locals = none
  freeC : ∀ x c, X.env.cells.lookup x = some c → H c = none
  pin : ∀ p ∈ X.pn ++ pins, s.heap.get? p.1 = some p.2 ∧ H p.1 = none ∧ p.1 ≠ X.env.locals ∧ p.1 ∉ X.fs ∧ ∀ v, p.2.data ≠ .cell v
  hok : HOk X.prog X.w H s.heap
  len : σ.length = X.N.length

section
variable {X : Cx} {pins : List (Addr × Obj)} {σ : List (Option V)} {H H' : Hp} {s : Shared} {h' : Heap}

theorem Cx.Ok.nofr (ok : X.Ok) {b : Addr} {o : Obj} (e : X.base.get? b = some o) : b ∉ X.fs := fun hb => by
  have := (ok.funs.mem hb).1
  rw [e] at this; cases this
theorem Inv.bs (I : Inv X pins σ H s) : ∀ b o, X.base.get? b = some o → s.heap.get? b = some o ∧ H b = none := fun b o e =>
  ⟨I.base.keep b o (I.ok.bs b o e).1 (I.ok.bs b o e).2 (I.ok.nofr e) (I.ok.noex b o e), I.base.free b o (I.ok.bs b o e).1 (I.ok.bs b o e).2 (I.ok.noex b o e)⟩
theorem Inv.bk (I : Inv X pins σ H s) : ∀ b o, X.base.get? b = some o → s.heap.get? b = some o := fun b o e => (I.bs b o e).1
theorem Inv.mod (I : Inv X pins σ H s) : Mod X.K X.mg X.base := I.ok.mod
theorem Inv.kIn (I : Inv X pins σ H s) : X.K.In s.heap := I.ok.mod.kin.keeps I.bk
theorem Inv.lt (I : Inv X pins σ H s) : X.env.locals < s.heap.objs.size := let ⟨_, hn, _⟩ := I.loc; hn.lt
theorem Inv.sz (I : Inv X pins σ H s) : X.s₀.heap.objs.size ≤ s.heap.objs.size := Nat.le_trans I.ok.above (Nat.le_of_lt I.lt)
theorem Inv.nofs (I : Inv X pins σ H s) {a : Addr} (h : s.heap.objs.size ≤ a) : a ∉ X.fs := fun hb => by
  obtain ⟨_, o, ho, _⟩ := I.ok.funs.mem hb
  exact absurd (Nat.lt_of_lt_of_le (Heap.lt_size ho) (Nat.le_trans I.sz h)) (Nat.lt_irrefl _)
theorem Inv.cne (I : Inv X pins σ H s) : ∀ x c, X.env.cells.lookup x = some c → c ≠ X.env.locals := fun x c e z => by
  obtain ⟨v, o, ho, hd⟩ := I.cell x c e
  obtain ⟨m, ⟨o', es, ep, ho', hd', _⟩, _⟩ := I.loc
  rw [z, ho'] at ho; cases ho; rw [hd'] at hd; cases hd
theorem Inv.funs (I : Inv X pins σ H s) : s.heap.FunFrames X.base X.outer := by
  have all : ∀ (l : List Env), (∀ b ∈ frs l, b ∈ X.fs) → X.s₀.heap.FunFrames X.base l → s.heap.FunFrames X.base l := by
    intro l
    induction l with
    | nil => intro _ _; trivial
    | cons env r ih =>
      intro hs hl
      obtain ⟨hk, ⟨L, o, hf, hn, ho, hd⟩, hr⟩ := hl
      have hL : L ∈ X.fs := hs L (by unfold frs; rw [List.filterMap_cons, hf]; exact List.mem_cons_self)
      obtain ⟨sl, e⟩ := I.base.slot L o ho (I.ok.frf L hL) hL fun z => I.ok.exfs L z hL
      exact ⟨hk, ⟨L, _, hf, hn, e, hd⟩, ih (fun b hb => hs b (by unfold frs; rw [List.filterMap_cons, hf]; exact List.mem_cons_of_mem _ hb)) hr⟩
  exact all X.outer (fun _ hb => hb) I.ok.funs

/-- the frames that run, for a call -/
theorem Inv.stack (I : Inv X pins σ H s) : s.heap.FunFrames X.base X.stack := by
  rcases I.ok.stk with e | ⟨e, hf⟩
  · rw [e]; exact I.funs
  · rw [e]
    obtain ⟨m, hn, _⟩ := I.loc
    refine .cons (by rw [I.ok.kind]; decide) hf hn ?_ I.funs
    exact Heap.get?_none_of_le (Nat.le_trans I.ok.bsz I.ok.above)
theorem Inv.stkSub (I : Inv X pins σ H s) : ∀ b ∈ frs X.stack, b ∈ X.env.locals :: X.fs := fun b hb => by
  rcases I.ok.stk with e | ⟨e, hf⟩
  · rw [e] at hb; exact List.mem_cons_of_mem _ hb
  · rw [e] at hb
    unfold frs at hb
    rw [List.filterMap_cons, hf] at hb
    exact hb
theorem Inv.stkFree (I : Inv X pins σ H s) : ∀ b ∈ frs X.stack, H b = none := fun b hb => by
  rcases List.mem_cons.mp (I.stkSub b hb) with e | hb
  · rw [e]; exact I.free
  · obtain ⟨_, o, ho, _⟩ := I.ok.funs.mem hb
    exact I.base.free b o ho (I.ok.frf b hb) fun z => I.ok.exfs b z hb

/-- THE STEP: the untracked objects but the frame and the records at ch are kept (the callers' frames up to slots), the frame's map is kept, the new abstract heap is held -/
theorem Inv.step {g' : Array GenState} {t' : Nat} {d' : Drawn} {ch : List Addr} (I : Inv X pins σ H s)
    (hch : ∀ b ∈ ch, (b ∈ X.ex ∨ X.s₀.heap.objs.size ≤ b) ∧ b ≠ X.env.locals ∧ (∀ x c, X.env.cells.lookup x = some c → c ≠ b) ∧ ∀ p ∈ X.pn ++ pins, p.1 ≠ b)
    (keep : ∀ b o, b ≠ X.env.locals → b ∉ X.fs → b ∉ ch → s.heap.get? b = some o → H b = none → h'.get? b = some o)
    (slot : ∀ b o, b ≠ X.env.locals → b ∈ X.fs → b ∉ ch → s.heap.get? b = some o → H b = none → ∃ sl, h'.get? b = some { o with slots := sl }) (free : ∀ b o, b ∉ ch → s.heap.get? b = some o → H b = none → H' b = none)
    (there : ∀ b o, b ∉ ch → s.heap.get? b = some o → ∃ o', h'.get? b = some o')
    (tups : ∀ b xs, H b = some (.tup xs) → H' b = some (.tup xs)) (frzs : ∀ b o u, H b = some (.frz o u) → H' b = some (.frz o u)) (tbls : ∀ b ps, H b = some (.tbl ps) → ∃ more, H' b = some (.tbl (ps ++ more)))
    (ns : ∀ m, s.heap.Ns X.env.locals m → h'.Ns X.env.locals m) (hok : HOk X.prog X.w H' h') (hg : AllBare g') :
    Inv X pins σ H' { s with heap := h', gens := g', drawn := d', toks := t' } := by
  have neL : ∀ b o, X.s₀.heap.get? b = some o → b ≠ X.env.locals := fun b o e => Nat.ne_of_lt (Nat.lt_of_lt_of_le (Heap.lt_size e) I.ok.above)
  have neC : ∀ b o, X.s₀.heap.get? b = some o → b ∉ X.ex → b ∉ ch := fun b o e hx hb => by
    rcases (hch b hb).1 with z | z
    · exact hx z
    · exact absurd (Nat.lt_of_lt_of_le (Heap.lt_size e) z) (Nat.lt_irrefl _)
  have cellK : ∀ x c, X.env.cells.lookup x = some c → ∀ v, s.heap.IsCell c v → h'.IsCell c v := fun x c e v ⟨o, ho, hd⟩ => by
    have nch : c ∉ ch := fun z => (hch c z).2.2.1 x c e rfl
    by_cases hc : c ∈ X.fs
    · obtain ⟨sl, q⟩ := slot c o (I.cne x c e) hc nch ho (I.freeC x c e)
      exact ⟨_, q, hd⟩
    · exact ⟨o, keep c o (I.cne x c e) hc nch ho (I.freeC x c e), hd⟩
  refine ⟨I.ok, I.os, hg, ⟨fun b o e n hb hx => ?_, fun b o e n hb hx => ?_, fun b o e n hx => ?_, fun b o e hx => ?_, fun b xs e => tups b xs (I.base.tups b xs e), fun b o xs e => frzs b o xs (I.base.frzs b o xs e), fun b ps e => ?_⟩, ?_, fun x c e => ?_, ?_, fun x c e => ?_, fun p hp => ?_, hok, I.len⟩
  · exact keep b o (neL b o e) hb (neC b o e hx) (I.base.keep b o e n hb hx) (I.base.free b o e n hx)
  · obtain ⟨sl, e1⟩ := I.base.slot b o e n hb hx
    obtain ⟨sl', e2⟩ := slot b _ (neL b o e) hb (neC b o e hx) e1 (I.base.free b o e n hx)
    exact ⟨sl', e2⟩
  · obtain ⟨o', e1⟩ := I.base.there b o e hx
    exact free b o' (neC b o e hx) e1 (I.base.free b o e n hx)
  · obtain ⟨o', e1⟩ := I.base.there b o e hx
    exact there b o' (neC b o e hx) e1
  · obtain ⟨m1, e1⟩ := I.base.tbls b ps e
    obtain ⟨m2, e2⟩ := tbls b _ e1
    exact ⟨m1 ++ m2, by rw [e2, Array.append_assoc]⟩
  · obtain ⟨m, hn, hl⟩ := I.loc
    refine ⟨m, ns m hn, fun i x v e1 e2 e3 => ?_⟩
    obtain ⟨u, r, l⟩ := hl i x v e1 e2 e3
    refine ⟨u, r, ?_⟩
    rcases l with l | ⟨k, c, e, z⟩
    · exact .inl l
    · exact .inr ⟨k, c, e, cellK x c e _ z⟩
  · obtain ⟨v, z⟩ := I.cell x c e
    exact ⟨v, cellK x c e v z⟩
  · obtain ⟨m, ⟨o, _, _, ho, _⟩, _⟩ := I.loc
    exact free _ o (fun z => (hch _ z).2.1 rfl) ho I.free
  · obtain ⟨v, o, ho, hd⟩ := I.cell x c e
    exact free c o (fun z => (hch c z).2.2.1 x c e rfl) ho (I.freeC x c e)
  · obtain ⟨e, n, ne, nf, d⟩ := I.pin p hp
    have nch : p.1 ∉ ch := fun z => (hch p.1 z).2.2.2 p hp rfl
    exact ⟨keep p.1 p.2 ne nf nch e n, free p.1 p.2 nch e n, ne, nf, d⟩
/-- .. where the frame's own object is kept too -/
theorem Inv.un {t' : Nat} (I : Inv X pins σ H s) (u : Un X.fs [] H H' s.heap h') (hok : HOk X.prog X.w H' h') : Inv X pins σ H' { s with heap := h', toks := t' } := by
  obtain ⟨m, ⟨o, es, ep, ho, r⟩, _⟩ := id I.loc
  obtain ⟨sl, hL⟩ := u.any ho I.free (by simp)
  exact I.step (g' := s.gens) (d' := s.drawn) (ch := []) (fun _ z => nomatch z) (fun b o _ hb _ e n => u.keep b o e n hb (by simp)) (fun b o _ hb _ e n => u.slot b o e n hb (by simp)) (fun b o _ e n => u.free b o e n (by simp)) (fun b o _ e => u.there b o e (by simp)) u.tups u.frzs u.tbls (fun m' hm => by
    obtain ⟨o', es', ep', ho', r'⟩ := hm
    rw [ho] at ho'; cases ho'
    exact ⟨_, es', ep', hL, r'⟩) hok I.bare
/-- behind a call (or a comprehension's block): the slots of this frame may have changed too, the records at ch may have turned -/
theorem Inv.call {g' : Array GenState} {t' : Nat} {d' : Drawn} {ch : List Addr} (I : Inv X pins σ H s) (u : Un (frs X.stack) ch H H' s.heap h') (hok : HOk X.prog X.w H' h') (hg : AllBare g')
    (hch : ∀ b ∈ ch, (b ∈ X.ex ∨ X.s₀.heap.objs.size ≤ b) ∧ b ≠ X.env.locals ∧ (∀ x c, X.env.cells.lookup x = some c → c ≠ b) ∧ ∀ p ∈ X.pn ++ pins, p.1 ≠ b) :
    Inv X pins σ H' { s with heap := h', gens := g', drawn := d', toks := t' } := by
  obtain ⟨m, ⟨o, es, ep, ho, r⟩, _⟩ := id I.loc
  obtain ⟨sl, hL⟩ := u.any ho I.free fun z => (hch _ z).2.1 rfl
  exact I.step (ch := ch) hch (fun b o hL hb hc e n => u.keep b o e n (fun z => (List.mem_cons.mp (I.stkSub b z)).elim hL hb) hc) (fun b o _ _ hc e n => u.any e n hc) (fun b o hc e n => u.free b o e n hc) (fun b o hc e => u.there b o e hc) u.tups u.frzs u.tbls (fun m' hm => by
    obtain ⟨o', es', ep', ho', r'⟩ := hm
    rw [ho] at ho'; cases ho'
    exact ⟨_, es', ep', hL, r'⟩) hok hg
/-- an untracked record of ours (an iterator) has turned -/
theorem Inv.turned {t' : Nat} {it : Addr} (I : Inv X pins σ H s) (k : ∀ b o, b ≠ it → s.heap.get? b = some o → h'.get? b = some o) (hn : H it = none) (hL : it ≠ X.env.locals)
    (h1 : it ∈ X.ex ∨ X.s₀.heap.objs.size ≤ it) (h2 : ∀ x c, X.env.cells.lookup x = some c → c ≠ it) (h3 : ∀ p ∈ X.pn ++ pins, p.1 ≠ it) : Inv X pins σ H { s with heap := h', toks := t' } := by
  have nit : ∀ b u, H b = some u → b ≠ it := fun b u e z => by rw [z, hn] at e; cases e
  refine I.step (g' := s.gens) (d' := s.drawn) (ch := [it]) (fun b hb => ?_) (fun b o _ _ hc e _ => k b o (fun z => hc (by simp [z])) e) (fun b o _ _ hc e _ => ⟨o.slots, k b o (fun z => hc (by simp [z])) e⟩) (fun _ _ _ _ n => n)
    (fun b o hc e => ⟨o, k b o (fun z => hc (by simp [z])) e⟩) (fun _ _ e => e) (fun _ _ _ e => e) (fun b ps e => ⟨#[], by rw [e]; simp⟩) (fun m hm => ?_) (fun b u e => ?_) I.bare
  · have e : b = it := by simpa using hb
    subst e
    exact ⟨h1, hL, h2, h3⟩
  · obtain ⟨o, es, ep, ho, r⟩ := hm
    exact ⟨o, es, ep, k _ o (Ne.symm hL) ho, r⟩
  · refine (I.hok b u e).stay (fun c v hc q => k c v ?_ q) (fun _ q => q) fun _ _ q => q
    rcases hc with z | z
    · rw [z]; exact nit b u e
    · exact nit c _ z
theorem Inv.tok (I : Inv X pins σ H s) (t : Nat) : Inv X pins σ H { s with toks := t } := I.un (h' := s.heap) (t' := t) Un.refl I.hok
/-- all objects kept -/
theorem Inv.kept {t' : Nat} (I : Inv X pins σ H s) (k : ∀ b u, s.heap.get? b = some u → h'.get? b = some u) : Inv X pins σ H { s with heap := h', toks := t' } := I.un (Un.kept k) (I.hok.kept k)
/-- a new object laid and tracked -/
theorem Inv.laid {a : Addr} {o : HO} {t' : Nat} (I : Inv X pins σ H s) (k : ∀ b u, s.heap.get? b = some u → h'.get? b = some u) (hp : s.heap.objs.size ≤ a) (new : ObjOk X.prog X.w (upd H a o) h' a o) :
    Inv X pins σ (upd H a o) { s with heap := h', toks := t' } := I.un (Un.laid k hp (I.hok.fresh hp)) (I.hok.laid k hp new)
/-- an object written -/
theorem Inv.write {x e : Addr} {o : HO} {t' : Nat} (I : Inv X pins σ H s) (mu : Mut (H x)) (he : e = x ∨ H e = some (.own x)) (k : ∀ b u, b ≠ e → s.heap.get? b = some u → h'.get? b = some u) (heo : ∃ u, h'.get? e = some u)
    (new : ObjOk X.prog X.w (upd H x o) h' x o) : Inv X pins σ (upd H x o) { s with heap := h', toks := t' } := I.un (Un.write mu he k heo) (I.hok.write mu he k heo new)
theorem Inv.pins_of {pins' : List (Addr × Obj)} (I : Inv X pins σ H s) (h : ∀ p ∈ pins', s.heap.get? p.1 = some p.2 ∧ H p.1 = none ∧ p.1 ≠ X.env.locals ∧ p.1 ∉ X.fs ∧ ∀ v, p.2.data ≠ .cell v) : Inv X pins' σ H s :=
  ⟨I.ok, I.os, I.bare, I.base, I.loc, I.cell, I.free, I.freeC, fun p hp => (List.mem_append.mp hp).elim (fun z => I.pin p (List.mem_append_left _ z)) (h p), I.hok, I.len⟩

theorem nodup_ix {N : List Str} (hN : N.Nodup) {i j : Nat} {x : Str} (a : N[i]? = some x) (b : N[j]? = some x) : i = j := by
  obtain ⟨h1, e1⟩ := List.getElem?_eq_some_iff.mp a
  obtain ⟨h2, e2⟩ := List.getElem?_eq_some_iff.mp b
  exact (List.getElem_inj hN).mp (e1.trans e2.symm)

/-- a name is stored; what changed -/
theorem store_ok2 {M : Model} {A : Around} {E : Value → Shared → Prop} {i : Nat} {x : Str} {v : V} {u : Value} {Q : Unit → Shared → Prop} (I : Inv X pins σ H s) (hN : X.N.Nodup) (hi : X.N[i]? = some x) (hx : Loc X.env.scope x) (r : RelV v u)
    (h : ∀ s', Inv X pins (σ.set i (some v)) H s' → (∃ a, Heap.SameBut a s.heap s'.heap ∧ (a = X.env.locals ∨ X.env.cells.lookup x = some a)) → Q () s') (hf : X.fn x = true ∨ X.env.scope.names.lookup x = some .local := by first | exact .inl rfl | exact .inr rfl | assumption) : wpAny M A (storeName X.env x u) Q E s := by
  obtain ⟨m, hn, hl⟩ := id I.loc
  have hcls : (X.env.scope.kind == .class || (X.env.scope.kind == .module && X.env.locals != X.env.globals)) = false := by rw [I.ok.kind]; rfl
  have hiσ : i < σ.length := by rw [I.len]; exact (List.getElem?_eq_some_iff.mp hi).1
  have cne := I.cne
  have tracked : ∀ {a : Addr} {h' : Heap}, (∃ o, s.heap.get? a = some o ∧ H a = none) → Heap.SameBut a s.heap h' → HOk X.prog X.w H h' := fun {a h'} ha hs b ob e => by
    obtain ⟨_, _, hfree⟩ := ha
    refine (I.hok b ob e).stay (fun c w' hc q => (hs.2 c ?_).trans q) (fun _ q => q) fun _ _ q => q
    rintro rfl
    rcases hc with rfl | hc
    · rw [hfree] at e; cases e
    · rw [hfree] at hc; cases hc
  rcases hx with hk | hk
  · refine wpAny_storeName_local hk hn (fun h' hn' hs => ?_) hcls
    obtain ⟨oL, _, _, hoL, _⟩ := id hn
    refine h _ ⟨I.ok, I.os, I.bare, ⟨fun b o e n hb hx => ?_, fun b o e n hb hx => ?_, I.base.free, fun b o e hx => ?_, I.base.tups, I.base.frzs, I.base.tbls⟩, ⟨_, hn', fun j y v' e1 e2 e3 => ?_⟩, fun y c e => ?_, I.free, I.freeC, fun p hp => ?_, tracked ⟨oL, hoL, I.free⟩ hs, by simpa using I.len⟩ ⟨_, hs, .inl rfl⟩
    · exact (hs.2 b (Nat.ne_of_lt (Nat.lt_of_lt_of_le (Heap.lt_size e) I.ok.above))).trans (I.base.keep b o e n hb hx)
    · obtain ⟨sl, e1⟩ := I.base.slot b o e n hb hx
      exact ⟨sl, (hs.2 b (Nat.ne_of_lt (Nat.lt_of_lt_of_le (Heap.lt_size e) I.ok.above))).trans e1⟩
    · obtain ⟨o', e1⟩ := I.base.there b o e hx
      exact ⟨o', (hs.2 b (Nat.ne_of_lt (Nat.lt_of_lt_of_le (Heap.lt_size e) I.ok.above))).trans e1⟩
    · by_cases hj : j = i
      · subst hj
        rw [hi] at e1; cases e1
        rw [List.getElem?_set_self hiσ] at e2
        cases e2
        exact ⟨u, r, .inl ⟨hk, by simp⟩⟩
      · rw [List.getElem?_set_ne (Ne.symm hj)] at e2
        obtain ⟨u', r', q⟩ := hl j y v' e1 e2 e3
        refine ⟨u', r', ?_⟩
        rcases q with ⟨k, e⟩ | ⟨k, c, e, z⟩
        · refine .inl ⟨k, ?_⟩
          have : y ≠ x := fun e => hj (nodup_ix hN e1 (e ▸ hi))
          simp [this, e]
        · exact .inr ⟨k, c, e, z.sameBut hs (cne y c e)⟩
    · obtain ⟨w', z⟩ := I.cell y c e
      exact ⟨w', z.sameBut hs (cne y c e)⟩
    · obtain ⟨e, n, ne, nf, d⟩ := I.pin p hp
      exact ⟨(hs.2 p.1 ne).trans e, n, ne, nf, d⟩
  · have hfn : X.fn x = true := by
      rcases hf with z | z
      · exact z
      · rw [z] at hk; cases hk
    obtain ⟨c, hc⟩ := I.ok.has x (.inl hk)
    obtain ⟨w', z⟩ := I.cell x c hc
    refine wpAny_storeName_cell I.ok.kind hk hc z (fun h' hc' hs => ?_)
    obtain ⟨oc, hoc, hocd⟩ := id z
    refine h { s with heap := h' } ⟨I.ok, I.os, I.bare, ⟨fun b o e n hb hx => ?_, fun b o e n hb hx => ?_, I.base.free, fun b o e hx => ?_, I.base.tups, I.base.frzs, I.base.tbls⟩, ⟨m, hn.sameBut hs (Ne.symm (cne x c hc)), fun j y v' e1 e2 e3 => ?_⟩, fun y c' e => ?_, I.free, I.freeC, fun p hp => ?_, tracked ⟨oc, hoc, I.freeC x c hc⟩ hs, by simpa using I.len⟩ ⟨c, hs, .inr hc⟩
    · exact (hs.2 b (Nat.ne_of_lt (Nat.lt_of_lt_of_le (Heap.lt_size e) (I.ok.cab x c hfn hc)))).trans (I.base.keep b o e n hb hx)
    · obtain ⟨sl, e1⟩ := I.base.slot b o e n hb hx
      exact ⟨sl, (hs.2 b (Nat.ne_of_lt (Nat.lt_of_lt_of_le (Heap.lt_size e) (I.ok.cab x c hfn hc)))).trans e1⟩
    · obtain ⟨o', e1⟩ := I.base.there b o e hx
      exact ⟨o', (hs.2 b (Nat.ne_of_lt (Nat.lt_of_lt_of_le (Heap.lt_size e) (I.ok.cab x c hfn hc)))).trans e1⟩
    · by_cases hj : j = i
      · subst hj
        rw [hi] at e1; cases e1
        rw [List.getElem?_set_self hiσ] at e2
        cases e2
        exact ⟨u, r, .inr ⟨.inl hk, c, hc, hc'⟩⟩
      · rw [List.getElem?_set_ne (Ne.symm hj)] at e2
        obtain ⟨u', r', q⟩ := hl j y v' e1 e2 e3
        refine ⟨u', r', ?_⟩
        rcases q with q | ⟨k, c', e, z'⟩
        · exact .inl q
        · refine .inr ⟨k, c', e, z'.sameBut hs ?_⟩
          rintro rfl
          exact hj (nodup_ix hN e1 (I.ok.inj _ _ _ e hc ▸ hi))
    · by_cases hcc : c' = c
      · subst hcc; exact ⟨_, hc'⟩
      · obtain ⟨w2, z2⟩ := I.cell y c' e
        exact ⟨w2, z2.sameBut hs hcc⟩
    · obtain ⟨e, n, ne, nf, d⟩ := I.pin p hp
      refine ⟨(hs.2 p.1 ?_).trans e, n, ne, nf, d⟩
      intro q
      rw [q, hoc] at e
      have q' : oc = p.2 := Option.some.inj e
      exact d w' (by rw [← q']; exact hocd)
theorem store_ok {M : Model} {A : Around} {E : Value → Shared → Prop} {i : Nat} {x : Str} {v : V} {u : Value} {Q : Unit → Shared → Prop} (I : Inv X pins σ H s) (hN : X.N.Nodup) (hi : X.N[i]? = some x) (hx : Loc X.env.scope x) (r : RelV v u)
    (h : ∀ s', Inv X pins (σ.set i (some v)) H s' → Q () s') (hf : X.fn x = true ∨ X.env.scope.names.lookup x = some .local := by first | exact .inl rfl | exact .inr rfl | assumption) : wpAny M A (storeName X.env x u) Q E s :=
  store_ok2 I hN hi hx r (fun s' I' _ => h s' I') hf
/-- behind a call or a block, the state as it is -/
theorem Inv.call' {s' : Shared} {ch : List Addr} (I : Inv X pins σ H s) (ho : s'.os = s.os) (u : Un (frs X.stack) ch H H' s.heap s'.heap) (hok : HOk X.prog X.w H' s'.heap) (hg : AllBare s'.gens)
    (hch : ∀ b ∈ ch, (b ∈ X.ex ∨ X.s₀.heap.objs.size ≤ b) ∧ b ≠ X.env.locals ∧ (∀ x c, X.env.cells.lookup x = some c → c ≠ b) ∧ ∀ p ∈ X.pn ++ pins, p.1 ≠ b) : Inv X pins σ H' s' := by
  obtain ⟨h', g', d', t', o'⟩ := s'
  have e : o' = s.os := ho
  subst e
  exact I.call (g' := g') (t' := t') (d' := d') u hok hg hch
end

/-- an exception: its class, its own dict's address (where it has one), the abstract heap behind it -/
abbrev XK := Value → Option Addr → Hp → Prop
abbrev St := List (Option V)
abbrev VK := V → Hp → Prop
/-- an expression's reading; a test's; an argument list's -/
abbrev TE := St → Hp → VK → Prop
abbrev TT := St → Hp → (Bool → Hp → Prop) → Prop
abbrev TA := St → Hp → (List V → Hp → Prop) → Prop
/-- what is wanted behind a statement -/
structure Ends where
  nx : St → Hp → Prop
  rt : VK
  bk : St → Hp → Prop := fun _ _ => False
  ct : St → Hp → Prop := fun _ _ => False
abbrev TS := Ends → St → Hp → Prop

def EP (X : Cx) (pins : List (Addr × Obj)) (σ : St) (Q : VK) (u : Value) (s' : Shared) : Prop := ∃ v H', Inv X pins σ H' s' ∧ RelV v u ∧ Q v H'
def TP (X : Cx) (pins : List (Addr × Obj)) (σ : St) (Q : Bool → Hp → Prop) (b : Bool) (s' : Shared) : Prop := ∃ H', Inv X pins σ H' s' ∧ Q b H'
def AP (X : Cx) (pins : List (Addr × Obj)) (σ : St) (Q : List V → Hp → Prop) (us : List Value) (s' : Shared) : Prop := ∃ vs H', Inv X pins σ H' s' ∧ Vals vs us ∧ Q vs H'
def SP (X : Cx) (pins : List (Addr × Obj)) (D : Ends) (f : Flow) (s' : Shared) : Prop :=
  match f with
  | .next => ∃ σ' H', Inv X pins σ' H' s' ∧ D.nx σ' H'
  | .brk => ∃ σ' H', Inv X pins σ' H' s' ∧ D.bk σ' H'
  | .cont => ∃ σ' H', Inv X pins σ' H' s' ∧ D.ct σ' H'
  | .ret u => ∃ v σ' H', Inv X pins σ' H' s' ∧ RelV v u ∧ D.rt v H'

def PE (X : Cx) (e : Expr) (t : TE) : Prop :=
  ∀ (pins : List (Addr × Obj)) (s : Shared) (σ : St) (H : Hp) (Q : VK), Inv X pins σ H s → t σ H Q → wpAny (model X.prog X.w) X.A (eval e X.env) (EP X pins σ Q) X.xe s
def PT (X : Cx) (e : Expr) (t : TT) : Prop :=
  ∀ (pins : List (Addr × Obj)) (s : Shared) (σ : St) (H : Hp) (Q : Bool → Hp → Prop), Inv X pins σ H s → t σ H Q → wpAny (model X.prog X.w) X.A (isTrue e X.env (eval e X.env)) (TP X pins σ Q) X.xe s
/-- a test whatever its 'whole' is (and, or) -/
def PW (X : Cx) (e : Expr) (t : TT) : Prop :=
  ∀ (whole : Sem Value) (pins : List (Addr × Obj)) (s : Shared) (σ : St) (H : Hp) (Q : Bool → Hp → Prop), Inv X pins σ H s → t σ H Q → wpAny (model X.prog X.w) X.A (isTrue e X.env whole) (TP X pins σ Q) X.xe s
theorem PW.pt {X : Cx} {e : Expr} {t : TT} (h : PW X e t) : PT X e t := h _
/-- an argument list (no star), from the left -/
def PA (X : Cx) (es : List Expr) (t : TA) : Prop :=
  ∀ (pos : Pos) (pins : List (Addr × Obj)) (s : Shared) (σ : St) (H : Hp) (Q : List V → Hp → Prop), Inv X pins σ H s → t σ H Q → wpAny (model X.prog X.w) X.A (spliced (backTo pos (starEach es X.env))) (AP X pins σ Q) X.xe s
def PS (X : Cx) (st : Stmt) (t : TS) : Prop :=
  ∀ (pins : List (Addr × Obj)) (s : Shared) (σ : St) (H : Hp) (D : Ends), Inv X pins σ H s → t D σ H → wpAny (model X.prog X.w) X.A (exec st X.env) (SP X pins D) X.xe s
def PSs (X : Cx) (st : List Stmt) (t : TS) : Prop :=
  ∀ (pins : List (Addr × Obj)) (s : Shared) (σ : St) (H : Hp) (D : Ends), Inv X pins σ H s → t D σ H → wpAny (model X.prog X.w) X.A (execs st X.env) (SP X pins D) X.xe s
/-- weaken the end -/
theorem thn {α : Type} {t : Sem α} {Q Q' : α → Shared → Prop} {M : Model} {A : Around} {E : Value → Shared → Prop} {s : Shared} (h : wpAny M A t Q E s) (hQ : ∀ a s, Q a s → Q' a s) : wpAny M A t Q' E s := wpAny_mono h hQ fun _ _ x => x
end L2

namespace L2
open PySem PySem.Spec PyProof.Rows
section
variable {X : Cx}

def tVar (i : Nat) : TE := fun σ H Q => ∃ v, σ[i]? = some (some v) ∧ Q v H
def tC (v : V) : TE := fun _ H Q => Q v H
theorem pe_var {i : Nat} {x : Str} {pos : Pos} (hN : X.N[i]? = some x) (hv : Vis X.env.scope x) (hd : (x == ("__debug__" : Str)) = false := by decide) (hcd : (x == ("__classdict__" : Str)) = false := by decide) : PE X (.Name x pos) (tVar i) := by
  intro pins s σ H Q I h
  obtain ⟨v, e, h⟩ := h
  obtain ⟨m, hn, hl⟩ := I.loc
  obtain ⟨u, r, l⟩ := hl i x v hN e hv
  have fin : EP X pins σ Q u s := ⟨v, H, I, r, h⟩
  rcases l with ⟨hk, hm⟩ | ⟨hk, c, hc, hcell⟩
  · exact wpAny_Name (wpAny_loadName_local I.ok.kind hk hn hm fin) hd
  · rcases hk with hk | hk
    · exact wpAny_Name (wpAny_loadName_cell I.ok.kind hk hc hcell fin) hd
    · exact wpAny_Name (wpAny_loadName_free I.ok.kind hk hc hcell fin hcd) hd
theorem pe_int {i j pos} : PE X (.Constant (.int i) j pos) (tC (.int i)) := fun _ _ _ H _ I h => wpAny_Constant_int ⟨.int i, H, I.tok _, ⟨_, rfl⟩, h⟩
theorem pe_bl {b j pos} : PE X (.Constant (.bool b) j pos) (tC (.bl b)) := fun _ _ _ H _ I h => Constant_bool ⟨.bl b, H, I, rfl, h⟩
theorem pe_non {j pos} : PE X (.Constant .none j pos) (tC .non) := fun _ _ _ H _ I h => Constant_none ⟨.non, H, I, rfl, h⟩
theorem pe_str {x j pos} : PE X (.Constant (.str x) j pos) (tC (.str x)) := fun _ _ _ H _ I h => Calls.Constant_str ⟨.str x, H, I.tok _, ⟨_, rfl⟩, h⟩

/-- a global name of the def -/
def Gl (X : Cx) (x : Str) : Prop := X.env.kindOf x = some .globalImplicit
theorem ld_glob {E : Value → Shared → Prop} {pins : List (Addr × Obj)} {s : Shared} {σ : St} {H : Hp} {x : Str} {u : Value} {pos : Pos} {Q : Value → Shared → Prop} (I : Inv X pins σ H s) (hg : Gl X x) (hm : X.mg x = some u) (h : Q u s)
    (hd : (x == ("__debug__" : Str)) = false := by decide) : wpAny (model X.prog X.w) X.A (eval (.Name x pos) X.env) Q E s :=
  Calls.Name_function_global I.ok.kind hg (Calls.loadGlobal_global (by rw [I.ok.glob]; exact I.mod.glob.keeps I.bk) hm h) hd
theorem ld_blt {E : Value → Shared → Prop} {pins : List (Addr × Obj)} {s : Shared} {σ : St} {H : Hp} {x : Str} {u : Value} {pos : Pos} {Q : Value → Shared → Prop} (I : Inv X pins σ H s) (hg : Gl X x) (hm : X.mg x = none) (hv : bootBuiltins x = some u) (h : Q u s)
    (hn : x ≠ "__name__" := by decide) (hd : (x == ("__debug__" : Str)) = false := by decide) : wpAny (model X.prog X.w) X.A (eval (.Name x pos) X.env) Q E s := by
  obtain ⟨mb, h1, h2⟩ := I.mod.blt
  exact Calls.Name_function_global I.ok.kind hg (Calls.loadGlobal_builtin (by rw [I.ok.glob]; exact I.mod.glob.keeps I.bk) hm (by rw [I.ok.blt]; exact h1.keeps I.bk) ((h2 x hn).trans hv) h) hd
/-- a module's constant, a class, a function, as a value -/
theorem pe_glob {x : Str} {v : V} {u : Value} {pos : Pos} (hg : Gl X x) (hm : X.mg x = some u) (r : RelV v u) (hd : (x == ("__debug__" : Str)) = false := by decide) : PE X (.Name x pos) (tC v) :=
  fun _ _ _ H _ I h => ld_glob I hg hm ⟨v, H, I, r, h⟩ hd
theorem pe_bltn {x : Str} {v : V} {u : Value} {pos : Pos} (hg : Gl X x) (hm : X.mg x = none) (hv : bootBuiltins x = some u) (r : RelV v u) (hn : x ≠ "__name__" := by decide) (hd : (x == ("__debug__" : Str)) = false := by decide) : PE X (.Name x pos) (tC v) :=
  fun _ _ _ H _ I h => ld_blt I hg hm hv ⟨v, H, I, r, h⟩ hn hd

variable {a b : Expr} {ta tb : TE} {pos : Pos}
def PC (X : Cx) (op : CmpOp) (a b : Expr) (t : TE) : Prop :=
  ∀ (pins : List (Addr × Obj)) (s : Shared) (σ : St) (H : Hp) (Q : VK), Inv X pins σ H s → t σ H Q →
    wpAny (model X.prog X.w) X.A (eval a X.env) (fun v s₁ => wpAny (model X.prog X.w) X.A (eval b X.env) (fun u s₂ => wpAny (model X.prog X.w) X.A (compareOp op v u) (EP X pins σ Q) X.xe s₂) X.xe s₁) X.xe s
/-- a comparison as a value, as a test -/
def tB (t : TE) : TT := fun σ H Q => t σ H fun x H1 => ∃ c, x = .bl c ∧ Q c H1
theorem pt_cmp {op : CmpOp} {t : TE} (h : PC X op a b t) (h1 : behindInMarks op b = false := by first | exact nobehind _ (by decide) (by decide) | rfl) : PT X (.Compare a [op] [b] pos) (tB t) := by
  intro pins s σ H Q I hw
  refine wpAny_isTrue_Compare1 (thn (h pins s σ H _ I hw) fun v s1 h1 => thn h1 fun u s2 h2 => thn h2 fun c s3 ⟨x, H1, I1, r1, q1⟩ => ?_) h1
  obtain ⟨d, rfl, q⟩ := q1
  cases r1
  exact wpAny_truthy_bool ⟨H1, I1, q⟩
/-- an expression whose value is a bool, as a test -/
theorem pt_val {e : Expr} {t : TE} (h : PE X e t) (he : ∀ whole, isTrue e X.env whole = (do let v ← whole; standAt e.pos; holding [v] (truthy v)) := by intro _; rfl) : PT X e (tB t) := by
  intro pins s σ H Q I hw
  refine isTrue_plain (thn (h pins s σ H _ I hw) fun v s1 ⟨x, H1, I1, r1, q1⟩ => ?_) (he _)
  obtain ⟨d, rfl, q⟩ := q1
  cases r1
  exact wpAny_truthy_bool ⟨H1, I1, q⟩

variable {tA tB' : TT} {rest : List Expr}
def tAnd (t u : TT) : TT := fun σ H Q => t σ H fun c H1 => if c = true then u σ H1 Q else Q false H1
def tOr (t u : TT) : TT := fun σ H Q => t σ H fun c H1 => if c = true then Q true H1 else u σ H1 Q
def tNot (t : TT) : TT := fun σ H Q => t σ H fun c H1 => Q (!c) H1
theorem pw_and1 (ha : PT X a tA) : PW X (.BoolOp .And [a] pos) tA := by
  intro wh pins s σ H Q I h
  refine isTrue_and (thn (ha pins s σ H Q I h) fun c s1 e => ?_)
  cases c with
  | true => exact isTrue_and_nil e
  | false => exact e
theorem pw_or1 (ha : PT X a tA) : PW X (.BoolOp .Or [a] pos) tA := by
  intro wh pins s σ H Q I h
  refine isTrue_or (thn (ha pins s σ H Q I h) fun c s1 e => ?_)
  cases c with
  | false => exact isTrue_or_nil e
  | true => exact e
theorem pw_and (ha : PT X a tA) (hb : PW X (.BoolOp .And (b :: rest) pos) tB') : PW X (.BoolOp .And (a :: b :: rest) pos) (tAnd tA tB') := by
  intro wh pins s σ H Q I h
  refine isTrue_and (thn (ha pins s σ H _ I h) fun c s1 ⟨H1, I1, q1⟩ => ?_)
  cases c with
  | true => exact hb wh pins s1 σ H1 Q I1 q1
  | false => exact ⟨H1, I1, q1⟩
theorem pw_or (ha : PT X a tA) (hb : PW X (.BoolOp .Or (b :: rest) pos) tB') : PW X (.BoolOp .Or (a :: b :: rest) pos) (tOr tA tB') := by
  intro wh pins s σ H Q I h
  refine isTrue_or (thn (ha pins s σ H _ I h) fun c s1 ⟨H1, I1, q1⟩ => ?_)
  cases c with
  | true => exact ⟨H1, I1, q1⟩
  | false => exact hb wh pins s1 σ H1 Q I1 q1
theorem pt_not (ha : PT X a tA) : PT X (.UnaryOp .Not a pos) (tNot tA) := by
  intro pins s σ H Q I h
  exact isTrue_not (ha pins s σ H (fun c H1 => Q (!c) H1) I h)
/-- .. as values (bools) -/
def tAndV (ta tb : TE) : TE := fun σ H Q => ta σ H fun x H1 => ∃ c, x = .bl c ∧ if c = true then tb σ H1 Q else Q (.bl false) H1
def tNotV (ta : TE) : TE := fun σ H Q => ta σ H fun x H1 => ∃ c, x = .bl c ∧ Q (.bl (!c)) H1
theorem pe_one {op} {t : TE} (h : PE X a t) : PE X (.BoolOp op [a] pos) t := fun pins s σ H Q I hw => BoolOp_one (h pins s σ H Q I hw)
theorem pe_and (ha : PE X a ta) (hb : PE X (.BoolOp .And (b :: rest) pos) tb) : PE X (.BoolOp .And (a :: b :: rest) pos) (tAndV ta tb) := by
  intro pins s σ H Q I h
  refine BoolOp_and (thn (ha pins s σ H _ I h) fun v s1 ⟨x, H1, I1, r1, q1⟩ => ?_)
  obtain ⟨c, rfl, q1⟩ := q1
  cases r1
  refine wpAny_truthy_bool ?_
  cases c with
  | true => exact hb pins s1 σ H1 Q I1 q1
  | false => exact ⟨.bl false, H1, I1, rfl, q1⟩
theorem pe_not (ha : PE X a ta) : PE X (.UnaryOp .Not a pos) (tNotV ta) := by
  intro pins s σ H Q I h
  refine UnaryOp_ (thn (ha pins s σ H _ I h) fun v s1 ⟨x, H1, I1, r1, q1⟩ => ?_)
  obtain ⟨c, rfl, q1⟩ := q1
  cases r1
  exact not_of (wpAny_truthy_bool ⟨.bl (!c), H1, I1, rfl, q1⟩)
end
end L2

namespace L2
open PySem PySem.Spec PyProof.Rows

def SqL (K : PySem.W.Frag) (H : Hp) (a : Addr) (xs : List V) : Prop :=
  Rd H a (.lst xs) ∨
    ∃ (o : Obj) (its : Array Value) (n : Nat), K.lookup a = some o ∧ o.cls = .type "list" ∧ o.dict = none ∧ o.data = .seq its n ∧ its.size ≤ sizeLine ∧ Vals xs its.toList
def SqT (K : PySem.W.Frag) (H : Hp) (a : Addr) (xs : List V) : Prop :=
  Rd H a (.tup xs) ∨
    ∃ (o : Obj) (its : Array Value) (n : Nat), K.lookup a = some o ∧ o.cls = .type "tuple" ∧ o.data = .seq its n ∧ its.size ≤ sizeLine ∧ Vals xs its.toList
def absV : Value → Option V
  | .none => some .non
  | .bool b => some (.bl b)
  | .int i _ => some (.int i)
  | .str x _ => some (.str x)
  | .bytes b _ => some (.byt b)
  | .float b _ => some (.flt b)
  | .ref a => some (.ref a)
  | .type n => some (.ty n)
  | _ => none
theorem RelV.abs {x : V} {u : Value} (r : RelV x u) : absV u = some x := by
  cases x with
  | non => cases r; rfl
  | bl _ => cases r; rfl
  | int _ => obtain ⟨t, rfl⟩ := r; rfl
  | str _ => obtain ⟨t, rfl⟩ := r; rfl
  | byt _ => obtain ⟨t, rfl⟩ := r; rfl
  | flt _ => obtain ⟨t, rfl⟩ := r; rfl
  | ref _ => cases r; rfl
  | ty _ => cases r; rfl
theorem RelV.inj {x y : V} {u : Value} (r : RelV x u) (q : RelV y u) : x = y := Option.some.inj (r.abs.symm.trans q.abs)
theorem Vals.inj : ∀ {xs ys : List V} {us : List Value}, Vals xs us → Vals ys us → xs = ys
  | _, _, _, .nil, .nil => rfl
  | _, _, _, .cons r t, .cons r' t' => by rw [r.inj r', Vals.inj t t']
section
variable {X : Cx} {pins : List (Addr × Obj)} {σ : St} {H : Hp} {s : Shared} {a : Addr} {xs ys : List V}
theorem SqL.of {K : PySem.W.Frag} (h : H a = some (.lst xs)) : SqL K H a xs := .inl (.inl h)
theorem SqT.of {K : PySem.W.Frag} (h : H a = some (.tup xs)) : SqT K H a xs := .inl (.inl h)
theorem Inv.list (I : Inv X pins σ H s) (h : SqL X.K H a xs) : ∃ its : List Value, Vals xs its ∧ PlainL s.heap a its.toArray ∧ xs.length ≤ sizeLine := by
  rcases h with h | ⟨o, its, n, hk, hc, hd, hs, hz, r⟩
  · obtain ⟨z, its, n, r, e⟩ := h.ok I.hok
    exact ⟨its, r, ⟨_, n, e, rfl, rfl, rfl⟩, z⟩
  · refine ⟨its.toList, r, ⟨o, n, I.kIn a o hk, hc, hd, by simpa using hs⟩, ?_⟩
    have e := r.length
    simp only [Array.length_toList] at e
    omega
theorem Inv.tuple (I : Inv X pins σ H s) (h : SqT X.K H a xs) : ∃ its : List Value, Vals xs its ∧ IsTup s.heap a its.toArray ∧ xs.length ≤ sizeLine := by
  rcases h with h | ⟨o, its, n, hk, hc, hs, hz, r⟩
  · obtain ⟨z, its, r, p⟩ := h.ok I.hok
    exact ⟨its, r, p, z.1⟩
  · refine ⟨its.toList, r, ⟨o, I.kIn a o hk, hc, n, by simpa using hs⟩, ?_⟩
    have e := r.length
    simp only [Array.length_toList] at e
    omega
theorem Inv.list_inj (I : Inv X pins σ H s) (h : SqL X.K H a xs) (h' : SqL X.K H a ys) : xs = ys := by
  obtain ⟨its, r, ⟨o, n, e, _, _, d⟩, _⟩ := I.list h
  obtain ⟨its', r', ⟨o', n', e', _, _, d'⟩, _⟩ := I.list h'
  rw [e] at e'; cases e'
  rw [d] at d'
  injection d' with d1 _
  have : its = its' := by simpa using congrArg Array.toList d1
  subst this
  exact r.inj r'
theorem Inv.tuple_inj (I : Inv X pins σ H s) (h : SqT X.K H a xs) (h' : SqT X.K H a ys) : xs = ys := by
  obtain ⟨its, r, ⟨o, e, _, n, d⟩, _⟩ := I.tuple h
  obtain ⟨its', r', ⟨o', e', _, n', d'⟩, _⟩ := I.tuple h'
  rw [e] at e'; cases e'
  rw [d] at d'
  injection d' with d1 _
  have : its = its' := by simpa using congrArg Array.toList d1
  subst this
  exact r.inj r'
end

abbrev Cx.wish (X : Cx) (E : Value → Shared → Prop) : Cx := { X with xe := E }
/-- no exception leaves -/
abbrev Cx.nox (X : Cx) : Cx := X.wish fun _ _ => False
theorem Cx.Ok.wish {X : Cx} (ok : X.Ok) (E : Value → Shared → Prop) : (X.wish E).Ok :=
  ⟨ok.mod, ok.kind, ok.glob, ok.blt, ok.above, ok.inj, ok.has, ok.cab, ok.hd, ok.frames, ok.stk, ok.exf, ok.bs, ok.bsz, ok.noex, ok.exfs, ok.funs, ok.frf⟩
theorem Cx.Ok.unwish {X : Cx} {E : Value → Shared → Prop} (ok : (X.wish E).Ok) : X.Ok :=
  ⟨ok.mod, ok.kind, ok.glob, ok.blt, ok.above, ok.inj, ok.has, ok.cab, ok.hd, ok.frames, ok.stk, ok.exf, ok.bs, ok.bsz, ok.noex, ok.exfs, ok.funs, ok.frf⟩
section
variable {X : Cx} {pins : List (Addr × Obj)} {σ : St} {H : Hp} {s : Shared} {E : Value → Shared → Prop}
theorem Inv.wish (I : Inv X pins σ H s) (E : Value → Shared → Prop) : Inv (X.wish E) pins σ H s := ⟨I.ok.wish E, I.os, I.bare, I.base, I.loc, I.cell, I.free, I.freeC, I.pin, I.hok, I.len⟩
theorem Inv.unwish (I : Inv (X.wish E) pins σ H s) : Inv X pins σ H s := ⟨I.ok.unwish, I.os, I.bare, I.base, I.loc, I.cell, I.free, I.freeC, I.pin, I.hok, I.len⟩
theorem SP.unwish {D : Ends} {f : Flow} {s' : Shared} (h : SP (X.wish E) pins D f s') : SP X pins D f s' := by
  cases f with
  | next => obtain ⟨σ', H', I, q⟩ := h; exact ⟨σ', H', I.unwish, q⟩
  | brk => obtain ⟨σ', H', I, q⟩ := h; exact ⟨σ', H', I.unwish, q⟩
  | cont => obtain ⟨σ', H', I, q⟩ := h; exact ⟨σ', H', I.unwish, q⟩
  | ret u => obtain ⟨v, σ', H', I, r, q⟩ := h; exact ⟨v, σ', H', I.unwish, r, q⟩
theorem PSs.nox {st : List Stmt} {t : TS} (h : PSs X.nox st t) : PSs X st t := fun pins s σ H D I hw =>
  wpAny_mono (h pins s σ H D (I.wish _) hw) (fun _ _ q => q.unwish) fun _ _ z => False.elim z
end

section
variable {X : Cx} {st : Stmt} {rest : List Stmt} {t u : TS} {e : Expr} {te : TE} {pos : Pos}
def tNext : TS := fun D σ H => D.nx σ H
def tSeq (t u : TS) : TS := fun D σ H => t { D with nx := u D } σ H
theorem pss_nil : PSs X [] tNext := fun _ _ σ H _ I h => wpAny_execs_nil ⟨σ, H, I, h⟩
theorem pss_cons (h1 : PS X st t) (h2 : PSs X rest u) : PSs X (st :: rest) (tSeq t u) := by
  intro pins s σ H D I h
  refine wpAny_execs_cons (thn (h1 pins s σ H { D with nx := u D } I h) fun f s1 q => ?_)
  cases f with
  | next =>
    obtain ⟨σ', H', I', q⟩ := q
    exact h2 pins s1 σ' H' D I' q
  | ret v => exact q
  | brk => exact q
  | cont => exact q
theorem pss_one (h1 : PS X st t) : PSs X [st] t := by
  intro pins s σ H D I h
  refine wpAny_execs_cons (thn (h1 pins s σ H D I h) fun f s1 q => ?_)
  cases f with
  | next => exact wpAny_execs_nil q
  | ret v => exact q
  | brk => exact q
  | cont => exact q
/-- in a def's body nothing is shown -/
theorem Inv.quiet {pins : List (Addr × Obj)} {σ : St} {H : Hp} {s : Shared} (I : Inv X pins σ H s) : interactive X.env = false := by simp [interactive, I.ok.kind]
/-- an expression whose value is dropped -/
def tDrop (te : TE) : TS := fun D σ H => te σ H fun _ H1 => D.nx σ H1
theorem ps_expr (he : PE X e te) (hs : swapsWith e none pos.line X.env = pure false := by rfl) : PS X (.Expr e pos) (tDrop te) := by
  intro pins s σ H D I h
  exact wpAny_Expr_any (thn (he pins s σ H _ I h) fun v s1 ⟨x, H1, I1, r1, q1⟩ => ⟨σ, H1, I1, q1⟩) I.quiet hs
def tRet (te : TE) : TS := fun D σ H => te σ H D.rt
theorem ps_ret (he : PE X e te) : PS X (.Return (some e) pos) (tRet te) := by
  intro pins s σ H D I h
  exact wpAny_Return_some (thn (he pins s σ H _ I h) fun v s1 ⟨x, H1, I1, r1, q1⟩ => ⟨x, σ, H1, I1, r1, q1⟩)
def tIfS (c : TT) (t u : TS) : TS := fun D σ H => c σ H fun b H1 => if b = true then t D σ H1 else u D σ H1
theorem ps_if {c : Expr} {a b : List Stmt} {tc : TT} (hc : PT X c tc) (ha : PSs X a t) (hb : PSs X b u) : PS X (.If c a b pos) (tIfS tc t u) := by
  intro pins s σ H D I h
  refine wpAny_If (thn (hc pins s σ H _ I h) fun d s1 ⟨H1, I1, q1⟩ => ?_)
  cases d with
  | true => exact ha pins s1 σ H1 D I1 q1
  | false => exact hb pins s1 σ H1 D I1 q1
end

abbrev TG := V → St → Hp → (St → Hp → Prop) → Prop
abbrev TGs := List V → St → Hp → (St → Hp → Prop) → Prop
def PG (X : Cx) (target : Expr) (t : TG) : Prop :=
  ∀ (pins : List (Addr × Obj)) (s : Shared) (σ : St) (H : Hp) (v : V) (u : Value) (Q : St → Hp → Prop), Inv X pins σ H s → RelV v u → t v σ H Q →
    wpAny (model X.prog X.w) X.A (assign target X.env u) (fun _ s' => ∃ σ' H', Inv X pins σ' H' s' ∧ Q σ' H') X.xe s
/-- several targets, one after another -/
def PGs (X : Cx) (ts : List Expr) (t : TGs) : Prop :=
  ∀ (pins : List (Addr × Obj)) (s : Shared) (σ : St) (H : Hp) (vs : List V) (us : List Value) (Q : St → Hp → Prop), Inv X pins σ H s → Vals vs us → t vs σ H Q →
    wpAny (model X.prog X.w) X.A (assignInOrder ((assignEach ts X.env).map (·.2)) us) (fun _ s' => ∃ σ' H', Inv X pins σ' H' s' ∧ Q σ' H') X.xe s
/-- o[i] = v, by values -/
abbrev TSet := V → V → V → Hp → (Hp → Prop) → Prop
def PSet (X : Cx) (t : TSet) : Prop :=
  ∀ (pins : List (Addr × Obj)) (s : Shared) (σ : St) (H : Hp) (o i v : V) (ov iv u : Value) (Q : Hp → Prop), Inv X pins σ H s → RelV o ov → RelV i iv → RelV v u → t o i v H Q →
    wpAny (model X.prog X.w) X.A (setItem ov iv u) (fun _ s' => ∃ H', Inv X pins σ H' s' ∧ Q H') X.xe s
/-- a op= b, by values -/
abbrev TIp := V → V → Hp → VK → Prop
def PIp (X : Cx) (op : Operator) (t : TIp) : Prop :=
  ∀ (pins : List (Addr × Obj)) (s : Shared) (σ : St) (H : Hp) (x y : V) (v u : Value) (Q : VK), Inv X pins σ H s → RelV x v → RelV y u → t x y H Q →
    wpAny (model X.prog X.w) X.A (inplaceOp op v u) (EP X pins σ Q) X.xe s
section
variable {X : Cx} {pos : Pos}
def gName (i : Nat) : TG := fun v σ H Q => Q (σ.set i (some v)) H
theorem pg_name {i : Nat} {x : Str} (hN : X.N.Nodup) (hi : X.N[i]? = some x) (hx : Loc X.env.scope x) (hf : X.fn x = true ∨ X.env.scope.names.lookup x = some .local := by first | exact .inl rfl | exact .inr rfl | assumption) : PG X (.Name x pos) (gName i) := by
  intro pins s σ H v u Q I r h
  exact wpAny_assign_Name (store_ok I hN hi hx r (fun s' I' => ⟨_, H, I', h⟩) hf)
def gNil : TGs := fun vs σ H Q => vs = [] ∧ Q σ H
def gCons (t : TG) (u : TGs) : TGs := fun vs σ H Q => ∃ v r, vs = v :: r ∧ t v σ H fun σ' H' => u r σ' H' Q
theorem pgs_nil : PGs X [] gNil := by
  intro pins s σ H vs us Q I r h
  obtain ⟨e, h⟩ := h
  subst e
  cases r
  exact assignInOrder_nil ⟨σ, H, I, h⟩
theorem pgs_cons {e : Expr} {es : List Expr} {t : TG} {u : TGs} (h1 : PG X e t) (h2 : PGs X es u)
    (hs : (assignEach (e :: es) X.env).map (·.2) = assign e X.env :: (assignEach es X.env).map (·.2) := by rfl) : PGs X (e :: es) (gCons t u) := by
  intro pins s σ H vs us Q I r h
  obtain ⟨v, vr, e1, h⟩ := h
  subst e1
  cases r with
  | cons r rr =>
    rw [hs]
    refine assignInOrder_cons (thn (h1 pins s σ H _ _ _ I r h) fun _ s1 ⟨σ1, H1, I1, q1⟩ => ?_)
    exact h2 pins s1 σ1 H1 _ _ Q I1 rr q1
/-- (a, b, ..) = a tuple of that length -/
def gTup (K : PySem.W.Frag) (n : Nat) (t : TGs) : TG := fun v σ H Q => ∃ a xs, v = .ref a ∧ SqT K H a xs ∧ xs.length = n ∧ t xs σ H Q
theorem pg_tup {es : List Expr} {k : Nat} {t : TGs} {n : Nat} (hc : X.calm = true) (h : PGs X es t)
    (hn : (assignEach es X.env).length = n := by rfl) (hst : (assignEach es X.env).findIdx? (·.1) = none := by rfl) : PG X (.Tuple es k pos) (gTup X.K n t) := by
  intro pins s σ H v u Q I r hw
  obtain ⟨a, xs, e1, hq, hl, hw⟩ := hw
  subst e1
  cases r
  obtain ⟨its, rv, ht, hz⟩ := I.tuple hq
  refine assign_Tuple_tuple (I.ok.hd hc) ht (by simp [hn, ← hl, rv.length]) hst fun h' hx => ?_
  have I1 : Inv X pins σ H { s with heap := h' } := I.kept (t' := s.toks) fun b o e => hx b o (Nat.ne_of_lt (Heap.lt_size e)) e
  exact h pins _ σ H xs _ Q I1 (by simpa using rv) hw
/-- target = value -/
def tAsg (te : TE) (g : TG) : TS := fun D σ H => te σ H fun x H1 => g x σ H1 D.nx
theorem ps_asg {tg e : Expr} {te : TE} {g : TG} (he : PE X e te) (hg : PG X tg g) (hs : swapsWithSole [tg] e pos.line X.env = pure false := by rfl) (hw : swappedStores [tg] e X.env = pure none := by rfl)
    (h1 : (assignEach [tg] X.env).map (·.2) = [assign tg X.env] := by rfl) : PS X (.Assign [tg] e pos) (tAsg te g) := by
  intro pins s σ H D I h
  refine wpAny_Assign_stores (thn (he pins s σ H _ I h) fun v s1 ⟨x, H1, I1, r1, q1⟩ => ?_) hs hw
  rw [h1]
  exact thn (hg pins s1 σ H1 x v _ I1 r1 q1) fun _ s2 q => q
/-- name = value -/
theorem ps_set {i : Nat} {x : Str} {e : Expr} {te : TE} {pos' : Pos} (hN : X.N.Nodup) (hi : X.N[i]? = some x) (hx : Loc X.env.scope x) (he : PE X e te) (hs : swapsWith e (some (.Name x pos')) pos.line X.env = pure false := by rfl) (hf : X.fn x = true ∨ X.env.scope.names.lookup x = some .local := by first | exact .inl rfl | exact .inr rfl | assumption) :
    PS X (.Assign [.Name x pos'] e pos) (tAsg te (gName i)) := by
  intro pins s σ H D I h
  refine wpAny_Assign_Name (thn (he pins s σ H _ I h) fun v s1 ⟨y, H1, I1, r1, q1⟩ => ?_) hs
  exact store_ok I1 hN hi hx r1 (fun s2 I2 => ⟨_, H1, I2, q1⟩) hf
/-- name op= e -/
def tAug (i : Nat) (te : TE) (ti : TIp) : TS := fun D σ H => ∃ x, σ[i]? = some (some x) ∧ te σ H fun y H1 => ti x y H1 fun z H2 => D.nx (σ.set i (some z)) H2
theorem ps_aug {i : Nat} {x : Str} {e : Expr} {te : TE} {op : Operator} {ti : TIp} {pos' : Pos} (hN : X.N.Nodup) (hi : X.N[i]? = some x) (hx : Loc X.env.scope x) (he : PE X e te) (ho : PIp X op ti) (hf : X.fn x = true ∨ X.env.scope.names.lookup x = some .local := by first | exact .inl rfl | exact .inr rfl | assumption) :
    PS X (.AugAssign (.Name x pos') op e pos) (tAug i te ti) := by
  intro pins s σ H D I h
  obtain ⟨v, e1, h⟩ := h
  obtain ⟨m, hn, hl⟩ := I.loc
  have vis : Vis X.env.scope x := by rcases hx with k | k; exact .inl k; exact .inr (.inl k)
  obtain ⟨u, r, l⟩ := hl i x v hi e1 vis
  refine wpAny_AugAssign_Name ?_
  have go : wpAny (model X.prog X.w) X.A (eval e X.env) (fun w s₂ => wpAny (model X.prog X.w) X.A (inplaceOp op u w) (fun r s₃ => wpAny (model X.prog X.w) X.A (storeName X.env x r) (fun _ => SP X pins D .next) X.xe s₃) X.xe s₂) X.xe s := by
    refine thn (he pins s σ H _ I h) fun w s1 ⟨y, H1, I1, r1, q1⟩ => ?_
    refine thn (ho pins s1 σ H1 v y u w _ I1 r r1 q1) fun z s2 ⟨zv, H2, I2, r2, q2⟩ => ?_
    exact store_ok I2 hN hi hx r2 (fun s3 I3 => ⟨_, H2, I3, q2⟩) hf
  rcases l with ⟨hk, hm⟩ | ⟨hk, c, hc, hcell⟩
  · exact wpAny_loadName_local I.ok.kind hk hn hm go
  · rcases hk with hk | hk
    · exact wpAny_loadName_cell I.ok.kind hk hc hcell go
    · rcases hx with k | k
      · have : X.env.scope.names.lookup x = some .free := hk
        rw [k] at this; cases this
      · have : X.env.scope.names.lookup x = some .free := hk
        rw [k] at this; cases this
/-- ints -/
def ipI (f : Int → Int → Int) : TIp := fun x y H Q => ∃ i j, x = .int i ∧ y = .int j ∧ Q (.int (f i j)) H
theorem ip_add : PIp X .Add (ipI fun i j => i + j) := by
  intro pins s σ H x y v u Q I r1 r2 h
  obtain ⟨i, j, e1, e2, q⟩ := h
  subst e1; subst e2
  obtain ⟨t, rfl⟩ := r1
  obtain ⟨t', rfl⟩ := r2
  exact iadd_int ⟨.int _, H, I.tok _, ⟨_, rfl⟩, q⟩
end

section
variable {X : Cx} {pos : Pos}
/-- the invariant W with its measure -/
def tWhile (c : TT) (tb : TS) : TS := fun D σ H => ∃ W : Nat → St → Hp → Prop, (∃ m, W m σ H) ∧ ∀ m σ H, W m σ H →
  c σ H fun b H1 => if b = true then ∃ N : St → Hp → Prop, (∀ σ' H', N σ' H' → ∃ m', m' < m ∧ W m' σ' H') ∧ tb { D with nx := N, ct := N, bk := D.nx } σ H1 else D.nx σ H1
theorem ps_while {c : Expr} {body : List Stmt} {tc : TT} {tb : TS} (hp : PassesOwn (model X.prog X.w) X.A X.env X.xe) (hc : PT X c tc) (hb : PSs X body tb) : PS X (.While c body [] pos) (tWhile tc tb) := by
  intro pins s σ H D I h
  obtain ⟨W, ⟨m0, w0⟩, turn⟩ := h
  refine wpAny_While (codeAny_whileLoop (fun n s' => ∃ σ' H', Inv X pins σ' H' s' ∧ W n σ' H') ?_ m0 ⟨σ, H, I, w0⟩)
  rintro n s1 ⟨σ1, H1, I1, w1⟩
  refine wpAny_passesOwn hp (thn (hc pins s1 σ1 H1 _ I1 (turn n σ1 H1 w1)) fun b s2 ⟨H2, I2, q2⟩ => ?_)
  cases b with
  | true =>
    obtain ⟨N, hN, q2⟩ := q2
    rw [if_pos rfl]
    refine wpAny_passesOwn hp (thn (hb pins s2 σ1 H2 _ I2 q2) fun f s3 q3 => ?_)
    cases f with
    | next =>
      obtain ⟨σ3, H3, I3, n3⟩ := q3
      obtain ⟨m', hm, w3⟩ := hN σ3 H3 n3
      exact ⟨m', hm, σ3, H3, I3, w3⟩
    | cont =>
      obtain ⟨σ3, H3, I3, n3⟩ := q3
      obtain ⟨m', hm, w3⟩ := hN σ3 H3 n3
      exact ⟨m', hm, σ3, H3, I3, w3⟩
    | brk => exact q3
    | ret v => exact q3
  | false =>
    rw [if_neg Bool.false_ne_true]
    exact wpAny_execs_nil ⟨σ1, H2, I2, q2⟩
end

/-- at turn i: it yields x (the heap may grow), or it stops -/
structure It where
  go : Nat → Hp → Prop
  yld : Nat → Hp → V → Hp → Prop
  stop : Nat → Hp → Prop
/-- the iterator's own objects may turn: they are not the frame's, not pinned, younger than the entry (or a comprehension's own) -/
def FpOk (X : Cx) (pins : List (Addr × Obj)) (H : Hp) (b : Addr) : Prop :=
  H b = none ∧ b ≠ X.env.locals ∧ b ∉ X.fs ∧ (b ∈ X.ex ∨ X.s₀.heap.objs.size ≤ b) ∧ (∀ x c, X.env.cells.lookup x = some c → c ≠ b) ∧ ∀ p ∈ X.pn ++ pins, p.1 ≠ b
theorem Inv.fpOk {X : Cx} {pins : List (Addr × Obj)} {σ : St} {H H' : Hp} {s : Shared} {b : Addr} (I : Inv X pins σ H s) (hb : s.heap.objs.size ≤ b) (hn : H' b = none) : FpOk X pins H' b := by
  refine ⟨hn, Nat.ne_of_gt (Nat.lt_of_lt_of_le I.lt hb), I.nofs hb, .inr (Nat.le_trans I.sz hb), fun x c e z => ?_, fun p hp z => ?_⟩
  · obtain ⟨v, q⟩ := I.cell x c e
    exact absurd (Nat.lt_of_lt_of_le q.lt (by rw [z]; exact hb)) (Nat.lt_irrefl _)
  · exact absurd (Nat.lt_of_lt_of_le (Heap.lt_size (I.pin p hp).1) (by rw [z]; exact hb)) (Nat.lt_irrefl _)
structure Turn (P : Program) (w : World) (K : PySem.W.Frag) (tg : Expr) (J : It) (fp : List Addr) (it : Addr) (tn : Nat → Heap → Prop) : Prop where
  mem : it ∈ fp
  obj : ∀ i h, tn i h → ∀ b ∈ fp, ∃ o, h.get? b = some o ∧ ∀ v, o.data ≠ .cell v
  keep : ∀ i h h', tn i h → (∀ b ∈ fp, ∀ o, h.get? b = some o → h'.get? b = some o) → tn i h'
  item : ∀ (X : Cx), X.prog = P → X.w = w → X.K = K → X.calm = true → ∀ (i : Nat) (pins : List (Addr × Obj)) (s : Shared) (σ : St) (H : Hp) (E : Value → Shared → Prop), Inv X pins σ H s → (∀ b ∈ fp, FpOk X pins H b) → tn i s.heap → J.go i H →
    wpAny (model P w) X.A (pyNext (.ref it)) (fun r s1 => ∃ u, r = some u ∧
      wpAny (model P w) X.A (letOwnedTupleGo tg (.ref it) u) (fun _ s2 => ∃ x H', Inv X pins σ H' s2 ∧ RelV x u ∧ J.yld i H x H' ∧ tn (i + 1) s2.heap ∧ ∀ b ∈ fp, H' b = none) E s1) E s
  done : ∀ (X : Cx), X.prog = P → X.w = w → X.K = K → X.calm = true → ∀ (i : Nat) (pins : List (Addr × Obj)) (s : Shared) (σ : St) (H : Hp) (E : Value → Shared → Prop), Inv X pins σ H s → (∀ b ∈ fp, FpOk X pins H b) → tn i s.heap → J.stop i H →
    wpAny (model P w) X.A (pyNext (.ref it)) (fun r s1 => r = none ∧ Inv X pins σ H s1) E s
  self : ∀ (A : Around) (i : Nat) (s : Shared) (Q : Value → Shared → Prop) (E : Value → Shared → Prop), tn i s.heap → Q (.ref it) s → wpAny (model P w) A (pyIter (.ref it)) Q E s
abbrev TI := St → Hp → (It → Hp → Prop) → Prop
/-- an iterator has come -/
def PIE (X : Cx) (pins : List (Addr × Obj)) (σ : St) (tg : Expr) (R : It → Hp → Prop) (itv : Value) (s2 : Shared) : Prop :=
  ∃ (it : Addr) (fp : List Addr) (tn : Nat → Heap → Prop) (J : It) (H' : Hp), itv = .ref it ∧ Inv X pins σ H' s2 ∧ Turn X.prog X.w X.K tg J fp it tn ∧ tn 0 s2.heap ∧ (∀ b ∈ fp, FpOk X pins H' b) ∧ R J H'
def PI (X : Cx) (tg iter : Expr) (wi : TI) : Prop :=
  ∀ (pins : List (Addr × Obj)) (s : Shared) (σ : St) (H : Hp) (R : It → Hp → Prop), Inv X pins σ H s → wi σ H R →
    wpAny (model X.prog X.w) X.A (eval iter X.env) (fun v s1 => wpAny (model X.prog X.w) X.A (pyIter v) (PIE X pins σ tg R) X.xe s1) X.xe s

/-- the step ahead of the store is nothing for an iterator that keeps no tuple -/
theorem go_of {M : Model} {A : Around} {E : Value → Shared → Prop} {s : Shared} {tg : Expr} {it : Addr} {u : Value} {o : Obj} {n : String} {vs : Array Value} {Q : Unit → Shared → Prop} (ho : s.heap.get? it = some o) (hc : o.cls = .type n) (hd : o.data = .fields vs)
    (hn : ["enumerate", "zip", "dict_itemiterator", "dict_reverseitemiterator", "odict_iterator", "itertools.zip_longest", "itertools.pairwise"].contains n = false) (hQ : Q () s) : wpAny M A (letOwnedTupleGo tg (.ref it) u) Q E s := by
  unfold letOwnedTupleGo
  cases tg <;> first
    | exact wpAny_pure hQ
    | (cases u <;> first
        | exact wpAny_pure hQ
        | (refine wpAny_bind (wpAny_load ho ?_)
           rw [hc, hd]
           show wpAny M A (if (["enumerate", "zip", "dict_itemiterator", "dict_reverseitemiterator", "odict_iterator", "itertools.zip_longest", "itertools.pairwise"].contains n && vs[0]? == some (rawInt _)) = true then _ else _) Q E s
           rw [if_neg (by intro h; rw [hn, Bool.false_and] at h; cases h)]
           exact wpAny_pure hQ))

/-- the list at a, as it stands at each turn (a loop may append to it) -/
def Itl (K : PySem.W.Frag) (a : Addr) : It :=
  ⟨fun i H => ∃ xs x, SqL K H a xs ∧ xs[i]? = some x, fun i H x H' => H' = H ∧ ∀ xs, SqL K H a xs → xs[i]? = some x, fun i H => ∃ xs, SqL K H a xs ∧ xs.length ≤ i⟩
def Itt (K : PySem.W.Frag) (a : Addr) : It :=
  ⟨fun i H => ∃ xs x, SqT K H a xs ∧ xs[i]? = some x, fun i H x H' => H' = H ∧ ∀ xs, SqT K H a xs → xs[i]? = some x, fun i H => ∃ xs, SqT K H a xs ∧ xs.length ≤ i⟩
/-- lo, lo + 1, .. (n of them) -/
def Itr (lo : Int) (n : Nat) : It := ⟨fun i _ => i < n, fun i H x H' => H' = H ∧ x = .int (lo + i), fun i _ => n ≤ i⟩
theorem turn_list {P : Program} {w : World} {K : PySem.W.Frag} {tg : Expr} (a it : Addr) : Turn P w K tg (Itl K a) [it] it (fun i h => h.IsListIter it a i) where
  mem := by simp
  obj := fun i h st b hb => by
    have e : b = it := by simpa using hb
    subst e
    obtain ⟨o, e, c, d⟩ := st
    exact ⟨o, e, fun v z => by rw [d] at z; cases z⟩
  keep := fun i h h' st k => st.at fun o e => k it (by simp) o e
  item := by
    intro X hP hw hK hc i pins s σ H E I hf st hg
    subst hP hw hK
    obtain ⟨xs, x, hq, hx⟩ := hg
    obtain ⟨its, rv, p, hz⟩ := I.list hq
    obtain ⟨u, hu, ru⟩ := rv.get hx
    obtain ⟨f0, f1, f2, f3, f4, f5⟩ := hf it (by simp)
    refine wpAny_pyNext_list_item st p.isList (x := u) (by simpa using hu) fun h' st' sb => ?_
    have I1 : Inv X pins σ H { s with heap := h' } := I.turned (t' := s.toks) (fun b o hb e => (sb.2 b hb).trans e) f0 f1 f3 f4 f5
    obtain ⟨o, e, c, d⟩ := id st'
    exact ⟨u, rfl, go_of (s := { s with heap := h' }) e c d (by decide) ⟨x, H, I1, ru, ⟨rfl, fun ys hy => by rw [I.list_inj hy hq]; exact hx⟩, st', fun b hb => (hf b hb).1⟩⟩
  done := by
    intro X hP hw hK hc i pins s σ H E I hf st hg
    subst hP hw hK
    obtain ⟨xs, hq, hx⟩ := hg
    obtain ⟨its, rv, p, hz⟩ := I.list hq
    obtain ⟨f0, f1, f2, f3, f4, f5⟩ := hf it (by simp)
    have hl := rv.length
    exact wpAny_pyNext_list_end (I.ok.hd hc) st p.isList (by simp; omega) fun h' eb => ⟨rfl, I.turned (t' := s.toks) (fun b o hb e => eb b o hb e) f0 f1 f3 f4 f5⟩
  self := fun _ _ _ _ _ st h => wpAny_pyIter_listiter st h
theorem turn_tuple {P : Program} {w : World} {K : PySem.W.Frag} {tg : Expr} (a it : Addr) : Turn P w K tg (Itt K a) [it] it (fun i h => h.IsTupleIter it a i) where
  mem := by simp
  obj := fun i h st b hb => by
    have e : b = it := by simpa using hb
    subst e
    obtain ⟨o, e, c, d⟩ := st
    exact ⟨o, e, fun v z => by rw [d] at z; cases z⟩
  keep := fun i h h' st k => st.at fun o e => k it (by simp) o e
  item := by
    intro X hP hw hK hc i pins s σ H E I hf st hg
    subst hP hw hK
    obtain ⟨xs, x, hq, hx⟩ := hg
    obtain ⟨its, rv, p, hz⟩ := I.tuple hq
    obtain ⟨u, hu, ru⟩ := rv.get hx
    obtain ⟨f0, f1, f2, f3, f4, f5⟩ := hf it (by simp)
    refine wpAny_pyNext_tuple_item st (show s.heap.IsTuple a its.toArray from p) (x := u) (by simpa using hu) fun h' st' sb => ?_
    have I1 : Inv X pins σ H { s with heap := h' } := I.turned (t' := s.toks) (fun b o hb e => (sb.2 b hb).trans e) f0 f1 f3 f4 f5
    obtain ⟨o, e, c, d⟩ := id st'
    exact ⟨u, rfl, go_of (s := { s with heap := h' }) e c d (by decide) ⟨x, H, I1, ru, ⟨rfl, fun ys hy => by rw [I.tuple_inj hy hq]; exact hx⟩, st', fun b hb => (hf b hb).1⟩⟩
  done := by
    intro X hP hw hK hc i pins s σ H E I hf st hg
    subst hP hw hK
    obtain ⟨xs, hq, hx⟩ := hg
    obtain ⟨its, rv, p, hz⟩ := I.tuple hq
    obtain ⟨f0, f1, f2, f3, f4, f5⟩ := hf it (by simp)
    have hl := rv.length
    exact wpAny_pyNext_tuple_end (I.ok.hd hc) st (show s.heap.IsTuple a its.toArray from p) (by simp; omega) fun h' eb => ⟨rfl, I.turned (t' := s.toks) (fun b o hb e => eb b o hb e) f0 f1 f3 f4 f5⟩
  self := fun _ _ _ _ _ st h => wpAny_pyIter_tupleiter st h
theorem turn_range {P : Program} {w : World} {K : PySem.W.Frag} {tg : Expr} (it : Addr) (lo : Int) (n : Nat) : Turn P w K tg (Itr lo n) [it] it (fun i h => IsRangeIter h it (lo + (i : Nat) * 1) ((n : Int) - (i : Nat)) 1) where
  mem := by simp
  obj := fun i h st b hb => by
    have e : b = it := by simpa using hb
    subst e
    exact ⟨_, st, fun v z => by
      have z' : Data.fields _ = Data.cell v := z
      cases z'⟩
  keep := fun i h h' st k => k it (by simp) _ st
  item := by
    intro X hP hw hK hc i pins s σ H E I hf st hg
    subst hP hw hK
    obtain ⟨f0, f1, f2, f3, f4, f5⟩ := hf it (by simp)
    have W := Walks.range (prog := X.prog) (w := X.w) (I.ok.hd hc) it lo 1 n
    refine W.item i s _ _ hg st fun v h' tk hv st' kk => ?_
    obtain ⟨t, rfl⟩ := hv
    have I1 : Inv X pins σ H { s with heap := h', toks := tk } := I.turned (fun b o hb e => kk b o (by simpa using hb) e) f0 f1 f3 f4 f5
    refine ⟨_, rfl, go_of (s := { s with heap := h', toks := tk }) (n := "range_iterator") st' rfl rfl (by decide) ⟨.int (lo + i), H, I1, ⟨t, ?_⟩, ⟨rfl, rfl⟩, st', fun b hb => (hf b hb).1⟩⟩
    rw [Int.mul_one]
  done := by
    intro X hP hw hK hc i pins s σ H E I hf st hg
    subst hP hw hK
    obtain ⟨f0, f1, f2, f3, f4, f5⟩ := hf it (by simp)
    exact wpAny_pyNext_range_end (I.ok.hd hc) st (by have : n ≤ i := hg; omega) fun h' eb => ⟨rfl, I.turned (t' := s.toks) (fun b o hb e => eb b o hb e) f0 f1 f3 f4 f5⟩
  self := fun _ _ _ _ _ st h => wpAny_pyIter_rangeiter st h
end L2

namespace L2
open PySem PySem.Spec PyProof.Rows
section
variable {X : Cx} {tg : Expr}
def iList (K : PySem.W.Frag) (tl : TE) : TI := fun σ H R => tl σ H fun x H1 => ∃ a, x = .ref a ∧ (∃ xs, SqL K H1 a xs) ∧ R (Itl K a) H1
def iTup (K : PySem.W.Frag) (tl : TE) : TI := fun σ H R => tl σ H fun x H1 => ∃ a, x = .ref a ∧ (∃ xs, SqT K H1 a xs) ∧ R (Itt K a) H1
theorem pi_list {l : Expr} {tl : TE} (hl : PE X l tl) : PI X tg l (iList X.K tl) := by
  intro pins s σ H R I h
  refine thn (hl pins s σ H _ I h) fun v s1 ⟨x, H1, I1, r1, q1⟩ => ?_
  obtain ⟨a, e, ⟨xs, hq⟩, q⟩ := q1
  subst e
  cases r1
  obtain ⟨its, rv, p, hz⟩ := I1.list hq
  refine wpAny_pyIter_list p.isList ?_
  refine ⟨s1.heap.objs.size, [s1.heap.objs.size], _, _, H1, rfl, I1.kept (t' := s1.toks) fun b o e => Heap.get?_push_of_some _ e, turn_list a _, ⟨_, Heap.get?_push_size _ rfl, rfl, rfl⟩, fun b hb => ?_, q⟩
  have e : b = s1.heap.objs.size := by simpa using hb
  subst e
  exact I1.fpOk (Nat.le_refl _) (I1.hok.fresh (Nat.le_refl _))
theorem pi_tup {l : Expr} {tl : TE} (hl : PE X l tl) : PI X tg l (iTup X.K tl) := by
  intro pins s σ H R I h
  refine thn (hl pins s σ H _ I h) fun v s1 ⟨x, H1, I1, r1, q1⟩ => ?_
  obtain ⟨a, e, ⟨xs, hq⟩, q⟩ := q1
  subst e
  cases r1
  obtain ⟨its, rv, p, hz⟩ := I1.tuple hq
  refine wpAny_pyIter_tuple (show s1.heap.IsTuple a its.toArray from p) ?_
  refine ⟨s1.heap.objs.size, [s1.heap.objs.size], _, _, H1, rfl, I1.kept (t' := s1.toks) fun b o e => Heap.get?_push_of_some _ e, turn_tuple a _, ⟨_, Heap.get?_push_size _ rfl, rfl, rfl⟩, fun b hb => ?_, q⟩
  have e : b = s1.heap.objs.size := by simpa using hb
  subst e
  exact I1.fpOk (Nat.le_refl _) (I1.hok.fresh (Nat.le_refl _))
/-- a range object just made, walked -/
theorem range_it {pins : List (Addr × Obj)} {σ : St} {H : Hp} {s : Shared} {R : It → Hp → Prop} {E : Value → Shared → Prop} {lo hi : Int} {t u v : Tok} {tk : Nat} (I : Inv X pins σ H s) (h1 : -(2 ^ 62) ≤ lo) (h2 : lo < 2 ^ 62) (h3 : -(2 ^ 62) ≤ hi) (h4 : hi < 2 ^ 62)
    (q : R (Itr lo (hi - lo).toNat) H) : wpAny (model X.prog X.w) X.A (pyIter (.ref s.heap.objs.size)) (PIE X pins σ tg R) E { s with heap := s.heap.push { cls := .type "range", data := .fields #[.int lo t, .int hi u, .int 1 v] }, toks := tk } := by
  refine wpAny_pyIter_range (IsRange.new ..) (small_one h1 h2 h3 h4) ?_
  have I1 : Inv X pins σ H { s with heap := s.heap.push { cls := .type "range", data := .fields #[.int lo t, .int hi u, .int 1 v] }, toks := tk } := I.kept fun b o e => Heap.get?_push_of_some _ e
  refine ⟨(s.heap.push { cls := .type "range", data := .fields #[.int lo t, .int hi u, .int 1 v] }).objs.size, [(s.heap.push { cls := .type "range", data := .fields #[.int lo t, .int hi u, .int 1 v] }).objs.size], _, _, H, rfl,
    I1.kept (t' := tk) fun b o e => Heap.get?_push_of_some _ e, turn_range _ lo (hi - lo).toNat, ?_, fun b hb => ?_, q⟩
  · have e1 : lo + ((0 : Nat) : Int) * 1 = lo := by simp
    have e2 : (((hi - lo).toNat : Nat) : Int) - ((0 : Nat) : Int) = Builtin.Range.rangeSize lo hi 1 := by rw [rangeSize_one]; split <;> omega
    show IsRangeIter _ _ (lo + ((0 : Nat) : Int) * 1) ((((hi - lo).toNat : Nat) : Int) - ((0 : Nat) : Int)) 1
    rw [e1, e2]
    exact Heap.get?_push_size _ rfl
  · have e : b = (s.heap.push { cls := .type "range", data := .fields #[.int lo t, .int hi u, .int 1 v] }).objs.size := by simpa using hb
    subst e
    exact I1.fpOk (Nat.le_refl _) (I1.hok.fresh (Nat.le_refl _))
def iRng1 (ta : TA) : TI := fun σ H R => ta σ H fun vs H1 => ∃ j : Int, vs = [.int j] ∧ -(2 ^ 62) ≤ j ∧ j < 2 ^ 62 ∧ R (Itr 0 j.toNat) H1
theorem pi_range1 {a : Expr} {ta : TA} {p pos : Pos} (hg : Gl X "range") (hm : X.mg "range" = none) (ha : PA X [a] ta) (hs : starEach [a] X.env = [(false, eval a X.env)] := by rfl) : PI X tg (.Call (.Name "range" p) [a] [] pos) (iRng1 ta) := by
  intro pins s σ H R I h
  refine Call_ (ld_blt I hg hm boot_range (PyProof.Rows.callWith_type1 (thn (ha pos pins s σ H _ I h) fun us s1 ⟨vs, H1, I1, r1, q1⟩ => ?_) hs rfl))
  obtain ⟨j, e, q1, q2, q⟩ := q1
  subst e
  cases r1 with
  | cons r rr =>
    cases rr
    obtain ⟨t, rfl⟩ := r
    exact call_range_1 (range_it I1 (by omega) (by omega) q1 q2 (by simpa using q))
/-- W: the invariant by the turn and a measure; N: what the body is to reach -/
def tFor (wi : TI) (g : TG) (tb : TS) : TS := fun D σ H => wi σ H fun J H1 => ∃ W : Nat → Nat → St → Hp → Prop, (∃ m, W 0 m σ H1) ∧ ∀ i m σ H, W i m σ H →
  (J.stop i H ∧ D.nx σ H) ∨ (J.go i H ∧ ∃ N : St → Hp → Prop, (∀ σ' H', N σ' H' → ∃ m', m' < m ∧ W (i + 1) m' σ' H') ∧ ∀ x H', J.yld i H x H' → g x σ H' fun σ2 H2 => tb { D with nx := N, ct := N, bk := D.nx } σ2 H2)
/-- the records at fp as they stand -/
def pinsAt (fp : List Addr) (h : Heap) : List (Addr × Obj) := fp.filterMap fun b => (h.get? b).map fun o => (b, o)
theorem mem_pinsAt {fp : List Addr} {h : Heap} {b : Addr} {o : Obj} (hb : b ∈ fp) (e : h.get? b = some o) : (b, o) ∈ pinsAt fp h := List.mem_filterMap.mpr ⟨b, hb, by rw [e]; rfl⟩
theorem of_pinsAt {fp : List Addr} {h : Heap} {p : Addr × Obj} (hp : p ∈ pinsAt fp h) : p.1 ∈ fp ∧ h.get? p.1 = some p.2 := by
  obtain ⟨b, hb, e⟩ := List.mem_filterMap.mp hp
  cases q : h.get? b with
  | none => rw [q] at e; cases e
  | some o =>
    rw [q] at e
    have e' : (b, o) = p := Option.some.inj e
    subst e'
    exact ⟨hb, q⟩
theorem Inv.pinned {pins : List (Addr × Obj)} {σ : St} {H : Hp} {s : Shared} {fp : List Addr} (I : Inv X pins σ H s) (hf : ∀ b ∈ fp, FpOk X pins H b) (ho : ∀ b ∈ fp, ∃ o, s.heap.get? b = some o ∧ ∀ v, o.data ≠ .cell v) : Inv X (pins ++ pinsAt fp s.heap) σ H s :=
  I.pins_of fun p hp => (List.mem_append.mp hp).elim (fun z => I.pin p (List.mem_append_right _ z)) fun z => by
    obtain ⟨hb, e⟩ := of_pinsAt z
    obtain ⟨f0, f1, f2, _⟩ := hf p.1 hb
    obtain ⟨o, e', d⟩ := ho p.1 hb
    rw [e] at e'; cases e'
    exact ⟨e, f0, f1, f2, d⟩
theorem Inv.unpinned {pins pl : List (Addr × Obj)} {σ : St} {H : Hp} {s : Shared} (I : Inv X (pins ++ pl) σ H s) : Inv X pins σ H s := I.pins_of fun p hp => I.pin p (List.mem_append_right _ (List.mem_append_left _ hp))
theorem ps_for {iter : Expr} {body : List Stmt} {wi : TI} {g : TG} {tb : TS} {pos : Pos} (hp : PassesOwn (model X.prog X.w) X.A X.env X.xe) (hc : X.calm = true) (hi : PI X tg iter wi) (hg : PG X tg g) (hb : PSs X body tb)
    (hs : ∀ x, foldedSetIterable iter X.env x = pure x := by intro _; rfl) : PS X (.For tg iter body [] pos) (tFor wi g tb) := by
  intro pins s σ H D I h
  refine wpAny_For (thn (hi pins s σ H _ I h) fun v s1 h1 => thn h1 fun itv s2 h2 => ?_) hs
  obtain ⟨it, fp, tn, J, H2, e, I2, T, st2, f2, W, ⟨m0, w0⟩, turn⟩ := h2
  subst e
  -- what stays true of the iterator's objects through the loop
  have stat : ∀ {H' : Hp}, (∀ b ∈ fp, H' b = none) → ∀ b ∈ fp, FpOk X pins H' b := fun hn b hb => ⟨hn b hb, (f2 b hb).2⟩
  refine codeAny_forLoop_any (fun n s' => ∃ i σ' H', Inv X pins σ' H' s' ∧ tn i s'.heap ∧ (∀ b ∈ fp, H' b = none) ∧ W i n σ' H') ?_ m0 ⟨0, σ, H2, I2, st2, fun b hb => (f2 b hb).1, w0⟩
  rintro n s3 ⟨i, σ3, H3, I3, st3, fr3, w3⟩
  rcases turn i n σ3 H3 w3 with ⟨stop, qn⟩ | ⟨go, N, hN, step⟩
  · refine wpAny_passesOwn hp (thn (T.done X rfl rfl rfl hc i pins s3 σ3 H3 X.xe I3 (stat fr3) st3 stop) fun r s4 ⟨hr, I4⟩ => ?_)
    subst hr
    exact wpAny_execs_nil ⟨σ3, H3, I4, qn⟩
  · refine wpAny_passesOwn hp (thn (T.item X rfl rfl rfl hc i pins s3 σ3 H3 X.xe I3 (stat fr3) st3 go) fun r s4 ⟨u, hr, h4⟩ => ?_)
    subst hr
    refine wpAny_passesOwn hp (thn h4 fun _ s5 ⟨x, H5, I5, r5, y5, st5, fr5⟩ => ?_)
    have I5' := I5.pinned (stat fr5) (T.obj _ _ st5)
    refine wpAny_passesOwn hp (thn (hg _ s5 σ3 H5 x u _ I5' r5 (step x H5 y5)) fun _ s6 ⟨σ6, H6, I6, q6⟩ => ?_)
    refine wpAny_passesOwn hp (thn (hb _ s6 σ6 H6 _ I6 q6) fun f s7 q7 => ?_)
    have again : ∀ {σ7 : St} {H7 : Hp}, Inv X (pins ++ pinsAt fp s5.heap) σ7 H7 s7 → N σ7 H7 → ∃ m, m < n ∧ ∃ i σ' H', Inv X pins σ' H' s7 ∧ tn i s7.heap ∧ (∀ b ∈ fp, H' b = none) ∧ W i m σ' H' := fun {σ7 H7} I7 n7 => by
      obtain ⟨m', hm, w7⟩ := hN σ7 H7 n7
      refine ⟨m', hm, i + 1, σ7, H7, I7.unpinned, T.keep _ _ _ st5 fun b hb o e => (I7.pin (b, o) (List.mem_append_right _ (List.mem_append_right _ (mem_pinsAt hb e)))).1, fun b hb => ?_, w7⟩
      obtain ⟨o, e, d⟩ := T.obj _ _ st5 b hb
      exact (I7.pin (b, o) (List.mem_append_right _ (List.mem_append_right _ (mem_pinsAt hb e)))).2.1
    cases f with
    | next => obtain ⟨σ7, H7, I7, n7⟩ := q7; exact again I7 n7
    | cont => obtain ⟨σ7, H7, I7, n7⟩ := q7; exact again I7 n7
    | brk => obtain ⟨σ7, H7, I7, q7⟩ := q7; exact ⟨σ7, H7, I7.unpinned, q7⟩
    | ret v => obtain ⟨x7, σ7, H7, I7, r7, q7⟩ := q7; exact ⟨x7, σ7, H7, I7.unpinned, r7, q7⟩
end

/-- over a list that the body leaves as it is -/
theorem for_list {K : PySem.W.Frag} {a : Addr} {xs : List V} {g : TG} {tb : TS} {D : Ends} {σ : St} {H : Hp} (Pv : Nat → St → Hp → Prop) (h0 : Pv 0 σ H) (hl : ∀ i σ H, i ≤ xs.length → Pv i σ H → SqL K H a xs)
    (hs : ∀ i x σ H, xs[i]? = some x → Pv i σ H → g x σ H fun σ2 H2 => tb { D with nx := Pv (i + 1), ct := Pv (i + 1), bk := D.nx } σ2 H2) (hd : ∀ σ H, Pv xs.length σ H → D.nx σ H) :
    ∃ W : Nat → Nat → St → Hp → Prop, (∃ m, W 0 m σ H) ∧ ∀ i m σ H, W i m σ H →
      ((Itl K a).stop i H ∧ D.nx σ H) ∨ ((Itl K a).go i H ∧ ∃ N : St → Hp → Prop, (∀ σ' H', N σ' H' → ∃ m', m' < m ∧ W (i + 1) m' σ' H') ∧ ∀ x H', (Itl K a).yld i H x H' → g x σ H' fun σ2 H2 => tb { D with nx := N, ct := N, bk := D.nx } σ2 H2) := by
  refine ⟨fun i m σ H => m = xs.length - i ∧ i ≤ xs.length ∧ Pv i σ H, ⟨xs.length, by simp, Nat.zero_le _, h0⟩, ?_⟩
  rintro i m σ H ⟨rfl, hi, p⟩
  have q := hl i σ H hi p
  by_cases hlt : i < xs.length
  · refine .inr ⟨⟨xs, xs[i], q, by simp [hlt]⟩, Pv (i + 1), fun σ' H' p' => ⟨xs.length - (i + 1), by omega, rfl, hlt, p'⟩, fun x H' y => ?_⟩
    obtain ⟨e, y⟩ := y
    subst e
    exact hs i x σ _ (y xs q) p
  · have e : i = xs.length := by omega
    subst e
    exact .inl ⟨⟨xs, q, Nat.le_refl _⟩, hd σ H p⟩
theorem for_tup {K : PySem.W.Frag} {a : Addr} {xs : List V} {g : TG} {tb : TS} {D : Ends} {σ : St} {H : Hp} (Pv : Nat → St → Hp → Prop) (h0 : Pv 0 σ H) (hl : ∀ i σ H, i ≤ xs.length → Pv i σ H → SqT K H a xs)
    (hs : ∀ i x σ H, xs[i]? = some x → Pv i σ H → g x σ H fun σ2 H2 => tb { D with nx := Pv (i + 1), ct := Pv (i + 1), bk := D.nx } σ2 H2) (hd : ∀ σ H, Pv xs.length σ H → D.nx σ H) :
    ∃ W : Nat → Nat → St → Hp → Prop, (∃ m, W 0 m σ H) ∧ ∀ i m σ H, W i m σ H →
      ((Itt K a).stop i H ∧ D.nx σ H) ∨ ((Itt K a).go i H ∧ ∃ N : St → Hp → Prop, (∀ σ' H', N σ' H' → ∃ m', m' < m ∧ W (i + 1) m' σ' H') ∧ ∀ x H', (Itt K a).yld i H x H' → g x σ H' fun σ2 H2 => tb { D with nx := N, ct := N, bk := D.nx } σ2 H2) := by
  refine ⟨fun i m σ H => m = xs.length - i ∧ i ≤ xs.length ∧ Pv i σ H, ⟨xs.length, by simp, Nat.zero_le _, h0⟩, ?_⟩
  rintro i m σ H ⟨rfl, hi, p⟩
  have q := hl i σ H hi p
  by_cases hlt : i < xs.length
  · refine .inr ⟨⟨xs, xs[i], q, by simp [hlt]⟩, Pv (i + 1), fun σ' H' p' => ⟨xs.length - (i + 1), by omega, rfl, hlt, p'⟩, fun x H' y => ?_⟩
    obtain ⟨e, y⟩ := y
    subst e
    exact hs i x σ _ (y xs q) p
  · have e : i = xs.length := by omega
    subst e
    exact .inl ⟨⟨xs, q, Nat.le_refl _⟩, hd σ H p⟩
theorem for_range {lo : Int} {n : Nat} {g : TG} {tb : TS} {D : Ends} {σ : St} {H : Hp} (Pv : Nat → St → Hp → Prop) (h0 : Pv 0 σ H)
    (hs : ∀ i σ H, i < n → Pv i σ H → g (.int (lo + i)) σ H fun σ2 H2 => tb { D with nx := Pv (i + 1), ct := Pv (i + 1), bk := D.nx } σ2 H2) (hd : ∀ σ H, Pv n σ H → D.nx σ H) :
    ∃ W : Nat → Nat → St → Hp → Prop, (∃ m, W 0 m σ H) ∧ ∀ i m σ H, W i m σ H →
      ((Itr lo n).stop i H ∧ D.nx σ H) ∨ ((Itr lo n).go i H ∧ ∃ N : St → Hp → Prop, (∀ σ' H', N σ' H' → ∃ m', m' < m ∧ W (i + 1) m' σ' H') ∧ ∀ x H', (Itr lo n).yld i H x H' → g x σ H' fun σ2 H2 => tb { D with nx := N, ct := N, bk := D.nx } σ2 H2) := by
  refine ⟨fun i m σ H => m = n - i ∧ i ≤ n ∧ Pv i σ H, ⟨n, by simp, Nat.zero_le _, h0⟩, ?_⟩
  rintro i m σ H ⟨rfl, hi, p⟩
  by_cases hlt : i < n
  · refine .inr ⟨hlt, Pv (i + 1), fun σ' H' p' => ⟨n - (i + 1), by omega, rfl, hlt, p'⟩, fun x H' y => ?_⟩
    obtain ⟨e, y⟩ := y
    subst e y
    exact hs i σ _ hlt p
  · have e : i = n := by omega
    subst e
    exact .inl ⟨Nat.le_refl _, hd σ H p⟩
/-- while, by a word and a measure of the state -/
theorem while_by {c : TT} {tb : TS} {D : Ends} {σ : St} {H : Hp} (Pv : St → Hp → Prop) (μ : St → Hp → Nat) (h0 : Pv σ H)
    (hs : ∀ σ H, Pv σ H → c σ H fun b H1 => if b = true then tb { D with nx := fun σ' H' => Pv σ' H' ∧ μ σ' H' < μ σ H, ct := fun σ' H' => Pv σ' H' ∧ μ σ' H' < μ σ H, bk := D.nx } σ H1 else D.nx σ H1)
    (mono : ∀ σ H Q Q', (∀ b H1, Q b H1 → Q' b H1) → c σ H Q → c σ H Q') : tWhile c tb D σ H := by
  refine ⟨fun m σ H => m = μ σ H ∧ Pv σ H, ⟨_, rfl, h0⟩, ?_⟩
  rintro m σ H ⟨rfl, p⟩
  refine mono σ H _ _ (fun b H1 q => ?_) (hs σ H p)
  cases b with
  | true => exact ⟨_, fun σ' H' ⟨p', l⟩ => ⟨_, l, rfl, p'⟩, q⟩
  | false => exact q
end L2

namespace L2
open PySem PySem.Spec PyProof.Rows

abbrev R2 := V → V → Hp → VK → Prop
/-- a two-place operation on values: f is binaryOp op, inplaceOp op or compareOp op -/
def OpR (X : Cx) (f : Value → Value → Sem Value) (r : R2) : Prop :=
  ∀ (pins : List (Addr × Obj)) (s : Shared) (σ : St) (H : Hp) (x y : V) (v u : Value) (Q : VK), Inv X pins σ H s → RelV x v → RelV y u → r x y H Q →
    wpAny (model X.prog X.w) X.A (f v u) (EP X pins σ Q) X.xe s
/-- a one-place operation -/
def UnR (X : Cx) (f : Value → Sem Value) (r : V → Hp → VK → Prop) : Prop :=
  ∀ (pins : List (Addr × Obj)) (s : Shared) (σ : St) (H : Hp) (x : V) (v : Value) (Q : VK), Inv X pins σ H s → RelV x v → r x H Q →
    wpAny (model X.prog X.w) X.A (f v) (EP X pins σ Q) X.xe s
/-- a call of a value that is known (a builtin, a type) with values -/
def CallR (X : Cx) (f : Value) (r : List V → Hp → VK → Prop) : Prop :=
  ∀ (pins : List (Addr × Obj)) (s : Shared) (σ : St) (H : Hp) (xs : List V) (us : List Value) (Q : VK), Inv X pins σ H s → Vals xs us → r xs H Q →
    wpAny (model X.prog X.w) X.A (call f us) (EP X pins σ Q) X.xe s
def tOp (r : R2) (ta tb : TE) : TE := fun σ H Q => ta σ H fun x H1 => tb σ H1 fun y H2 => r x y H2 Q
def tUn (r : V → Hp → VK → Prop) (ta : TE) : TE := fun σ H Q => ta σ H fun x H1 => r x H1 Q
/-- ints in, under C, and a value out -/
def rI (C : Int → Int → Prop) (g : Int → Int → V) : R2 := fun x y H Q => ∃ i j, x = .int i ∧ y = .int j ∧ C i j ∧ Q (g i j) H
def rI0 (g : Int → Int → V) : R2 := fun x y H Q => ∃ i j, x = .int i ∧ y = .int j ∧ Q (g i j) H
def rU (g : Int → V) : V → Hp → VK → Prop := fun x H Q => ∃ i, x = .int i ∧ Q (g i) H

section
variable {X : Cx} {a b c : Expr} {ta tb tc : TE} {pos : Pos}

theorem binT (ha : PE X a ta) (hb : PE X b tb) {pins : List (Addr × Obj)} {s : Shared} {σ : St} {H : Hp} {R : V → V → Hp → Prop} (I : Inv X pins σ H s)
    (h : ta σ H fun x H1 => tb σ H1 fun y H2 => R x y H2) {Q : Value → Shared → Prop} {f : Value → Value → Sem Value}
    (hf : ∀ v u s2 x y H2, Inv X pins σ H2 s2 → RelV x v → RelV y u → R x y H2 → wpAny (model X.prog X.w) X.A (f v u) Q X.xe s2) :
    wpAny (model X.prog X.w) X.A (eval a X.env) (fun v s₁ => wpAny (model X.prog X.w) X.A (eval b X.env) (fun u s₂ => wpAny (model X.prog X.w) X.A (f v u) Q X.xe s₂) X.xe s₁) X.xe s := by
  refine thn (ha pins s σ H _ I h) fun v s1 ⟨x, H1, I1, r1, q1⟩ => ?_
  refine thn (hb pins s1 σ H1 _ I1 q1) fun u s2 ⟨y, H2, I2, r2, q2⟩ => ?_
  exact hf v u s2 x y H2 I2 r1 r2 q2

theorem pe_op {op : Operator} {r : R2} (ho : OpR X (binaryOp op) r) (ha : PE X a ta) (hb : PE X b tb) : PE X (.BinOp a op b pos) (tOp r ta tb) := by
  intro pins s σ H Q I h
  exact wpAny_BinOp (binT ha hb I h fun v u s2 x y H2 I2 rx ry q => ho pins s2 σ H2 x y v u Q I2 rx ry q)
theorem pe_un {op : UnaryOp} {r : V → Hp → VK → Prop} (ho : UnR X (unaryOp op) r) (ha : PE X a ta) : PE X (.UnaryOp op a pos) (tUn r ta) := by
  intro pins s σ H Q I h
  exact UnaryOp_ (thn (ha pins s σ H _ I h) fun v s1 ⟨x, H1, I1, r1, q1⟩ => ho pins s1 σ H1 x v Q I1 r1 q1)
theorem opI {f : Value → Value → Sem Value} {C : Int → Int → Prop} {g : Int → Int → Int}
    (rule : ∀ (i j : Int) (t u : Tok) (s : Shared) (Q : Value → Shared → Prop) (E : Value → Shared → Prop), C i j → Q (.int (g i j) s.toks) { s with toks := s.toks + 1 } → wpAny (model X.prog X.w) X.A (f (.int i t) (.int j u)) Q E s) :
    OpR X f (rI C fun i j => .int (g i j)) := by
  intro pins s σ H x y v u Q I rx ry h
  obtain ⟨i, j, rfl, rfl, hc, q⟩ := h
  obtain ⟨t, rfl⟩ := rx
  obtain ⟨t', rfl⟩ := ry
  exact rule i j t t' s _ _ hc ⟨.int (g i j), H, I.tok _, ⟨_, rfl⟩, q⟩
theorem opI0 {f : Value → Value → Sem Value} {g : Int → Int → Int}
    (rule : ∀ (i j : Int) (t u : Tok) (s : Shared) (Q : Value → Shared → Prop) (E : Value → Shared → Prop), Q (.int (g i j) s.toks) { s with toks := s.toks + 1 } → wpAny (model X.prog X.w) X.A (f (.int i t) (.int j u)) Q E s) :
    OpR X f (rI0 fun i j => .int (g i j)) := by
  intro pins s σ H x y v u Q I rx ry h
  obtain ⟨i, j, rfl, rfl, q⟩ := h
  obtain ⟨t, rfl⟩ := rx
  obtain ⟨t', rfl⟩ := ry
  exact rule i j t t' s _ _ ⟨.int (g i j), H, I.tok _, ⟨_, rfl⟩, q⟩
theorem opB0 {f : Value → Value → Sem Value} {g : Int → Int → Bool}
    (rule : ∀ (i j : Int) (t u : Tok) (s : Shared) (Q : Value → Shared → Prop) (E : Value → Shared → Prop), Q (.bool (g i j)) s → wpAny (model X.prog X.w) X.A (f (.int i t) (.int j u)) Q E s) :
    OpR X f (rI0 fun i j => .bl (g i j)) := by
  intro pins s σ H x y v u Q I rx ry h
  obtain ⟨i, j, rfl, rfl, q⟩ := h
  obtain ⟨t, rfl⟩ := rx
  obtain ⟨t', rfl⟩ := ry
  exact rule i j t t' s _ _ ⟨.bl (g i j), H, I, rfl, q⟩

def CDiv (i j : Int) : Prop := 0 < j ∧ j < 1073741824
def CMul (i j : Int) : Prop := (-(2 ^ 64) < i ∧ i < 2 ^ 64) ∨ (-(2 ^ 64) < j ∧ j < 2 ^ 64)
theorem CMul.ok {i j : Int} (h : CMul i j) : IntMulOk i j := by
  rcases h with ⟨h1, h2⟩ | ⟨h1, h2⟩
  · exact .of_left (intBits_le_64 h1 h2)
  · exact .of_right (intBits_le_64 h1 h2)
theorem op_add : OpR X (binaryOp .Add) (rI0 fun i j => .int (i + j)) := opI0 fun _ _ _ _ _ _ _ q => add_int q
theorem op_mul : OpR X (binaryOp .Mult) (rI CMul fun i j => .int (i * j)) := opI fun _ _ _ _ _ _ _ hc q => mul_int q hc.ok
/-- // by a positive divisor -/
theorem op_fdiv : OpR X (binaryOp .FloorDiv) (rI CDiv fun i j => .int (i / j)) := opI fun i j _ _ _ _ _ hc q => by
  have h1 : (0 : Int) < j := hc.1
  have h2 : j < 1073741824 := hc.2
  exact floordiv_int (by omega) (by rw [Int.fdiv_eq_ediv_of_nonneg i (by omega)]; exact q) (.inl (PyProof.noPylong_small (by omega)))
/-- % by a positive divisor of any size -/
theorem op_mod : OpR X (binaryOp .Mod) (rI (fun _ j => 0 < j) fun i j => .int (i % j)) := opI fun i j _ _ _ _ _ hc q => by
  have h1 : (0 : Int) < j := hc
  exact mod_int' (by omega) (by rw [Int.fmod_eq_emod_of_nonneg i (by omega)]; exact q)
theorem unI {f : Value → Sem Value} {g : Int → Int}
    (rule : ∀ (i : Int) (t : Tok) (s : Shared) (Q : Value → Shared → Prop) (E : Value → Shared → Prop), Q (.int (g i) s.toks) { s with toks := s.toks + 1 } → wpAny (model X.prog X.w) X.A (f (.int i t)) Q E s) :
    UnR X f (rU fun i => .int (g i)) := by
  intro pins s σ H x v Q I rx h
  obtain ⟨i, rfl, q⟩ := h
  obtain ⟨t, rfl⟩ := rx
  exact rule i t s _ _ ⟨.int (g i), H, I.tok _, ⟨_, rfl⟩, q⟩
theorem un_neg : UnR X (unaryOp .USub) (rU fun i => .int (-i)) := unI fun _ _ _ _ _ q => neg_int q
end

/-- the scalars that == tells apart as data does -/
def scal : V → V → Bool
  | .non, .non => true | .non, .int _ => true | .int _, .non => true | .non, .bl _ => true | .bl _, .non => true | .non, .str _ => true | .str _, .non => true
  | .int _, .int _ => true | .bl _, .bl _ => true | .str _, .str _ => true | .byt _, .byt _ => true
  | .int _, .str _ => true | .str _, .int _ => true | .bl _, .str _ => true | .str _, .bl _ => true
  | _, _ => false
def rEq : R2 := fun x y H Q => scal x y = true ∧ Q (.bl (decide (x = y))) H
def rNe : R2 := fun x y H Q => scal x y = true ∧ Q (.bl (!decide (x = y))) H

theorem dec_int {i j : Int} : decide (V.int i = V.int j) = (i == j) := by
  rw [Bool.eq_iff_iff]
  simp
theorem dec_bl {i j : Bool} : decide (V.bl i = V.bl j) = (i == j) := by
  rw [Bool.eq_iff_iff]
  simp
theorem dec_str {i j : Str} : decide (V.str i = V.str j) = (i == j) := by
  rw [Bool.eq_iff_iff]
  simp
theorem dec_byt {i j : Array UInt8} : decide (V.byt i = V.byt j) = (i.toList == j.toList) := by
  rw [Bool.eq_iff_iff]
  cases i
  cases j
  simp

section
variable {X : Cx} {a b c : Expr} {ta tb tc : TE} {pos : Pos}
theorem fin_bl {pins : List (Addr × Obj)} {σ : St} {H : Hp} {s : Shared} {Q : VK} {k k' : Bool} (I : Inv X pins σ H s) (q : Q (.bl k) H) (e : k = k') : EP X pins σ Q (.bool k') s := by
  subst e
  exact ⟨.bl k, H, I, rfl, q⟩
theorem op_eq : OpR X (compareOp .Eq) rEq := by
  intro pins s σ H x y v u Q I rx ry h
  obtain ⟨hs, q⟩ := h
  cases x with
  | non =>
    cases rx
    cases y with
    | non => cases ry; exact PySem.EqNone.eq_none_none (fin_bl I q (by simp))
    | bl j => cases ry; exact PySem.EqNone.eq_none_bool (fin_bl I q (by simp))
    | int j => obtain ⟨t', rfl⟩ := ry; exact PySem.EqNone.eq_none_int (fin_bl I q (by simp))
    | str j => obtain ⟨t', rfl⟩ := ry; exact PySem.EqNone.eq_none_str (fin_bl I q (by simp))
    | _ => exact absurd (show false = true from hs) Bool.false_ne_true
  | bl i =>
    cases rx
    cases y with
    | non => cases ry; exact PySem.EqNone.eq_bool_none (fin_bl I q (by simp))
    | bl j => cases ry; exact eq_bool (fin_bl I q dec_bl)
    | str j => obtain ⟨t', rfl⟩ := ry; exact PySem.EqMixed.eq_bool_str (fin_bl I q (by simp))
    | _ => exact absurd (show false = true from hs) Bool.false_ne_true
  | int i =>
    obtain ⟨t, rfl⟩ := rx
    cases y with
    | non => cases ry; exact PySem.EqNone.eq_int_none (fin_bl I q (by simp))
    | int j => obtain ⟨t', rfl⟩ := ry; exact eq_int (fin_bl I q dec_int)
    | str j => obtain ⟨t', rfl⟩ := ry; exact PySem.EqMixed.eq_int_str (fin_bl I q (by simp))
    | _ => exact absurd (show false = true from hs) Bool.false_ne_true
  | str i =>
    obtain ⟨t, rfl⟩ := rx
    cases y with
    | non => cases ry; exact PySem.EqNone.eq_str_none (fin_bl I q (by simp))
    | bl j => cases ry; exact PySem.EqMixed.eq_str_bool (fin_bl I q (by simp))
    | int j => obtain ⟨t', rfl⟩ := ry; exact PySem.EqMixed.eq_str_int (fin_bl I q (by simp))
    | str j => obtain ⟨t', rfl⟩ := ry; exact eq_str (fin_bl I q dec_str)
    | _ => exact absurd (show false = true from hs) Bool.false_ne_true
  | byt i =>
    obtain ⟨t, rfl⟩ := rx
    cases y with
    | byt j => obtain ⟨t', rfl⟩ := ry; exact PySem.W.eq_bytes (fin_bl I q dec_byt)
    | _ => exact absurd (show false = true from hs) Bool.false_ne_true
  | _ => cases y <;> exact absurd (show false = true from hs) Bool.false_ne_true
theorem op_ne : OpR X (compareOp .NotEq) rNe := by
  intro pins s σ H x y v u Q I rx ry h
  obtain ⟨hs, q⟩ := h
  cases x with
  | non =>
    cases rx
    cases y with
    | non => cases ry; exact PySem.EqNone.ne_none_none (fin_bl I q (by simp))
    | bl j => cases ry; exact PySem.EqNone.ne_none_bool (fin_bl I q (by simp))
    | int j => obtain ⟨t', rfl⟩ := ry; exact PySem.EqNone.ne_none_int (fin_bl I q (by simp))
    | str j => obtain ⟨t', rfl⟩ := ry; exact PySem.EqNone.ne_none_str (fin_bl I q (by simp))
    | _ => exact absurd (show false = true from hs) Bool.false_ne_true
  | bl i =>
    cases rx
    cases y with
    | non => cases ry; exact PySem.EqNone.ne_bool_none (fin_bl I q (by simp))
    | bl j => cases ry; exact ne_bool (fin_bl I q (congrArg not dec_bl))
    | str j => obtain ⟨t', rfl⟩ := ry; exact PySem.EqMixed.ne_bool_str (fin_bl I q (by simp))
    | _ => exact absurd (show false = true from hs) Bool.false_ne_true
  | int i =>
    obtain ⟨t, rfl⟩ := rx
    cases y with
    | non => cases ry; exact PySem.EqNone.ne_int_none (fin_bl I q (by simp))
    | int j => obtain ⟨t', rfl⟩ := ry; exact ne_int (fin_bl I q (congrArg not dec_int))
    | str j => obtain ⟨t', rfl⟩ := ry; exact PySem.EqMixed.ne_int_str (fin_bl I q (by simp))
    | _ => exact absurd (show false = true from hs) Bool.false_ne_true
  | str i =>
    obtain ⟨t, rfl⟩ := rx
    cases y with
    | non => cases ry; exact PySem.EqNone.ne_str_none (fin_bl I q (by simp))
    | bl j => cases ry; exact PySem.EqMixed.ne_str_bool (fin_bl I q (by simp))
    | int j => obtain ⟨t', rfl⟩ := ry; exact PySem.EqMixed.ne_str_int (fin_bl I q (by simp))
    | str j => obtain ⟨t', rfl⟩ := ry; exact ne_str (fin_bl I q (congrArg not dec_str))
    | _ => exact absurd (show false = true from hs) Bool.false_ne_true
  | byt i =>
    obtain ⟨t, rfl⟩ := rx
    cases y with
    | byt j => obtain ⟨t', rfl⟩ := ry; exact PySem.W.ne_bytes (fin_bl I q (congrArg not dec_byt))
    | _ => exact absurd (show false = true from hs) Bool.false_ne_true
  | _ => cases y <;> exact absurd (show false = true from hs) Bool.false_ne_true

theorem op_lt : OpR X (compareOp .Lt) (rI0 fun i j => .bl (decide (i < j))) := opB0 fun _ _ _ _ _ _ _ q => lt_int q
theorem op_le : OpR X (compareOp .LtE) (rI0 fun i j => .bl (decide (i ≤ j))) := opB0 fun _ _ _ _ _ _ _ q => le_int q
theorem op_gt : OpR X (compareOp .Gt) (rI0 fun i j => .bl (decide (j < i))) := opB0 fun _ _ _ _ _ _ _ q => gt_int q
/-- the one string within the other -/
theorem op_in_str : OpR X (compareOp .In) (fun x y H Q => ∃ i j, x = .str i ∧ y = .str j ∧ Q (.bl (!(Builtin.Str.occurrences j i 0 j.length 1).isEmpty)) H) := by
  intro pins s σ H x y v u Q I rx ry h
  obtain ⟨i, j, rfl, rfl, q⟩ := h
  obtain ⟨t, rfl⟩ := rx
  obtain ⟨t', rfl⟩ := ry
  exact in_str (fin_bl I q rfl)

theorem nomark (b : Expr) {op : CmpOp} (h : op ≠ .In := by decide) (h2 : op ≠ .NotIn := by decide) : behindInMarks op b = false := by
  have e1 : (op == CmpOp.In) = false := by cases op <;> first | rfl | exact absurd rfl h
  have e2 : (op == CmpOp.NotIn) = false := by cases op <;> first | rfl | exact absurd rfl h2
  cases b <;> simp [behindInMarks, e1, e2]
/-- a comparison as a value; hm: nomark b, or (for in, not in) by with_unfolding_all rfl -/
theorem pe_cmpR {op : CmpOp} {r : R2} (ho : OpR X (compareOp op) r) (ha : PE X a ta) (hb : PE X b tb) (hm : behindInMarks op b = false) : PE X (.Compare a [op] [b] pos) (tOp r ta tb) := by
  intro pins s σ H Q I h
  exact wpAny_Compare1 (binT ha hb I h fun v u s2 x y H2 I2 rx ry q => ho pins s2 σ H2 x y v u Q I2 rx ry q) hm
/-- a reading of a value as a test -/
def tTest (t : TE) : TT := fun σ H Q => t σ H fun x H' => ∃ k, x = .bl k ∧ Q k H'
theorem pt_cmpR {op : CmpOp} {r : R2} (ho : OpR X (compareOp op) r) (ha : PE X a ta) (hb : PE X b tb) (hm : behindInMarks op b = false) : PT X (.Compare a [op] [b] pos) (tTest (tOp r ta tb)) := by
  intro pins s σ H Q I h
  refine wpAny_isTrue_Compare1 (thn (ha pins s σ H _ I h) fun v s1 ⟨x, H1, I1, r1, q1⟩ => thn (hb pins s1 σ H1 _ I1 q1) fun u s2 ⟨y, H2, I2, r2, q2⟩ =>
    thn (ho pins s2 σ H2 x y v u _ I2 r1 r2 q2) fun c s3 ⟨z, H3, I3, r3, k, e, q3⟩ => ?_) hm
  subst e
  cases r3
  exact wpAny_truthy_bool ⟨H3, I3, q3⟩
/-- a op1 b op2 c -/
def tChain (r r' : R2) (ta tb tc : TE) : TE := fun σ H Q => ta σ H fun x H1 => tb σ H1 fun y H2 => r x y H2 fun z H3 => ∃ k, z = .bl k ∧
  (if k = true then tc σ H3 fun w' H4 => r' y w' H4 Q else Q (.bl false) H3)
theorem pe_chain {op op' : CmpOp} {r r' : R2} (ho : OpR X (compareOp op) r) (ho' : OpR X (compareOp op') r') (ha : PE X a ta) (hb : PE X b tb) (hc : PE X c tc)
    (hm : lastMarks [op, op'] [b, c] = false := by with_unfolding_all rfl) : PE X (.Compare a [op, op'] [b, c] pos) (tChain r r' ta tb tc) := by
  intro pins s σ H Q I h
  refine Compare_chain (thn (ha pins s σ H _ I h) fun v s1 ⟨x, H1, I1, r1, q1⟩ => chain_link (thn (hb pins s1 σ H1 _ I1 q1) fun u s2 ⟨y, H2, I2, r2, q2⟩ =>
    thn (ho pins s2 σ H2 x y v u _ I2 r1 r2 q2) fun d s3 ⟨z, H3, I3, r3, k, e, q3⟩ => ?_)) hm
  subst e
  cases r3
  refine wpAny_truthy_bool ?_
  cases k with
  | false => exact ite_ff ⟨.bl false, H3, I3, rfl, q3⟩
  | true => exact ite_tt (chain_last (thn (hc pins s3 σ H3 _ I3 q3) fun w' s4 ⟨z', H4, I4, r4, q4⟩ => ho' pins s4 σ H4 y z' u w' Q I4 r2 r4 q4))
theorem pt_chain {op op' : CmpOp} {r r' : R2} (ho : OpR X (compareOp op) r) (ho' : OpR X (compareOp op') r') (ha : PE X a ta) (hb : PE X b tb) (hc : PE X c tc)
    (hm : lastMarks [op, op'] [b, c] = false := by with_unfolding_all rfl) : PT X (.Compare a [op, op'] [b, c] pos) (tTest (tChain r r' ta tb tc)) := by
  intro pins s σ H Q I h
  refine isTrue_chain (thn (ha pins s σ H _ I h) fun v s1 ⟨x, H1, I1, r1, q1⟩ => test_link (thn (hb pins s1 σ H1 _ I1 q1) fun u s2 ⟨y, H2, I2, r2, q2⟩ =>
    thn (ho pins s2 σ H2 x y v u _ I2 r1 r2 q2) fun d s3 ⟨z, H3, I3, r3, k, e, q3⟩ => ?_)) hm
  subst e
  cases r3
  refine wpAny_truthy_bool ?_
  cases k with
  | false =>
    obtain ⟨k', e', q'⟩ := q3
    cases e'
    exact ite_ff ⟨H3, I3, q'⟩
  | true =>
    refine ite_tt (test_last (thn (hc pins s3 σ H3 _ I3 q3) fun w' s4 ⟨z', H4, I4, r4, q4⟩ => thn (ho' pins s4 σ H4 y z' u w' _ I4 r2 r4 q4) fun d' s5 ⟨z2, H5, I5, r5, k2, e2, q5⟩ => ?_))
    subst e2
    cases r5
    exact wpAny_truthy_bool ⟨H5, I5, q5⟩

theorem line63 : (sizeLine : Nat) < 2 ^ 63 := by rw [sizeLine_eq]; decide
theorem op_add_str : OpR X (binaryOp .Add) (fun x y H Q => ∃ i j, x = .str i ∧ y = .str j ∧ i.length + j.length ≤ sizeLine ∧ Q (.str (i ++ j)) H) := by
  intro pins s σ H x y v u Q I rx ry h
  obtain ⟨i, j, rfl, rfl, hz, q⟩ := h
  obtain ⟨t, rfl⟩ := rx
  obtain ⟨t', rfl⟩ := ry
  exact add_str (fun t' tk => ⟨.str (i ++ j), H, I.tok _, ⟨_, rfl⟩, q⟩) hz
theorem vals1 {x : V} {us : List Value} (r : Vals [x] us) : ∃ u, us = [u] ∧ RelV x u := by
  cases r with
  | cons r1 r2 => cases r2; exact ⟨_, rfl, r1⟩
theorem vals2 {x y : V} {us : List Value} (r : Vals [x, y] us) : ∃ u w', us = [u, w'] ∧ RelV x u ∧ RelV y w' := by
  cases r with
  | cons r1 r2 =>
    cases r2 with
    | cons r3 r4 => cases r4; exact ⟨_, _, rfl, r1, r3⟩
end
end L2

namespace L2
open PySem PySem.Spec PyProof.Rows

structure ObjM (h : Heap) (x dx C : Addr) (mA : Str → Option Value) : Prop where
  obj : h.get? x = some (PySem.W.instObj C dx)
  ns : h.Ns1 dx mA
  ne : dx ≠ x

theorem lookIn_ns {h : Heap} {dx : Addr} {mA : Str → Option Value} (n : h.Ns1 dx mA) : ∃ od, h.get? dx = some od ∧ ∀ name, PySem.W.lookIn name od = some (mA name) := by
  obtain ⟨o, es, ep, ho, hd, hk, _, hm⟩ := n
  refine ⟨o, ho, fun name => ?_⟩
  have e := hm name
  unfold nsFind findBy at e
  rw [← Array.find?_toList] at e
  unfold PySem.W.lookIn
  rw [hd]
  dsimp only
  split
  · rename_i y q
    rw [q] at e
    exact congrArg some e
  · rename_i q
    rw [q] at e
    have a : es.toList.any (·.refKey) = false := by
      rw [List.any_eq_false]
      intro y hy
      obtain ⟨z, t, hkey⟩ := hk y (Array.mem_toList_iff.mp hy)
      simp [DictEntry.refKey, hkey]
    have a' : ¬ es.toList.any (·.refKey) = true := by rw [a]; exact Bool.false_ne_true
    rw [if_neg a']
    exact congrArg some e

theorem ObjM.look {h : Heap} {x dx C : Addr} {mA : Str → Option Value} (I : ObjM h x dx C mA) : ∃ od, PySem.W.InstAt h x (PySem.W.instObj C dx) C (some od) ∧ ∀ name, PySem.W.lookIn name od = some (mA name) :=
  let ⟨od, ho, hl⟩ := lookIn_ns I.ns
  ⟨od, ⟨I.obj, rfl, rfl, ho⟩, hl⟩

section
variable {prog : Program} {w : World} {A : Around} {E : Value → Shared → Prop} {s : Shared} {K : PySem.W.Frag} {x dx C f : Addr} {mA : Str → Option Value} {name : Str} {v : Value}

end

theorem RelO.some_of {v : V} {o : Option Value} (r : RelO (some v) o) : ∃ u, o = some u ∧ RelV v u := by
  cases o with
  | none => exact (show False from r).elim
  | some u => exact ⟨u, rfl, r⟩
theorem handed_of {v : V} {u : Value} (r : RelV v u) : PySem.W.handedIn u = true := by
  cases v with
  | non => cases (show u = Value.none from r); rfl
  | bl b => cases (show u = Value.bool b from r); rfl
  | int i => obtain ⟨t, e⟩ := (show ∃ t, u = Value.int i t from r); cases e; rfl
  | str x => obtain ⟨t, e⟩ := (show ∃ t, u = Value.str x t from r); cases e; rfl
  | byt b => obtain ⟨t, e⟩ := (show ∃ t, u = Value.bytes b t from r); cases e; rfl
  | flt b => obtain ⟨t, e⟩ := (show ∃ t, u = Value.float b t from r); cases e; rfl
  | ref a => cases (show u = Value.ref a from r); rfl
  | ty n => cases (show u = Value.type n from r); rfl

section
variable {P : Program} {w : World} {H H' : Hp} {h h' : Heap} {a C dx : Addr} {fs fs' : List (Str × V)}
theorem ins_get (hok : HOk P w H h) (e : H a = some (.ins C dx fs)) : ∃ mA, ObjM h a dx C mA ∧ (∀ f, RelO (fs.lookup f) (mA f)) ∧ PySem.Within mA (fs.map (·.1)) ∧ fs.length ≤ 1000 ∧ H dx = some (.own a) := by
  obtain ⟨d, z, ne, ob, mA, n, r, q⟩ := (show ObjOk P w H h a (.ins C dx fs) from hok a _ e)
  exact ⟨mA, ⟨ob, n, ne⟩, r, q, z, d⟩
end

structure Cls (K : PySem.W.Frag) (C : Addr) : Prop where
  pg : PySem.W.plainGet K C Str.empty = true
  hd : PySem.W.hasDictIn K C = true
  po : PySem.W.plainOver K C = true
  sa : PySem.W.findIn K (.ref C) "__setattr__" = some (some (.builtin "object.__setattr__"))
theorem Cls.get {K : PySem.W.Frag} {C : Addr} (c : Cls K C) (f : Str) : PySem.W.plainGet K C f = true := c.pg
/-- no class of it has the name -/
def NoAttr (K : PySem.W.Frag) (C : Addr) (f : Str) : Prop := PySem.W.findIn K (.ref C) f = some none
section
variable {X : Cx} {pins : List (Addr × Obj)} {σ : St} {H : Hp} {s : Shared} {a C dx : Addr} {fs : List (Str × V)} {f : Str} {v : V} {A : Around} {E : Value → Shared → Prop}

/-- e.f where nothing but the object is asked: through attributeBase (super) and the last hold -/
theorem attr_of {prog : Program} {w : World} {env : Env} {e : Expr} {f : Str} {pos : Pos} {s : Shared} {Q : Value → Shared → Prop} (hb : attributeBase e f env (eval e env) = eval e env)
    (h : wpAny (model prog w) A (eval e env) (fun o s₁ => wpAny (model prog w) A (getAttr o f true) Q E s₁) E s) : wpAny (model prog w) A (eval (.Attribute e f pos) env) Q E s :=
  Attribute_any_ h (by rw [arm_eval_Attribute, hb])
end

section
variable {X : Cx} {o e value : Expr} {f : Str} {pos pos' tpos : Pos} {ta tv : TE}
end

section
variable {X : Cx} {pins : List (Addr × Obj)} {σ : St} {H : Hp} {s : Shared} {A : Around} {E : Value → Shared → Prop} {Q : Value → Shared → Prop} {c : Value} {b : Bool}
/-- the type of a value, as the fragment's deciders take it; for an instance its class -/
inductive TyOf (K : PySem.W.Frag) (H : Hp) : V → Value → Prop where
  | non : TyOf K H .non (.type "NoneType")
  | bl (x : Bool) : TyOf K H (.bl x) (.type "bool")
  | int (i : Int) : TyOf K H (.int i) (.type "int")
  | str (x : Str) : TyOf K H (.str x) (.type "str")
  | flt (x : UInt64) : TyOf K H (.flt x) (.type "float")
  | lst {a : Addr} {xs : List V} (e : H a = some (.lst xs)) : TyOf K H (.ref a) (.type "list")
  | frz {a : Addr} {o : Obj} {xs : List V} (e : H a = some (.frz o (.lst xs))) : TyOf K H (.ref a) (.type "list")
  | tup {a : Addr} {xs : List V} (e : H a = some (.tup xs)) : TyOf K H (.ref a) (.type "tuple")
  | dK {a : Addr} {kvs : List (Key × V)} (e : H a = some (.dK kvs)) : TyOf K H (.ref a) (.type "dict")
  | dT {a : Addr} {kvs : List (List Key × V)} (e : H a = some (.dT kvs)) : TyOf K H (.ref a) (.type "dict")
  | ins {a C dx : Addr} {fs : List (Str × V)} (e : H a = some (.ins C dx fs)) (cl : Cls K C) (ha : PySem.W.findIn K (.ref C) "__class__" = some (some (.builtin "object.__class__")))
      (hn : PySem.W.specialIn K (.builtin "object.__class__") "__get__" = some (some (.builtin "getset_descriptor.__get__"))) (htk : PySem.W.takesIn K (.builtin "object.__class__") = some true)
      (hm : PySem.W.mroIn K C (.type "object") = some true) : TyOf K H (.ref a) (.ref C)
/-- isinstance(x, c) for one class c, a built-in or an own one: kitOne's answer -/
theorem isinst_ok {x : V} {u t : Value} (I : Inv X pins σ H s) (rx : RelV x u) (ty : TyOf X.K H x t) (e : PySem.W.kitOne X.K t c = some b) (h : ∀ tk, Q (.bool b) { s with toks := tk }) :
    wpAny (model X.prog X.w) A (call (.builtin "isinstance") [u, c]) Q E s := by
  cases ty with
  | non => cases (show u = Value.none from rx); exact PySem.W.kia_one PySem.W.kitx_none I.kIn True.intro e (fun z => nomatch z) h
  | bl y => cases (show u = Value.bool y from rx); exact PySem.W.kia_one PySem.W.kitx_bool I.kIn True.intro e (fun z => nomatch z) h
  | int i => obtain ⟨t, q⟩ := (show ∃ t, u = Value.int i t from rx); cases q; exact PySem.W.kia_one PySem.W.kitx_int I.kIn True.intro e (fun z => nomatch z) h
  | str y => obtain ⟨t, q⟩ := (show ∃ t, u = Value.str y t from rx); cases q; exact PySem.W.kia_one PySem.W.kitx_str I.kIn True.intro e (fun z => nomatch z) h
  | flt y => obtain ⟨t, q⟩ := (show ∃ t, u = Value.float y t from rx); cases q; exact PySem.W.kia_one PySem.W.kitx_float I.kIn True.intro e (fun z => nomatch z) h
  | @lst a xs ea =>
    cases (show u = Value.ref a from rx)
    obtain ⟨_, _, n, _, h1⟩ := (show ObjOk X.prog X.w H s.heap a (.lst xs) from I.hok a _ ea)
    exact PySem.W.kia_one PySem.W.kitx_list I.kIn ⟨_, h1, rfl⟩ e (fun z => nomatch z) h
  | @frz a ob xs ea =>
    cases (show u = Value.ref a from rx)
    obtain ⟨_, _, _, n, _, h1⟩ := (show ObjOk X.prog X.w H s.heap a (.frz ob (.lst xs)) from I.hok a _ ea)
    exact PySem.W.kia_one PySem.W.kitx_list I.kIn ⟨_, h1, rfl⟩ e (fun z => nomatch z) h
  | @tup a xs ea =>
    cases (show u = Value.ref a from rx)
    obtain ⟨_, _, _, p⟩ := (show ObjOk X.prog X.w H s.heap a (.tup xs) from I.hok a _ ea)
    obtain ⟨o, h1, h2, _⟩ := p
    exact PySem.W.kia_one PySem.W.kitx_tuple I.kIn ⟨o, h1, h2⟩ e (fun z => nomatch z) h
  | @dK a kvs ea =>
    cases (show u = Value.ref a from rx)
    obtain ⟨_, _, vs, _, p⟩ := (show ObjOk X.prog X.w H s.heap a (.dK kvs) from I.hok a _ ea)
    obtain ⟨o, es, ep, h1, h2, _⟩ := p
    exact PySem.W.kia_one PySem.W.kitx_dict I.kIn ⟨o, h1, h2.1⟩ e (fun z => nomatch z) h
  | @dT a kvs ea =>
    cases (show u = Value.ref a from rx)
    obtain ⟨_, _, xs, _, o, es, ep, h1, h2, _⟩ := (show ObjOk X.prog X.w H s.heap a (.dT kvs) from I.hok a _ ea)
    exact PySem.W.kia_one PySem.W.kitx_dict I.kIn ⟨o, h1, h2.1⟩ e (fun z => nomatch z) h
  | @ins a C dx fs ea cl ha hn htk hm =>
    cases (show u = Value.ref a from rx)
    obtain ⟨mA, O, _⟩ := ins_get I.hok ea
    obtain ⟨od, J, _⟩ := O.look
    exact PySem.W.kia_one (PySem.W.kitx_own (cl.get _) cl.hd ha hn htk hm) I.kIn J e (fun z => nomatch z) h
end
end L2

namespace L2
open PySem PySem.Spec PyProof.Rows

structure Room (k : Nat) (A : Around) : Prop where
  hd : A.handled = none
  dp : A.depth + 3 * k + 5 < recursionLimit
  un : A.units + 16 * k + 200 < cLine
theorem Room.mono {j k : Nat} {A : Around} (r : Room k A) (h : j ≤ k) : Room j A := ⟨r.hd, by have := r.dp; omega, by have := r.un; omega⟩
theorem Room.deeper {k : Nat} {A : Around} (r : Room (k + 1) A) (env : Env) : Room k (A.deeper env) :=
  ⟨r.hd, by have := r.dp; show A.depth + 1 + 3 * k + 5 < _; omega, by have := r.un; show A.units + 3 + 16 * k + 200 < _; omega⟩
theorem make_depth {A : Around} {C : Addr} {us : List Value} {kw : List (Str × Value)} : (A.under (.builtin "type.__call__" ⟨.ref C :: us, kw⟩)).depth = A.depth + 1 := by
  first | rfl | simp [Around.under, Code.weight, Code.isCreation, Code.isGuard, Code.isCaller, Code.frames, Code.isFrame, guardIds]
theorem make_units {A : Around} {C : Addr} {us : List Value} {kw : List (Str × Value)} : (A.under (.builtin "type.__call__" ⟨.ref C :: us, kw⟩)).units = A.units + 1 := by
  first | rfl | simp [Around.under, Code.cUnits, Code.frames, Code.isFrame]
theorem Room.make {k : Nat} {A : Around} (r : Room (k + 1) A) (C : Addr) (us : List Value) (kw : List (Str × Value)) : Room k (A.under (.builtin "type.__call__" ⟨.ref C :: us, kw⟩)) :=
  ⟨r.hd, by have := r.dp; rw [make_depth]; omega, by have := r.un; rw [make_units]; omega⟩
theorem Room.depth {k : Nat} {A : Around} (r : Room k A) : A.depth < recursionLimit := by have := r.dp; omega
theorem Room.units {k : Nat} {A : Around} (r : Room k A) : A.units + 64 < cLine := by have := r.un; omega
def tNil : TA := fun _ H Q => Q [] H
def tCons (ta : TE) (tr : TA) : TA := fun σ H Q => ta σ H fun x H1 => tr σ H1 fun xs H2 => Q (x :: xs) H2
section
variable {X : Cx} {e : Expr} {es : List Expr} {te : TE} {t : TA} {pos : Pos}
theorem pa_nil : PA X [] tNil := fun _ _ _ _ H Q I h => Calls.spliced_nil ⟨[], H, I, .nil, h⟩
theorem pa_cons (ha : PE X e te) (hr : PA X es t) (hs : starEach (e :: es) X.env = (false, eval e X.env) :: starEach es X.env := by rfl) : PA X (e :: es) (tCons te t) := by
  intro pos pins s σ H Q I h
  rw [hs]
  show wpAny _ _ (spliced ((false, eval e X.env) :: backTo pos (starEach es X.env))) _ _ s
  refine Calls.spliced_cons (thn (ha pins s σ H _ I h) fun u s1 ⟨x, H1, I1, r1, q1⟩ => ?_)
  exact thn (hr pos pins s1 σ H1 _ I1 q1) fun us s2 ⟨xs, H2, I2, r2, q2⟩ => ⟨x :: xs, H2, I2, .cons r1 r2, q2⟩

/-- a tuple, a list of written items -/
def tTup (t : TA) : TE := fun σ H Q => t σ H fun xs H1 => xs.length ≤ sizeLine ∧ ∀ p, H1 p = none → Q (.ref p) (upd H1 p (.tup xs))
def tLst (t : TA) : TE := fun σ H Q => t σ H fun xs H1 => xs.length ≤ sizeLine ∧ ∀ p, H1 p = none → Q (.ref p) (upd H1 p (.lst xs))
theorem pe_tup {x1} (h : PA X es t) : PE X (.Tuple es x1 pos) (tTup t) := by
  intro pins s σ H Q I hq
  refine wpAny_Tuple_spliced (thn (h pos pins s σ H _ I hq) fun us s1 ⟨xs, H1, I1, r, z, q⟩ => ⟨by rw [← r.length]; exact z, ?_⟩)
  have hf : H1 s1.heap.objs.size = none := I1.hok.fresh (Nat.le_refl _)
  refine ⟨.ref s1.heap.objs.size, upd H1 s1.heap.objs.size (.tup xs), I1.laid (t' := s1.toks) (fun b u e => Heap.get?_push_of_some _ e) (Nat.le_refl _) ?_, rfl, q _ hf⟩
  exact ⟨⟨z, _, Heap.get?_push_size _ rfl, rfl⟩, us, r, ⟨_, Heap.get?_push_size _ rfl, rfl, _, rfl⟩⟩
theorem pe_lst (h : PA X es t) : PE X (.List es pos) (tLst t) := by
  intro pins s σ H Q I hq
  refine wpAny_List_spliced (thn (h pos pins s σ H _ I hq) fun us s1 ⟨xs, H1, I1, r, z, q⟩ => ⟨by rw [← r.length]; exact z, ?_⟩)
  have hf : H1 s1.heap.objs.size = none := I1.hok.fresh (Nat.le_refl _)
  refine ⟨.ref s1.heap.objs.size, upd H1 s1.heap.objs.size (.lst xs), I1.laid (t' := s1.toks) (fun b u e => Heap.get?_push_of_some _ e) (Nat.le_refl _) ?_, rfl, q _ hf⟩
  exact ⟨z, us, 0, r, Heap.get?_push_size _ rfl⟩
end

/-- a def's promise: the bound arguments in the parameters' order, the heap, the wanted end, the wanted exception -/
abbrev Sp := List V → Hp → VK → XK → Prop
/-- how an exception lies behind a call (file 08 gives it): the callers' frames, abstract heap and state ahead of the call, the wish, the exception, the state -/
abbrev CXT := List Env → Hp → Shared → XK → Value → Shared → Prop

/-- the state at a call -/
structure Env0 (P : Program) (w : World) (K : PySem.W.Frag) (mg : Str → Option Value) (base : Heap) (A : Around) (outer : List Env) (s : Shared) (H : Hp) : Prop where
  frames : A.frames = some outer
  mod : Mod K mg base
  bs : ∀ b o, base.get? b = some o → s.heap.get? b = some o ∧ H b = none
  bsz : base.objs.size ≤ s.heap.objs.size
  funs : s.heap.FunFrames base outer
  frf : ∀ b ∈ frs outer, H b = none
  hok : HOk P w H s.heap
  bare : AllBare s.gens
/-- a call's end -/
def CE (outer : List Env) (P : Program) (w : World) (H : Hp) (s : Shared) (Q : VK) (u : Value) (s' : Shared) : Prop :=
  ∃ v H', s'.os = s.os ∧ AllBare s'.gens ∧ Un (frs outer) [] H H' s.heap s'.heap ∧ HOk P w H' s'.heap ∧ RelV v u ∧ Q v H'
def CR (CX : CXT) (outer : List Env) (P : Program) (w : World) (H : Hp) (s : Shared) (Q : VK) (E : XK) (r : Result) (s' : Shared) : Prop :=
  match r with
  | .ok (.ret u) => CE outer P w H s Q u s'
  | .ok _ => False
  | .error e => CX outer H s E e s'
structure FnOk (P : Program) (w : World) (K : PySem.W.Frag) (mg : Str → Option Value) (base : Heap) (CX : CXT) (k : Nat) (f : Addr) (fd : FuncData) (ps : List Str) (sp : Sp) : Prop where
  len : ∀ vs H Q E, sp vs H Q E → vs.length = ps.length
  run : ∀ (A : Around) (outer : List Env) (s : Shared) (H : Hp) (args : Args) (us : List Value) (vs : List V) (Q : VK) (E : XK), Room k A → Env0 P w K mg base A outer s H → BindsTo s fd args (ps.zip us) → Vals vs us → sp vs H Q E →
    codeAny (model P w) A (.call (.ref f) args) (CR CX outer P w H s Q E) s
theorem Env0.make {P : Program} {w : World} {K : PySem.W.Frag} {mg : Str → Option Value} {base : Heap} {A : Around} {outer : List Env} {s : Shared} {H : Hp} (e : Env0 P w K mg base A outer s H) (C : Addr) (us : List Value) (kw : List (Str × Value)) :
    Env0 P w K mg base (A.under (.builtin "type.__call__" ⟨.ref C :: us, kw⟩)) outer s H := ⟨by first | exact e.frames | (simpa [Around.under, Code.envs, Code.isFrame, pushEnvs] using e.frames), e.mod, e.bs, e.bsz, e.funs, e.frf, e.hok, e.bare⟩
section
variable {X : Cx} {pins : List (Addr × Obj)} {σ : St} {H : Hp} {s s' : Shared}
/-- from a body: what a callee wants -/
theorem Inv.env0 (I : Inv X pins σ H s) : Env0 X.prog X.w X.K X.mg X.base X.A X.stack s H :=
  ⟨I.ok.frames, I.ok.mod, I.bs, Nat.le_trans I.ok.bsz I.sz, I.stack, I.stkFree, I.hok, I.bare⟩
/-- behind a call -/
theorem Inv.after {Q : VK} {u : Value} (I : Inv X pins σ H s) (h : CE X.stack X.prog X.w H s Q u s') : EP X pins σ Q u s' := by
  obtain ⟨v, H', os, bare, un, hok, r, q⟩ := h
  obtain ⟨hh, g, d, t, os'⟩ := s'
  obtain rfl : os' = s.os := os
  exact ⟨v, H', I.call (h' := hh) (g' := g) (d' := d) (t' := t) (ch := []) un hok bare (fun b z => absurd z (by simp)), r, q⟩
end

/-- f(..): the written arguments, then the defaults dvs; E: what is wanted of an exception -/
def tCall (sp : Sp) (dvs : List V) (E : XK) (t : TA) : TE := fun σ H Q => t σ H fun vs H1 => sp (vs ++ dvs) H1 Q E
/-- how the parameters are bound: us the positional arguments, kw the keywords' values by name, ds the defaults that fill up -/
def Binds (K : PySem.W.Frag) (fd : FuncData) (ps : List Str) (ds : List Value) : Prop :=
  ∀ (s : Shared) (us : List Value), K.In s.heap → (us ++ ds).length = ps.length → BindsTo s fd ⟨us, []⟩ (ps.zip (us ++ ds))
/-- every parameter is given -/
theorem Binds.all {K : PySem.W.Frag} {fd : FuncData} {ps : List Str} (h : ∀ us : List Value, us.length = ps.length → bindArgs fd ⟨us, []⟩ = pure (ps.zip us)) : Binds K fd ps [] := fun s us _ hl => by
  rw [List.append_nil] at hl ⊢
  exact .of_eq (h us hl)

/-- an exception of a callee reaches what this body wants of exceptions -/
def Passes (CX : CXT) (X : Cx) (E : XK) : Prop := ∀ (pins : List (Addr × Obj)) (σ : St) (H : Hp) (s : Shared) (e : Value) (s' : Shared), Inv X pins σ H s → CX X.stack H s E e s' → X.xe e s'

section
variable {X : Cx} {CX : CXT} {k : Nat} {f C : Addr} {fd : FuncData} {ps : List Str} {sp : Sp} {dvs : List V} {ds : List Value} {E : XK} {x m : Str} {p pos apos : Pos} {e o : Expr} {es : List Expr} {ta : TE} {t : TA}

/-- the callee runs -/
theorem run_fn {pins : List (Addr × Obj)} {σ : St} {H : Hp} {s : Shared} {Q : VK} {us : List Value} {vs : List V} (F : FnOk X.prog X.w X.K X.mg X.base CX k f fd ps sp) (hr : Room k X.A) (hb : Binds X.K fd ps ds) (hd : Vals dvs ds) (hx : Passes CX X E)
    (I : Inv X pins σ H s) (r : Vals vs us) (h : sp (vs ++ dvs) H Q E) : wpAny (model X.prog X.w) X.A (call (.ref f) us) (EP X pins σ Q) X.xe s := by
  have r2 : Vals (vs ++ dvs) (us ++ ds) := r.append hd
  have hl : (us ++ ds).length = ps.length := by rw [← r2.length]; exact F.len _ _ _ _ h
  refine wpAny_call (codeAny_mono (F.run X.A X.stack s H ⟨us, []⟩ (us ++ ds) (vs ++ dvs) Q E hr I.env0 (hb s us I.kIn hl) r2 h) fun r s' hq => ?_)
  cases r with
  | error e => exact hx pins σ H s e s' I hq
  | ok fl =>
    cases fl with
    | ret u => exact I.after hq
    | next => exact False.elim hq
    | brk => exact False.elim hq
    | cont => exact False.elim hq

theorem pe_call (F : FnOk X.prog X.w X.K X.mg X.base CX k f fd ps sp) (hr : Room k X.A) (hg : Gl X x) (hm : X.mg x = some (.ref f)) (hk : PySem.W.keepIn X.K (.ref f) = true) (hb : Binds X.K fd ps ds) (hd : Vals dvs ds) (hx : Passes CX X E)
    (ha : PA X (e :: es) t) (hdb : (x == ("__debug__" : Str)) = false := by decide) (he : starEach (e :: es) X.env = (false, eval e X.env) :: starEach es X.env := by rfl) (hpl : (backTo pos (starEach es X.env)).any (·.1) = false := by rfl) :
    PE X (.Call (.Name x p) (e :: es) [] pos) (tCall sp dvs E t) := by
  intro pins s σ H Q I h
  refine wpAny_Call_Name_kw (ld_glob I hg hm ?_ hdb)
  refine PySem.W.callWith_K (h₀ := X.base) I.ok.mod.kin hk (thn (ha pos pins s σ H _ I h) fun us s1 ⟨vs, H1, I1, r, q⟩ => ⟨I1.kIn, ?_⟩) he hpl
  exact run_fn F hr hb hd hx I1 r q
theorem pe_call0 (F : FnOk X.prog X.w X.K X.mg X.base CX k f fd ps sp) (hr : Room k X.A) (hg : Gl X x) (hm : X.mg x = some (.ref f)) (hk : PySem.W.keepIn X.K (.ref f) = true) (hb : Binds X.K fd ps ds) (hd : Vals dvs ds) (hx : Passes CX X E)
    (hdb : (x == ("__debug__" : Str)) = false := by decide) : PE X (.Call (.Name x p) [] [] pos) (tCall sp dvs E tNil) := by
  intro pins s σ H Q I h
  refine wpAny_Call_Name_kw (ld_glob I hg hm ?_ hdb)
  exact PySem.W.callWith_K0 I.kIn hk (run_fn (us := []) F hr hb hd hx I .nil h)

end

section
variable {X : Cx} {CX : CXT} {k : Nat} {f C : Addr} {fd : FuncData} {ps ks : List Str} {sp : Sp} {E : XK} {x m : Str} {p pos apos kpos : Pos} {e o : Expr} {es : List Expr} {kws : List Keyword} {te ta : TE} {t tk : TA} {nm : Option Str}
variable {g : List Value → List Value → List Value} {gV : List V → List V → List V}
end

/-- names: the parameters first -/
structure FnScope (N P : List Str) (sc : Scope) : Prop where
  kind : sc.kind = .function
  co : sc.isCoroutine = false
  gen : sc.isGenerator = false
  nd : N.Nodup
  pre : N.take P.length = P
  par : ∀ x ∈ P, sc.names.lookup x = some .local ∨ sc.names.lookup x = some .cell
  nofree : ∀ y ∈ sc.names, y.2 ≠ .free

theorem bindL_out {kindOf : Str → Option NameKind} {x : Str} : ∀ {binds : List (Str × Value)} {m : Str → Option Value}, (∀ v, (x, v) ∉ binds) → bindL kindOf binds m x = m x
  | [], _, _ => rfl
  | (n, v) :: r, m, h => by
    unfold bindL
    rw [bindL_out fun w hw => h w (List.mem_cons_of_mem _ hw)]
    split
    · have : x ≠ n := by rintro rfl; exact h v List.mem_cons_self
      simp [this]
    · rfl
theorem bindC_out {kindOf : Str → Option NameKind} {x : Str} : ∀ {binds : List (Str × Value)} {m : Str → Option Value}, (∀ v, (x, v) ∉ binds) → bindC kindOf binds m x = m x
  | [], _, _ => rfl
  | (n, v) :: r, m, h => by
    unfold bindC
    rw [bindC_out fun w hw => h w (List.mem_cons_of_mem _ hw)]
    split
    · rfl
    · have : x ≠ n := by rintro rfl; exact h v List.mem_cons_self
      simp [this]
theorem bindL_get {kindOf : Str → Option NameKind} {x : Str} {v : Value} : ∀ {P : List Str} {vs : List Value} {i : Nat} {m : Str → Option Value}, P.Nodup → P[i]? = some x → vs[i]? = some v → kindOf x = some .local →
    bindL kindOf (P.zip vs) m x = some v
  | [], _, _, _, _, h, _, _ => by simp at h
  | _ :: _, [], _, _, _, _, h, _ => by simp at h
  | p :: P, w :: vs, 0, m, nd, h1, h2, hk => by
    simp at h1 h2; subst h1; subst h2
    show bindL kindOf ((p, w) :: P.zip vs) m p = _
    unfold bindL
    rw [bindL_out fun v hv => (List.nodup_cons.mp nd).1 (List.of_mem_zip hv).1, if_pos hk]
    simp
  | p :: P, w :: vs, i + 1, m, nd, h1, h2, hk => by
    show bindL kindOf ((p, w) :: P.zip vs) m x = _
    unfold bindL
    exact bindL_get (i := i) (List.nodup_cons.mp nd).2 (by simpa using h1) (by simpa using h2) hk
theorem bindC_get {kindOf : Str → Option NameKind} {x : Str} {v : Value} : ∀ {P : List Str} {vs : List Value} {i : Nat} {m : Str → Option Value}, P.Nodup → P[i]? = some x → vs[i]? = some v → kindOf x ≠ some .local →
    bindC kindOf (P.zip vs) m x = some v
  | [], _, _, _, _, h, _, _ => by simp at h
  | _ :: _, [], _, _, _, _, h, _ => by simp at h
  | p :: P, w :: vs, 0, m, nd, h1, h2, hk => by
    simp at h1 h2; subst h1; subst h2
    show bindC kindOf ((p, w) :: P.zip vs) m p = _
    unfold bindC
    rw [bindC_out fun v hv => (List.nodup_cons.mp nd).1 (List.of_mem_zip hv).1, if_neg hk]
    simp
  | p :: P, w :: vs, i + 1, m, nd, h1, h2, hk => by
    show bindC kindOf ((p, w) :: P.zip vs) m x = _
    unfold bindC
    exact bindC_get (i := i) (List.nodup_cons.mp nd).2 (by simpa using h1) (by simpa using h2) hk

/-- the names' values at the entry -/
def start (N : List Str) (vs : List V) : St := vs.map some ++ List.replicate (N.length - vs.length) none

/-- the context of a def's body, at its entry; an exception leaves the frame, then lies as CX says -/
def cxOf (CX : CXT) (P : Program) (w : World) (K : PySem.W.Frag) (mg : Str → Option Value) (base : Heap) (N : List Str) (qual : Str) (scope : Scope) (f : Addr) (cd : Value) (A : Around) (outer : List Env) (s : Shared) (H : Hp) (E : XK) : Cx where
  prog := P
  w := w
  K := K
  mg := mg
  base := base
  A := A.deeper (envOfC qual scope s.heap.objs.size f cd)
  N := N
  s₀ := s
  H₀ := H
  env := envOfC qual scope s.heap.objs.size f cd
  outer := outer
  stack := envOfC qual scope s.heap.objs.size f cd :: outer
  ex := []
  calm := true
  fn := fun _ => true
  pn := []
  xe := fun e s' => wpAny (model P w) (A.deeper (envOfC qual scope s.heap.objs.size f cd)) (leaving (envOfC qual scope s.heap.objs.size f cd) e) (fun _ s'' => CX outer H s E e s'') (fun e' s'' => CX outer H s E e' s'') s'

theorem cell_has {sc : Scope} {n : Nat} {x : Str} (h : sc.names.lookup x = some .cell) : ∃ c, (cellsFrom n sc.names []).lookup x = some c := by
  have q := PySem.W.cellsFrom_some sc.names n [] (.inl h)
  exact Option.isSome_iff_exists.mp q

theorem inv_start {CX : CXT} {P : Program} {w : World} {K : PySem.W.Frag} {mg : Str → Option Value} {base : Heap} {N ps : List Str} {qual : Str} {scope : Scope} {f : Addr} {cd : Value} {A : Around} {outer : List Env} {s s1 : Shared} {H : Hp} {E : XK} {us : List Value} {vs : List V}
    (S : FnScope N ps scope) (hd : A.handled = none) (e0 : Env0 P w K mg base A outer s H) (hl : vs.length = ps.length) (r : Vals vs us)
    (x : InCallC s s.heap.objs.size (bindL (envOfC qual scope s.heap.objs.size f cd).kindOf (ps.zip us) fun _ => none) (cellsFrom (s.heap.objs.size + 1) scope.names []) (bindC (envOfC qual scope s.heap.objs.size f cd).kindOf (ps.zip us) fun _ => none) s1) :
    Inv (cxOf CX P w K mg base N qual scope f cd A outer s H E) [] (start N vs) H s1 := by
  have hpl : ps.length ≤ N.length := by have := congrArg List.length S.pre; rw [List.length_take] at this; omega
  obtain ⟨h1, tk, rfl, hk⟩ := x.done
  have noA : ∀ b : Addr, b ∉ (cxOf CX P w K mg base N qual scope f cd A outer s H E).ex := fun b z => absurd (show b ∈ ([] : List Addr) from z) (by simp)
  refine ⟨⟨e0.mod, S.kind, rfl, rfl, Nat.le_refl _, fun y z c h1 h2 => ?_, fun y hy => ?_, fun y c _ h => ?_, fun _ => hd, Around.frames_deeper e0.frames, .inr ⟨rfl, rfl⟩, fun b z => absurd z (noA b), e0.bs, e0.bsz, fun b _ _ => noA b, fun b z => absurd z (noA b), e0.funs, e0.frf⟩,
    rfl, e0.bare, Un.kept hk, ⟨_, x.toInCall.ns, fun i y v h1 h2 h3 => ?_⟩, fun y c h => ⟨_, x.cell y c h⟩, e0.hok.fresh (Nat.le_refl _), fun y c h => ?_, fun p hp => absurd (show p ∈ ([] : List (Addr × Obj)) from hp) (by simp), e0.hok.kept hk, ?_⟩
  · exact name_of_addr x.apart (PySem.mem_of_lookup h1) (PySem.mem_of_lookup h2)
  · have hy : scope.names.lookup y = some .cell ∨ scope.names.lookup y = some .free := hy
    rcases hy with hy | hy
    · exact cell_has hy
    · exact absurd rfl (S.nofree _ (PySem.mem_of_lookup hy))
  · exact Nat.le_of_lt (x.above y c (PySem.mem_of_lookup h))
  · have hi : i < vs.length := by
      unfold start at h2
      by_cases hi : i < vs.length
      · exact hi
      · rw [List.getElem?_append_right (by simpa using hi)] at h2
        rw [List.getElem?_replicate] at h2
        split at h2 <;> cases h2
    have ha : vs[i]? = some v := by
      unfold start at h2
      rw [List.getElem?_append_left (by simpa using hi), List.getElem?_map] at h2
      cases e : vs[i]? with
      | none => rw [e] at h2; cases h2
      | some a => rw [e] at h2; cases h2; rfl
    obtain ⟨u, hu, rv⟩ := r.get ha
    have hp : ps[i]? = some y := by
      rw [← S.pre, List.getElem?_take_of_lt (by omega)]; exact h1
    have ndP : ps.Nodup := by rw [← S.pre]; exact S.nd.sublist (List.take_sublist _ _)
    refine ⟨u, rv, ?_⟩
    rcases S.par y (List.mem_of_getElem? hp) with k | k
    · exact .inl ⟨k, bindL_get ndP hp hu k⟩
    · obtain ⟨c, e⟩ := cell_has (n := s.heap.objs.size + 1) k
      refine .inr ⟨.inl k, c, e, ?_⟩
      have q := x.cell y c e
      rw [bindC_get ndP hp hu (by show scope.names.lookup y ≠ _; rw [k]; decide)] at q
      exact q
  · exact e0.hok.fresh (Nat.le_of_lt (x.above y c (PySem.mem_of_lookup h)))
  · unfold start
    show _ = N.length
    rw [List.length_append, List.length_map, List.length_replicate]
    omega

/-- THE RULE: a def (or a method) of the text, by its body. The body's reading t is chosen for each entry; it is run at the parameters' values -/
theorem fn_of {CX : CXT} {P : Program} {w : World} {K : PySem.W.Frag} {mg : Str → Option Value} {base : Heap} {k : Nat} {f : Addr} {name qual : Str} {params : Arguments} {body : List Stmt} {scope : Scope} {dV kV doc pm cdv ct oc : Value} {an od : Option Addr}
    {osl : Array (Option Value)} {N ps : List Str} {sp : Sp} (lk : K.lookup f = some ⟨oc, od, .func (PySem.W.fnOf name qual params body scope dV kV doc pm an cdv ct), osl⟩) (hcd : PySem.W.codeIn K cdv qual = true) (S : FnScope N ps scope)
    (len : ∀ vs H Q E, sp vs H Q E → vs.length = ps.length)
    (hbody : ∀ (A : Around) (outer : List Env) (s : Shared) (H : Hp) (vs : List V) (Q : VK) (E : XK), Room k (A.deeper (envOfC qual scope s.heap.objs.size f cdv)) → sp vs H Q E →
      ∃ t, PSs (cxOf CX P w K mg base N qual scope f cdv A outer s H E) body t ∧ t { nx := fun _ H' => Q .non H', rt := Q } (start N vs) H) :
    FnOk P w K mg base CX (k + 1) f (PySem.W.fnOf name qual params body scope dV kV doc pm an cdv ct) ps sp := by
  refine ⟨len, fun A outer s H args us vs Q E hr e0 hb r hsp => ?_⟩
  have hl := len _ _ _ _ hsp
  have KX : K.In s.heap := e0.mod.kin.keeps fun b o e => (e0.bs b o e).1
  have lim : s.heap.NoLimit := e0.mod.nolimit.keeps fun b o e => (e0.bs b o e).1
  have hkind : ∀ y ∈ ps.zip us, scope.names.lookup y.1 = some .local ∨ (scope.names.lookup y.1 = some .cell ∧ ((cellsFrom (s.heap.objs.size + 1) scope.names []).lookup y.1).isSome = true) := fun ⟨n, v⟩ hy => by
    rcases S.par n (List.of_mem_zip hy).1 with q | q
    · exact .inl q
    · exact .inr ⟨q, PySem.W.cellsFrom_some _ _ _ (.inl q)⟩
  refine codeAny_call_function hr.depth (KX _ _ lk) rfl S.co S.gen rfl (PySem.W.codeRec_of KX hcd) (hb _ _ _ _ ?_)
  refine wpAny_newFunctionEnv_cells S.kind hkind fun env he s1 x => ?_
  subst he
  refine ⟨lim.keeps x.toInCall.keep, codeAny_func ?_⟩
  obtain ⟨t, ht, hq⟩ := hbody A outer s H vs Q E (hr.deeper _) hsp
  have I : Inv (cxOf CX P w K mg base N qual scope f cdv A outer s H E) [] (start N vs) H s1 := inv_start S hr.hd e0 hl r x
  refine wpAny_mono (ht [] s1 (start N vs) H _ I hq) (fun fl s' hs => ?_) fun e s' hs => hs
  have fin : ∀ {σ' : St} {H' : Hp} {v : V} {u : Value}, Inv (cxOf CX P w K mg base N qual scope f cdv A outer s H E) [] σ' H' s' → RelV v u → Q v H' → CE outer P w H s Q u s' :=
    fun {σ' H' v u} J rv q => ⟨v, H', J.os, J.bare, J.base, J.hok, rv, q⟩
  cases fl with
  | ret u =>
    obtain ⟨v, σ', H', J, rv, q⟩ := hs
    exact fin J rv q
  | next =>
    obtain ⟨σ', H', J, q⟩ := hs
    exact fin (v := V.non) (u := Value.none) J rfl q
  | brk =>
    obtain ⟨_, _, _, q⟩ := hs
    exact False.elim q
  | cont =>
    obtain ⟨_, _, _, q⟩ := hs
    exact False.elim q
end L2

namespace L2
open PySem PySem.Spec PyProof.Rows
section
variable {X : Cx} {x : Str} {p pos : Pos} {e : Expr} {es : List Expr} {t : TA} {id T : String} {r : List V → Hp → VK → Prop}

def tCB (r : List V → Hp → VK → Prop) (t : TA) : TE := fun σ H Q => t σ H fun vs H1 => r vs H1 Q
/-- f(e, ..), f a built-in function -/
theorem pe_callB (hc : CallR X (.builtin id) r) (hg : Gl X x) (hm : X.mg x = none) (hv : bootBuiltins x = some (.builtin id)) (ha : PA X (e :: es) t) (hn : x ≠ "__name__" := by decide) (hdb : (x == ("__debug__" : Str)) = false := by decide)
    (he : starEach (e :: es) X.env = (false, eval e X.env) :: starEach es X.env := by rfl) (hpl : (backTo pos (starEach es X.env)).any (·.1) = false := by rfl) : PE X (.Call (.Name x p) (e :: es) [] pos) (tCB r t) := by
  intro pins s σ H Q I h
  refine wpAny_Call_Name_kw (ld_blt I hg hm hv ?_ hn hdb)
  exact PyProof.Rows.callWith_builtin1 (thn (ha pos pins s σ H _ I h) fun us s1 ⟨vs, H1, I1, r1, q1⟩ => hc pins s1 σ H1 vs us Q I1 r1 q1) he hpl
/-- T(e, ..), T a built-in type -/
theorem pe_callTy (hc : CallR X (.type T) r) (hg : Gl X x) (hm : X.mg x = none) (hv : bootBuiltins x = some (.type T)) (ha : PA X (e :: es) t) (hn : x ≠ "__name__" := by decide) (hdb : (x == ("__debug__" : Str)) = false := by decide)
    (he : starEach (e :: es) X.env = (false, eval e X.env) :: starEach es X.env := by rfl) (hpl : (backTo pos (starEach es X.env)).any (·.1) = false := by rfl) : PE X (.Call (.Name x p) (e :: es) [] pos) (tCB r t) := by
  intro pins s σ H Q I h
  refine wpAny_Call_Name_kw (ld_blt I hg hm hv ?_ hn hdb)
  exact PyProof.Rows.callWith_type1 (thn (ha pos pins s σ H _ I h) fun us s1 ⟨vs, H1, I1, r1, q1⟩ => hc pins s1 σ H1 vs us Q I1 r1 q1) he hpl
end
end L2

namespace HT
open PySem PyProof.Rows

/-- t < u of tuples of ints -/
def lexLt : List Int → List Int → Bool
  | [], [] => false
  | [], _ :: _ => true
  | _ :: _, [] => false
  | x :: xs, y :: ys => if x = y then lexLt xs ys else decide (x < y)
theorem lexLt_cons (x y : Int) (xs ys : List Int) : lexLt (x :: xs) (y :: ys) = if x = y then lexLt xs ys else decide (x < y) := rfl
theorem lexLt_nil_nil : lexLt [] [] = false := rfl
theorem lexLt_nil_cons (y : Int) (ys : List Int) : lexLt [] (y :: ys) = true := rfl
theorem lexLt_cons_nil (x : Int) (xs : List Int) : lexLt (x :: xs) [] = false := rfl

theorem eqAt_int (A : Around) (s : Shared) (a : Int) (t : Tok) (c : Int) (u : Tok) : ∃ e, SeqAt.EqAt A s (.int a t) (.int c u) e ∧ (e = true ↔ a = c) :=
  ⟨(a == c), SeqAt.EqAt.int_int a t c u, by simp⟩
theorem rcLt_int (A : Around) (s : Shared) (a : Int) (t : Tok) (c : Int) (u : Tok) (prog : Program) (w : World) (E : Value → Shared → Prop) (Q : Value → Shared → Prop) (h : Q (.bool (decide (a < c))) s) :
    wpAny (model prog w) A (richCompare .Lt (.int a t) (.int c u)) Q E s :=
  (PyProof.Rows.lt_int h : wpAny (model prog w) A (compareOp .Lt (.int a t) (.int c u)) Q E s)

section
open PySem.SeqAt
open PySem.AutoSeq1 (wpAny_loadPart')
open PySem.MeetsSeq PySem.MeetsSeq2 PySem.MeetsSeq3

end

section
variable {prog : Program} {w : World} {A : Around} {E : Value → Shared → Prop} {s : Shared}

/-- a slice's bound as a place among n (d where it is left out) -/
def sIx (n d : Nat) : Option Int → Nat
  | none => d
  | some v => if v < 0 then (v + (n : Int)).toNat else min v.toNat n
theorem sIx_nat (n d k : Nat) : sIx n d (some (k : Int)) = min k n := by
  show (if (k : Int) < 0 then ((k : Int) + (n : Int)).toNat else min (k : Int).toNat n) = min k n
  rw [if_neg (by omega), Int.toNat_natCast]
end
end HT

namespace L2
open PySem PySem.Spec PyProof.Rows

abbrev TO := St → Hp → (Option Int → Hp → Prop) → Prop
/-- a slice's part (left out, or an int) -/
def PO (X : Cx) (e : Option Expr) (t : TO) : Prop :=
  ∀ (pins : List (Addr × Obj)) (s : Shared) (σ : St) (H : Hp) (Q : Option Int → Hp → Prop), Inv X pins σ H s → t σ H Q →
    wpAny (model X.prog X.w) X.A (evalPart e X.env) (fun u s' => ∃ o H', Inv X pins σ H' s' ∧ IsPart u o ∧ Q o H') X.xe s
def tNoPart : TO := fun _ H Q => Q none H
def tPart (t : TE) : TO := fun σ H Q => t σ H fun x H1 => ∃ i, x = .int i ∧ Q (some i) H1

theorem intsAre_of {ns : List Int} : ∀ {us : List Value}, Vals (ns.map V.int) us → IntsAre us ns := by
  induction ns with
  | nil => intro us r; rw [List.map_nil] at r; cases r; exact .nil
  | cons n ns ih =>
    intro us r
    rw [List.map_cons] at r
    cases r with
    | cons r1 r2 =>
      obtain ⟨t, e⟩ := r1
      subst e
      exact .cons n t (ih r2)

section
variable {X : Cx} {e : Expr} {te : TE} {lo hi : Option Expr} {tl th : TO} {pos p2 : Pos}

theorem po_none : PO X none tNoPart := by
  intro pins s σ H Q I h
  rw [evalPart_none]
  exact wpAny_pure ⟨none, H, I, .none, h⟩
theorem po_some (h : PE X e te) : PO X (some e) (tPart te) := by
  intro pins s σ H Q I hw
  rw [evalPart_some]
  refine thn (h pins s σ H _ I hw) fun u s1 ⟨x, H1, I1, r1, q1⟩ => ?_
  obtain ⟨i, rfl, q⟩ := q1
  obtain ⟨t, rfl⟩ := r1
  exact ⟨some i, H1, I1, .int i t, q⟩

/-- what a slice of a value is, by values: the slice object stands at sl -/
def SlR (X : Cx) (r : V → Option Int → Option Int → Hp → VK → Prop) : Prop :=
  ∀ (pins : List (Addr × Obj)) (s : Shared) (σ : St) (H : Hp) (x : V) (v vl vu : Value) (lo hi : Option Int) (sl : Addr) (Q : VK), Inv X pins σ H s → RelV x v → s.heap.IsSliceOf sl vl vu .none → IsPart vl lo → IsPart vu hi → r x lo hi H Q →
    ∃ T id, typeLookup (.type T) "__getitem__" = pure (some (.builtin id)) ∧ s.TypeIs v T ∧ wpAny (model X.prog X.w) X.A (getItem v (.ref sl)) (EP X pins σ Q) X.xe s
def tSl (r : V → Option Int → Option Int → Hp → VK → Prop) (te : TE) (tl th : TO) : TE := fun σ H Q => te σ H fun x H1 => tl σ H1 fun l H2 => th σ H2 fun u H3 => r x l u H3 Q
/-- a[lo:hi], any a -/
theorem pe_slice {r : V → Option Int → Option Int → Hp → VK → Prop} (hr : SlR X r) (he : PE X e te) (hl : PO X lo tl) (hu : PO X hi th) : PE X (.Subscript e (.Slice lo hi none p2) pos) (tSl r te tl th) := by
  intro pins s σ H Q I h
  refine Subscript_ (thn (he pins s σ H _ I h) fun v s1 ⟨x, H1, I1, r1, q1⟩ => ?_)
  refine wpAny_Slice (thn (hl pins s1 σ H1 _ I1 q1) fun vl s2 ⟨l, H2, I2, pl, q2⟩ => thn (hu pins s2 σ H2 _ I2 q2) fun vu s3 ⟨u, H3, I3, pu, q3⟩ => ?_)
  rw [evalPart_none]
  refine wpAny_pure ?_
  have I4 : Inv X pins σ H3 { s3 with heap := s3.heap.push { cls := .type "slice", data := .fields #[vl, vu, .none] } } := I3.kept (t' := s3.toks) fun b ob q => Heap.get?_push_of_some _ q
  obtain ⟨T, id, hT, ht, hg⟩ := hr pins { s3 with heap := s3.heap.push { cls := .type "slice", data := .fields #[vl, vu, .none] } } σ H3 x v vl vu l u s3.heap.objs.size Q I4 r1 (Heap.IsSliceOf.new ..) pl pu q3
  show wpAny (model X.prog X.w) X.A (subscriptTail e (.Slice lo hi none p2) v (.ref s3.heap.objs.size)) (EP X pins σ Q) X.xe { s3 with heap := s3.heap.push { cls := .type "slice", data := .fields #[vl, vu, .none] } }
  exact tail_any (ops := [.ref s3.heap.objs.size, v]) ht hT hg (by with_unfolding_all rfl)

/-- the items of xs[lo:hi] -/
def cutV (xs : List V) (lo hi : Option Int) : List V := (xs.drop (HT.sIx xs.length 0 lo)).take (HT.sIx xs.length xs.length hi - HT.sIx xs.length 0 lo)
theorem cutV_length (xs : List V) (lo hi : Option Int) : (cutV xs lo hi).length ≤ xs.length := by
  unfold cutV
  rw [List.length_take, List.length_drop]
  omega
end
end L2

namespace L2
open PySem PySem.Spec PyProof.Rows

/-- the place that an index of any sign means -/
def ixN (n : Nat) (i : Int) : Option Nat := if 0 ≤ i then (if i < n then some i.toNat else none) else if -(n : Int) ≤ i then some (i + n).toNat else none
def atI {α : Type} (xs : List α) (i : Int) : Option α := (ixN xs.length i).bind fun j => xs[j]?
theorem ixN_seq {n : Nat} {i : Int} {j : Nat} (h : ixN n i = some j) : seqIndex? i n = some j ∧ j < n ∧ -(n : Int) ≤ i ∧ i < n := by
  unfold ixN at h
  by_cases h0 : 0 ≤ i
  · rw [if_pos h0] at h
    by_cases h1 : i < n
    · rw [if_pos h1] at h
      have e : i.toNat = j := Option.some.inj h
      exact ⟨by rw [seqIndex_of h0 h1, e], by omega, by omega, h1⟩
    · rw [if_neg h1] at h; cases h
  · rw [if_neg h0] at h
    by_cases h1 : -(n : Int) ≤ i
    · rw [if_pos h1] at h
      have e : (i + n).toNat = j := Option.some.inj h
      exact ⟨by rw [seqIndex_neg (by omega) h1, e], by omega, h1, by omega⟩
    · rw [if_neg h1] at h; cases h
theorem atI_get {α : Type} {xs : List α} {i : Int} {v : α} (h : atI xs i = some v) : ∃ j, seqIndex? i xs.length = some j ∧ xs[j]? = some v ∧ j < xs.length ∧ -(xs.length : Int) ≤ i ∧ i < xs.length := by
  unfold atI at h
  cases e : ixN xs.length i with
  | none => rw [e] at h; cases h
  | some j =>
    rw [e] at h
    obtain ⟨h1, h2, h3, h4⟩ := ixN_seq e
    exact ⟨j, h1, h, h2, h3, h4⟩
theorem atI_nat {α : Type} {xs : List α} {j : Nat} {v : α} (h : xs[j]? = some v) : atI xs (j : Int) = some v := by
  have hj : j < xs.length := (List.getElem?_eq_some_iff.mp h).1
  have e : ixN xs.length (j : Int) = some j := by
    unfold ixN
    rw [if_pos (by omega), if_pos (by omega)]; simp
  unfold atI; rw [e]; exact h
/-- what stands as an index of a plain subscript -/
def PlainIx (b : Expr) : Prop := ∀ o i, subscripted b false o i = operate [o, i] (getItem o i)
/-- a subscript by values -/
def IxR (X : Cx) (r : R2) : Prop :=
  ∀ (value slice : Expr) (pins : List (Addr × Obj)) (s : Shared) (σ : St) (H : Hp) (x y : V) (v u : Value) (Q : VK), Inv X pins σ H s → RelV x v → RelV y u → r x y H Q →
    subscripted slice false v u = operate [v, u] (getItem v u) → wpAny (model X.prog X.w) X.A (subscriptTail value slice v u) (EP X pins σ Q) X.xe s
/-- a call of a builtin's method by values: the receiver, the arguments -/
def MtR (X : Cx) (id : String) (r : V → List V → Hp → VK → Prop) : Prop :=
  ∀ (pins : List (Addr × Obj)) (s : Shared) (σ : St) (H : Hp) (x : V) (xs : List V) (v : Value) (us : List Value) (Q : VK), Inv X pins σ H s → RelV x v → Vals xs us → r x xs H Q →
    wpAny (model X.prog X.w) X.A (call (.builtin id) (v :: us)) (EP X pins σ Q) X.xe s
section
variable {X : Cx} {a b : Expr} {ta tb : TE} {pos : Pos}
theorem IxR.or {r r' : R2} (h : IxR X r) (h' : IxR X r') : IxR X (fun x y H Q => r x y H Q ∨ r' x y H Q) := by
  intro value slice pins s σ H x y v u Q I rx ry q hs
  rcases q with q | q
  · exact h value slice pins s σ H x y v u Q I rx ry q hs
  · exact h' value slice pins s σ H x y v u Q I rx ry q hs
/-- a[b] -/
theorem pe_ix {r : R2} (hr : IxR X r) (ha : PE X a ta) (hb : PE X b tb) (hs : PlainIx b) : PE X (.Subscript a b pos) (tOp r ta tb) := by
  intro pins s σ H Q I h
  exact Subscript_ (binT ha hb I h fun v u s2 x y H2 I2 rx ry q => hr a b pins s2 σ H2 x y v u Q I2 rx ry q (hs _ _))

def rIxL (K : PySem.W.Frag) : R2 := fun x y H Q => ∃ p xs i v, x = .ref p ∧ y = .int i ∧ SqL K H p xs ∧ atI xs i = some v ∧ Q v H
def rIxT (K : PySem.W.Frag) : R2 := fun x y H Q => ∃ p xs i v, x = .ref p ∧ y = .int i ∧ SqT K H p xs ∧ atI xs i = some v ∧ Q v H
def rIxS : R2 := fun x y H Q => ∃ z i c, x = .str z ∧ y = .int i ∧ z.length ≤ sizeLine ∧ atI z.cps.toList i = some c ∧ Q (.str ⟨#[c]⟩) H
theorem ix_list : IxR X (rIxL X.K) := by
  intro value slice pins s σ H x y v u Q I rx ry h hs
  obtain ⟨p, xs, i, z, rfl, rfl, hq, he, q⟩ := h
  cases rx
  obtain ⟨t, rfl⟩ := ry
  obtain ⟨its, r, pl, hz⟩ := I.list hq
  obtain ⟨j, h1, h2, h3, h4, h5⟩ := atI_get he
  obtain ⟨w, ew, rw'⟩ := r.get h2
  have hl := r.length
  have hn := line63
  have fin : EP X pins σ Q w s := ⟨z, H, I, rw', q⟩
  by_cases h0 : 0 ≤ i
  · have hj : i.toNat = j := by
      rw [seqIndex_of h0 h5] at h1
      exact Option.some.inj h1
    exact item_listR pl.isList h0 (by omega) (by rw [hj]; simpa using ew) fin hs
  · have hj : (i + (its.toArray.size : Int)).toNat = j := by
      rw [seqIndex_neg (by omega) h4] at h1
      rw [List.size_toArray, ← hl]
      exact Option.some.inj h1
    exact subscriptTail_builtinR (x := w) pl.isList.typeIs slot_list_getitem.lookup
      (wpAny_getItem_list_neg (Q := fun r s' => r = w ∧ EP X pins σ Q r s') pl.isList (by omega) (by rw [List.size_toArray] <;> omega) (by omega) (by rw [hj]; simpa using ew) ⟨rfl, fin⟩) hs
theorem ix_tup : IxR X (rIxT X.K) := by
  intro value slice pins s σ H x y v u Q I rx ry h hs
  obtain ⟨p, xs, i, z, rfl, rfl, hq, he, q⟩ := h
  cases rx
  obtain ⟨t, rfl⟩ := ry
  obtain ⟨its, r, pl, hz⟩ := I.tuple hq
  obtain ⟨j, h1, h2, h3, h4, h5⟩ := atI_get he
  obtain ⟨w, ew, rw'⟩ := r.get h2
  have hl := r.length
  have hn := line63
  have fin : EP X pins σ Q w s := ⟨z, H, I, rw', q⟩
  exact subscriptTail_builtinR (x := w) pl.typeIs slot_tuple_getitem.lookup
    (getItem_tuple (j := j) (Q := fun r s' => r = w ∧ EP X pins σ Q r s') pl (by omega) (by omega) (by rw [List.size_toArray, ← hl]; exact h1) (by simpa using ew) ⟨rfl, fin⟩) hs
theorem ix_str : IxR X rIxS := by
  intro value slice pins s σ H x y v u Q I rx ry h hs
  obtain ⟨z, i, c, rfl, rfl, hz, he, q⟩ := h
  obtain ⟨t, rfl⟩ := rx
  obtain ⟨t', rfl⟩ := ry
  obtain ⟨j, h1, h2, h3, h4, h5⟩ := atI_get he
  have hl : z.cps.toList.length = z.length := by simp [Str.length]
  rw [hl] at h1 h4 h5
  have hn := line63
  exact tail_any (typeIs_str s z t) slot_str_getitem.lookup (getItem_str (c := c) (by
    have e1 : decide (i < -(2 ^ 63 : Int)) = false := decide_eq_false (by omega)
    have e2 : decide (i ≥ 2 ^ 63) = false := decide_eq_false (by omega)
    rw [e1, e2, Bool.or_false]) (by rw [h1]; simpa using h2) ⟨.str ⟨#[c]⟩, H, I.tok _, ⟨_, rfl⟩, q⟩) hs
/-- list, tuple or str -/
def rIx (K : PySem.W.Frag) : R2 := fun x y H Q => rIxL K x y H Q ∨ rIxT K x y H Q ∨ rIxS x y H Q
theorem ix_seq : IxR X (rIx X.K) := ix_list.or (ix_tup.or ix_str)

/-- the list's object behind a store -/
theorem mapSeq_set (its : List Value) (n j : Nat) (u : Value) : Obj.mapSeq (·.setIfInBounds j u) { cls := .type "list", data := .seq its.toArray n } = { cls := .type "list", data := .seq (its.set j u).toArray n } := by
  simp [Obj.mapSeq]
theorem Inv.lst {pins : List (Addr × Obj)} {σ : St} {H : Hp} {s : Shared} {p : Addr} {xs : List V} (I : Inv X pins σ H s) (h : H p = some (.lst xs)) :
    ∃ (its : List Value) (n : Nat), Vals xs its ∧ s.heap.get? p = some { cls := .type "list", data := .seq its.toArray n } ∧ xs.length ≤ sizeLine := by
  obtain ⟨z, its, n, r, e⟩ := I.hok p _ h
  exact ⟨its, n, r, e, z⟩
/-- the list at p is written by an update of its object -/
theorem Inv.lstUpd {pins : List (Addr × Obj)} {σ : St} {H : Hp} {s : Shared} {p : Addr} {xs ys : List V} {its its' : List Value} {n n' : Nat} {f : Obj → Obj} (I : Inv X pins σ H s) (h : H p = some (.lst xs))
    (ho : s.heap.get? p = some { cls := .type "list", data := .seq its.toArray n }) (hf : f { cls := .type "list", data := .seq its.toArray n } = { cls := .type "list", data := .seq its'.toArray n' }) (r : Vals ys its') (hz : ys.length ≤ sizeLine) (t : Nat) :
    Inv X pins σ (upd H p (.lst ys)) { s with heap := s.heap.update p f, toks := t } := by
  have e : (s.heap.update p f).get? p = some { cls := .type "list", data := .seq its'.toArray n' } := by
    rw [Heap.get?_update_self f ho (by rw [hf] <;> rfl), hf]
  refine I.write (x := p) (e := p) (by rw [h]; trivial) (.inl rfl) (fun b u hb q => (Heap.get?_update_other _ _ (Ne.symm hb)).trans q) ⟨_, e⟩ ?_
  exact ⟨hz, its', n', r, e⟩
def rSetL : V → V → V → Hp → (Hp → Prop) → Prop := fun o i v H Q => ∃ p xs k j, o = .ref p ∧ i = .int k ∧ H p = some (.lst xs) ∧ ixN xs.length k = some j ∧ Q (upd H p (.lst (xs.set j v)))
theorem set_list : PSet X rSetL := by
  intro pins s σ H o i v ov iv u Q I ro ri rv h
  obtain ⟨p, xs, k, j, rfl, rfl, hp, hj, q⟩ := h
  cases ro
  obtain ⟨t, rfl⟩ := ri
  obtain ⟨its, n, r, ho, hz⟩ := I.lst hp
  obtain ⟨h1, h2, h3, h4⟩ := ixN_seq hj
  have hl := r.length
  have hn := line63
  have I' : Inv X pins σ (upd H p (.lst (xs.set j v))) { s with heap := s.heap.update p (Obj.mapSeq (·.setIfInBounds j u)) } :=
    I.lstUpd hp ho (mapSeq_set its n j u) (r.set rv j) (by rw [List.length_set]; exact hz) s.toks
  by_cases h0 : 0 ≤ k
  · have hk : k.toNat = j := by
      rw [seqIndex_of h0 h4] at h1
      exact Option.some.inj h1
    exact PySem.W.ki_setAt ho h0 (by omega) (by rw [List.size_toArray, ← hl]; exact h4) (by rw [hk]; exact ⟨_, I', q⟩)
  · have hk : (k + (its.toArray.size : Int)).toNat = j := by
      rw [seqIndex_neg (by omega) h3] at h1
      rw [List.size_toArray, ← hl]
      exact Option.some.inj h1
    exact PySem.W.ki_setBack ho (by omega) (by rw [List.size_toArray, ← hl]; exact h3) (by omega) (by rw [hk]; exact ⟨_, I', q⟩)

theorem slice_bounds (lo hi : Option Int) (n : Nat) : (sliceBounds lo hi none n).1 = ((HT.sIx n 0 lo : Nat) : Int) ∧ (sliceBounds lo hi none n).2.1 = ((HT.sIx n n hi : Nat) : Int) ∧ (sliceBounds lo hi none n).2.2 = 1 := by
  refine ⟨?_, ?_, rfl⟩
  · cases lo with
    | none => simp [sliceBounds, HT.sIx]
    | some i =>
      simp only [sliceBounds, HT.sIx, Option.getD_none, show (1 : Int) > 0 by decide, if_true]
      by_cases h : i < 0
      · simp only [h, if_true] <;> omega
      · simp only [h, if_false] <;> omega
  · cases hi with
    | none => simp [sliceBounds, HT.sIx]
    | some i =>
      simp only [sliceBounds, HT.sIx, Option.getD_none, show (1 : Int) > 0 by decide, if_true]
      by_cases h : i < 0
      · simp only [h, if_true] <;> omega
      · simp only [h, if_false] <;> omega
theorem slicePick_cut (its : List Value) (lo hi : Option Int) : slicePick its.toArray lo hi none = ((its.drop (HT.sIx its.length 0 lo)).take (HT.sIx its.length its.length hi - HT.sIx its.length 0 lo)).toArray := by
  obtain ⟨h1, h2, h3⟩ := slice_bounds lo hi its.toArray.size
  unfold slicePick
  rw [h1, h2, h3]
  simp only [sliceRange_one, pick_run, List.size_toArray] <;> rfl
/-- xs[lo:hi] of a list: a new list -/
def rSlL (K : PySem.W.Frag) : V → Option Int → Option Int → Hp → VK → Prop := fun x lo hi H Q => ∃ a xs, x = .ref a ∧ SqL K H a xs ∧ ∀ p, H p = none → Q (.ref p) (upd H p (.lst (cutV xs lo hi)))
theorem sl_list : SlR X (rSlL X.K) := by
  intro pins s σ H x v vl vu lo hi sl Q I rx hs pl pu h
  obtain ⟨a, xs, rfl, hx, q⟩ := h
  cases rx
  obtain ⟨its, r, ht, hz⟩ := I.list hx
  have hlen := r.length
  refine ⟨"list", _, slot_list_getitem.lookup, ht.isList.typeIs, ?_⟩
  refine wpAny_getItem_list_slice ht.isList hs pl pu .none (by simp) ?_ (by rw [List.size_toArray] <;> omega)
  rw [slicePick_cut, ← hlen]
  refine ⟨.ref s.heap.objs.size, _, I.laid (t' := s.toks) (o := .lst (cutV xs lo hi)) (fun b ob q => Heap.get?_push_of_some _ q) (Nat.le_refl _) ?_, rfl, q _ (I.hok.fresh (Nat.le_refl _))⟩
  exact ⟨Nat.le_trans (cutV_length xs lo hi) hz, _, 0, (r.drop (HT.sIx xs.length 0 lo)).take (HT.sIx xs.length xs.length hi - HT.sIx xs.length 0 lo), Heap.get?_push_size _ rfl⟩

def flatV : V → Bool
  | .non => true
  | .bl _ => true
  | .int _ => true
  | .str _ => true
  | _ => false
/-- == of flat values -/
def eqV : V → V → Bool
  | .non, .non => true
  | .bl a, .bl b => a == b
  | .bl a, .int b => (if a then 1 else 0) == b
  | .int a, .bl b => a == (if b then 1 else 0)
  | .int a, .int b => a == b
  | .str a, .str b => a == b
  | _, _ => false
theorem eqAt_V {A : Around} {s : Shared} {y x : V} {u v : Value} (ry : RelV y u) (rx : RelV x v) (fy : flatV y = true) (fx : flatV x = true) : SeqAt.EqAt A s u v (eqV y x) := by
  cases y with
  | non =>
    cases ry
    cases x with
    | non => cases rx; exact SeqAt.EqAt.same _
    | bl b => cases rx; exact SeqAt.EqAt.none_bool b
    | int b => obtain ⟨t, rfl⟩ := rx; exact SeqAt.EqAt.none_int b t
    | str b => obtain ⟨t, rfl⟩ := rx; exact SeqAt.EqAt.none_str b t
    | _ => exact absurd (show false = true from fx) Bool.false_ne_true
  | bl a =>
    cases ry
    cases x with
    | non => cases rx; exact SeqAt.EqAt.bool_none a
    | bl b => cases rx; exact SeqAt.EqAt.bool_bool a b
    | int b => obtain ⟨t, rfl⟩ := rx; exact SeqAt.EqAt.bool_int a b t
    | str b => obtain ⟨t, rfl⟩ := rx; exact SeqAt.EqAt.bool_str a b t
    | _ => exact absurd (show false = true from fx) Bool.false_ne_true
  | int a =>
    obtain ⟨t', rfl⟩ := ry
    cases x with
    | non => cases rx; exact SeqAt.EqAt.int_none a t'
    | bl b => cases rx; exact SeqAt.EqAt.int_bool a t' b
    | int b => obtain ⟨t, rfl⟩ := rx; exact SeqAt.EqAt.int_int a t' b t
    | str b => obtain ⟨t, rfl⟩ := rx; exact SeqAt.EqAt.int_str a t' b t
    | _ => exact absurd (show false = true from fx) Bool.false_ne_true
  | str a =>
    obtain ⟨t', rfl⟩ := ry
    cases x with
    | non => cases rx; exact SeqAt.EqAt.str_none a t'
    | bl b => cases rx; exact SeqAt.EqAt.str_bool a t' b
    | int b => obtain ⟨t, rfl⟩ := rx; exact SeqAt.EqAt.str_int a t' b t
    | str b => obtain ⟨t, rfl⟩ := rx; exact SeqAt.EqAt.str_str a t' b t
    | _ => exact absurd (show false = true from fx) Bool.false_ne_true
  | _ => exact absurd (show false = true from fy) Bool.false_ne_true
/-- the items' answers, read off the values (a value's own answer does not lean on its token) -/
def eqU (x : V) (u : Value) : Bool := match u with
  | .none => eqV .non x
  | .bool b => eqV (.bl b) x
  | .int i _ => eqV (.int i) x
  | .str z _ => eqV (.str z) x
  | _ => false
theorem eqU_of {x y : V} {u : Value} (r : RelV y u) (f : flatV y = true) : eqU x u = eqV y x := by
  cases y with
  | non => cases r; rfl
  | bl b => cases r; rfl
  | int i => obtain ⟨t, rfl⟩ := r; rfl
  | str z => obtain ⟨t, rfl⟩ := r; rfl
  | _ => exact absurd (show false = true from f) Bool.false_ne_true
theorem any_eqU {x : V} : ∀ {xs : List V} {us : List Value}, Vals xs us → xs.all flatV = true → us.any (eqU x) = xs.any fun y => eqV y x
  | _, _, .nil, _ => rfl
  | y :: xs, u :: us, .cons r t, f => by
    rw [List.all_cons, Bool.and_eq_true] at f
    rw [List.any_cons, List.any_cons, eqU_of r f.1, any_eqU t f.2]
theorem mem_eqAt {A : Around} {s : Shared} {x : V} {v : Value} (rx : RelV x v) (fx : flatV x = true) : ∀ {xs : List V} {us : List Value}, Vals xs us → xs.all flatV = true → ∀ u ∈ us, SeqAt.EqAt A s u v (eqU x u)
  | _, _, .nil, _ => fun u hu => by cases hu
  | y :: xs, u :: us, .cons r t, f => fun u' hu => by
    rw [List.all_cons, Bool.and_eq_true] at f
    rcases List.mem_cons.mp hu with rfl | hu
    · rw [eqU_of r f.1]; exact eqAt_V r rx f.1 fx
    · exact mem_eqAt rx fx t f.2 u' hu
def inV (x : V) (xs : List V) : Bool := xs.any fun y => eqV y x
/-- x in a list or tuple of flat items -/
def rIn (K : PySem.W.Frag) (neg : Bool) : R2 := fun x y H Q => ∃ p xs, y = .ref p ∧ (SqL K H p xs ∨ SqT K H p xs) ∧ flatV x = true ∧ xs.all flatV = true ∧ Q (.bl (if neg then !inV x xs else inV x xs)) H
theorem op_notIn_seq : OpR X (compareOp .NotIn) (rIn X.K true) := by
  intro pins s σ H x y v u Q I rx ry h
  obtain ⟨p, xs, rfl, hq, fx, fs, q⟩ := h
  cases ry
  rcases hq with hq | hq
  · obtain ⟨its, r, pl, hz⟩ := I.list hq
    refine SeqAt.notIn_listAt (eqU x) pl.isList (fun w hw => mem_eqAt rx fx r fs w (by simpa using hw)) ⟨.bl _, H, I, rfl, ?_⟩
    rw [show its.toArray.any (eqU x) = its.any (eqU x) by simp, any_eqU r fs]
    exact q
  · obtain ⟨its, r, pl, hz⟩ := I.tuple hq
    refine SeqAt.notIn_tupleAt (eqU x) pl (fun w hw => mem_eqAt rx fx r fs w (by simpa using hw)) ⟨.bl _, H, I, rfl, ?_⟩
    rw [show its.toArray.any (eqU x) = its.any (eqU x) by simp, any_eqU r fs]
    exact q
theorem call_len_seq : CallR X (.builtin "len") (fun xs H Q => ∃ p ys, xs = [.ref p] ∧ (SqL X.K H p ys ∨ SqT X.K H p ys) ∧ Q (.int ys.length) H) := by
  intro pins s σ H xs us Q I r h
  obtain ⟨p, ys, rfl, hq, q⟩ := h
  obtain ⟨u, rfl, rx⟩ := vals1 r
  cases rx
  have hn := line63
  rcases hq with hq | hq
  · obtain ⟨its, r', pl, hz⟩ := I.list hq
    have hlen := r'.length
    exact Calls.call_len_list pl.isList (by simp only [List.size_toArray] <;> omega) ⟨.int ys.length, H, I.tok _, ⟨s.toks + 1, by rw [List.size_toArray, hlen]⟩, q⟩
  · obtain ⟨its, r', pl, hz⟩ := I.tuple hq
    have hlen := r'.length
    exact len_tuple pl (by simp only [List.size_toArray] <;> omega) ⟨.int ys.length, H, I.tok _, ⟨s.toks + 1, by rw [List.size_toArray, hlen]⟩, q⟩
theorem call_len_str : CallR X (.builtin "len") (fun xs H Q => ∃ z, xs = [.str z] ∧ z.length ≤ sizeLine ∧ Q (.int z.length) H) := by
  intro pins s σ H xs us Q I r h
  obtain ⟨z, rfl, hz, q⟩ := h
  obtain ⟨u, rfl, t, rfl⟩ := vals1 r
  have hn := line63
  exact len_str (by omega) ⟨.int z.length, H, I.tok _, ⟨_, rfl⟩, q⟩
theorem call_list_of : CallR X (.type "list") (fun xs H Q => ∃ p ys, xs = [.ref p] ∧ (SqL X.K H p ys ∨ SqT X.K H p ys) ∧ ∀ l, H l = none → Q (.ref l) (upd H l (.lst ys))) := by
  intro pins s σ H xs us Q I r h
  obtain ⟨p, ys, rfl, hq, q⟩ := h
  obtain ⟨u, rfl, rx⟩ := vals1 r
  cases rx
  have fin : ∀ (its : List Value), Vals ys its → ys.length ≤ sizeLine → ∀ (h' : Heap) (c' : Nat), (∀ b o', s.heap.get? b = some o' → h'.get? b = some o') →
      h'.get? s.heap.objs.size = some { cls := .type "list", dict := none, data := .seq its.toArray c', slots := #[] } → EP X pins σ Q (.ref s.heap.objs.size) { s with heap := h' } := fun its r' hz h' c' kp e =>
    ⟨.ref s.heap.objs.size, _, I.laid (t' := s.toks) kp (Nat.le_refl _) (show ObjOk X.prog X.w _ h' _ (.lst ys) from ⟨hz, its, c', r', e⟩), rfl, q _ (I.hok.fresh (Nat.le_refl _))⟩
  rcases hq with hq | hq
  · obtain ⟨its, r', pl, hz⟩ := I.list hq
    have hlen := r'.length
    obtain ⟨o, ho, hc, n, hd⟩ := pl.isList
    exact call_list_seq p (.inl rfl) ho hc hd (fun h' c' kp e => fin its r' hz h' c' kp e) (by simp only [List.size_toArray] <;> omega)
  · obtain ⟨its, r', pl, hz⟩ := I.tuple hq
    have hlen := r'.length
    obtain ⟨o, ho, hc, n, hd⟩ := pl
    exact call_list_seq p (.inr rfl) ho hc hd (fun h' c' kp e => fin its r' hz h' c' kp e) (by simp only [List.size_toArray] <;> omega)
theorem call_tuple_of : CallR X (.type "tuple") (fun xs H Q => ∃ p ys, xs = [.ref p] ∧ ((SqL X.K H p ys ∧ ∀ l, H l = none → Q (.ref l) (upd H l (.tup ys))) ∨ (SqT X.K H p ys ∧ Q (.ref p) H))) := by
  intro pins s σ H xs us Q I r h
  obtain ⟨p, ys, rfl, h⟩ := h
  obtain ⟨u, rfl, rx⟩ := vals1 r
  cases rx
  rcases h with ⟨hq, q⟩ | ⟨hq, q⟩
  · obtain ⟨its, r', pl, hz⟩ := I.list hq
    have hlen := r'.length
    refine call_tuple_list pl.isList (fun h' kp => ?_) (by simp only [List.size_toArray] <;> omega)
    have I1 : Inv X pins σ H { s with heap := h' } := I.kept (t' := s.toks) kp
    have I2 : Inv X pins σ (upd H h'.objs.size (.tup ys)) { s with heap := h'.push { cls := .type "tuple", data := .seq its.toArray } } :=
      I1.laid (t' := s.toks) (fun b o e => Heap.get?_push_of_some _ e) (Nat.le_refl _) (show ObjOk X.prog X.w _ _ _ (.tup ys) from ⟨⟨hz, _, Heap.get?_push_size _ rfl, rfl⟩, its, r', IsTup.new _ _⟩)
    exact ⟨.ref h'.objs.size, _, I2, rfl, q _ (I1.hok.fresh (Nat.le_refl _))⟩
  · obtain ⟨its, r', pl, hz⟩ := I.tuple hq
    exact call_tuple_same pl ⟨.ref p, H, I, rfl, q⟩

/-- the value is of that builtin type -/
def tyV (K : PySem.W.Frag) (T : String) (x : V) (H : Hp) : Prop := match x with
  | .str _ => T = "str"
  | .int _ => T = "int"
  | .ref p => (T = "list" ∧ ∃ xs, SqL K H p xs) ∨ (T = "tuple" ∧ ∃ o, K.lookup p = some o ∧ o.cls = .type "tuple" ∧ o.dict = none) ∨
      (T = "dict" ∧ ((∃ kvs, H p = some (.dK kvs)) ∨ ∃ kvs, H p = some (.dT kvs))) ∨ (T = "set" ∧ ∃ S n, H p = some (.set S n))
  | _ => False
theorem tyV_is {pins : List (Addr × Obj)} {σ : St} {H : Hp} {s : Shared} {T : String} {x : V} {v : Value} (I : Inv X pins σ H s) (r : RelV x v) (ty : tyV X.K T x H) :
    s.TypeIs v T ∧ ∀ a, v = .ref a → ∃ ob, s.heap.get? a = some ob ∧ ob.dict = none := by
  cases x with
  | str z =>
    obtain ⟨t, rfl⟩ := r
    cases (show T = "str" from ty)
    exact ⟨typeIs_str s z t, fun _ e => nomatch e⟩
  | int i =>
    obtain ⟨t, rfl⟩ := r
    cases (show T = "int" from ty)
    exact ⟨typeIs_int s i t, fun _ e => nomatch e⟩
  | ref p =>
    cases r
    rcases ty with ⟨rfl, xs, hq⟩ | ⟨rfl, o, hk, hc, hd⟩ | ⟨rfl, hk⟩ | ⟨rfl, S, n, hk⟩
    · obtain ⟨its, _, pl, _⟩ := I.list hq
      refine ⟨pl.isList.typeIs, fun a e => ?_⟩
      cases e
      obtain ⟨o, n, e, c, hd, _⟩ := pl
      exact ⟨o, e, hd⟩
    · refine ⟨⟨o, I.kIn p o hk, hc⟩, fun a e => ?_⟩
      cases e
      exact ⟨o, I.kIn _ o hk, hd⟩
    · have z : ∃ o, s.heap.get? p = some o ∧ o.ExactDict := by
        rcases hk with ⟨kvs, hk⟩ | ⟨kvs, hk⟩
        · obtain ⟨_, _, _, _, o, _, _, e, ex, _⟩ := I.hok p _ hk
          exact ⟨o, e, ex⟩
        · obtain ⟨_, _, _, _, o, _, _, e, ex, _⟩ := I.hok p _ hk
          exact ⟨o, e, ex⟩
      obtain ⟨o, e, ex⟩ := z
      refine ⟨⟨o, e, ex.1⟩, fun a e2 => ?_⟩
      cases e2
      exact ⟨o, e, ex.2.1⟩
    · obtain ⟨o, _, _, _, e, ex, _⟩ := I.hok p _ hk
      refine ⟨⟨o, e, ex.1⟩, fun a e2 => ?_⟩
      cases e2
      exact ⟨o, e, ex.2.1⟩
  | _ => exact False.elim ty
def tBM (K : PySem.W.Frag) (T : String) (r : V → List V → Hp → VK → Prop) (to : TE) (t : TA) : TE := fun σ H Q => to σ H fun x H1 => tyV K T x H1 ∧ t σ H1 fun xs H2 => r x xs H2 Q
variable {o e : Expr} {es : List Expr} {to : TE} {t : TA} {name : Str} {apos cpos : Pos} {T id : String} {r : V → List V → Hp → VK → Prop}
theorem pe_bm (pa : PlainAttrs T) (slot : Slot T name id) (hty : typeOf (.builtin id) = pure (.type "method_descriptor")) (hm : MtR X id r) (ho : PE X o to) (ha : PA X (e :: es) t)
    (hbase : attributeBase o name X.env (eval o X.env) = eval o X.env := by rfl)
    (hfew : ((backTo cpos (starEach (e :: es) X.env)).all (fun x => !x.1) && (backToKw cpos (keywordEach [] X.env)).all (fun x => x.1.isSome)
      && decide ((e :: es).length + ([] : List Keyword).length + (if ([] : List Keyword).isEmpty then 0 else 1) < 30)) = true := by rfl)
    (hline : (apos.endLine == cpos.line) = true := by rfl) (hs : starEach (e :: es) X.env = (false, eval e X.env) :: starEach es X.env := by rfl) (hplain : (backTo cpos (starEach es X.env)).any (·.1) = false := by rfl) :
    PE X (.Call (.Attribute o name apos) (e :: es) [] cpos) (tBM X.K T r to t) := by
  intro pins s σ H Q I h
  refine wpAny_Call_method_late hbase hfew hline rfl (thn (ho pins s σ H _ I h) fun v s1 ⟨x, H1, I1, r1, ty, q1⟩ => ?_)
  obtain ⟨h1, h2⟩ := tyV_is I1 r1 ty
  refine ⟨T, id, pa, slot, hty, h1, h2, ?_⟩
  have hA := ha cpos pins s1 σ H1 _ I1 q1
  rw [hs] at hA ⊢
  refine Calls.callWith_builtin (by show (false || (backTo cpos (starEach es X.env)).any (·.1)) = false; rw [hplain] <;> rfl) (Calls.evalArgs_plain ?_)
  exact thn hA fun us s2 ⟨vs, H2, I2, r2, q2⟩ => hm pins s2 σ H2 x vs v us Q I2 r1 r2 q2
/- xs.append(e), list.index on a module's tuple .. are MtR facts of 06m -/
end
end L2

namespace L2
open PySem PySem.Spec PyProof.Rows

def MtM (X : Cx) (id : String) (r : V → List V → Hp → VK → Prop) : Prop :=
  ∀ (pins : List (Addr × Obj)) (s : Shared) (σ : St) (H : Hp) (x : V) (xs : List V) (v : Value) (us : List Value) (Q : VK), Inv X pins σ H s → RelV x v → Vals xs us → r x xs H Q →
    wpAny (model X.prog X.w) X.A (call (.builtin id) (v :: us)) (EP X pins σ Q) X.xe s

theorem Vals.one : ∀ {x : V} {us : List Value}, Vals [x] us → ∃ u, us = [u] ∧ RelV x u
  | _, _, .cons r .nil => ⟨_, rfl, r⟩
theorem Vals.eraseIdx : ∀ {xs : List V} {us : List Value} (i : Nat), Vals xs us → Vals (xs.eraseIdx i) (us.eraseIdx i)
  | _, _, _, .nil => .nil
  | _, _, 0, .cons _ t => t
  | _, _, i + 1, .cons r t => .cons r (Vals.eraseIdx i t)
theorem len_erase {α : Type} : ∀ (l : List α) (i : Nat), (l.eraseIdx i).length ≤ l.length
  | [], _ => Nat.le_refl _
  | _ :: _, 0 => Nat.le_succ _
  | _ :: r, i + 1 => Nat.succ_le_succ (len_erase r i)
section
variable {X : Cx} {pins : List (Addr × Obj)} {σ : St} {H : Hp} {s : Shared} {l b : Addr} {xs ys zs : List V}

theorem Inv.lset {its its' : List Value} {n : Nat} {f : Array Value → Array Value} {t' : Nat} (I : Inv X pins σ H s) (hH : H l = some (.lst xs))
    (e : s.heap.get? l = some { cls := .type "list", data := .seq its.toArray n }) (hf : f its.toArray = its'.toArray) (hv : Vals ys its') (hz : ys.length ≤ sizeLine) :
    Inv X pins σ (upd H l (.lst ys)) { s with heap := s.heap.update l (Obj.mapSeq f), toks := t' } := by
  have q := PySem.IsL.update e f
  rw [hf] at q
  refine I.write (x := l) (e := l) (by rw [hH]; exact trivial) (.inl rfl) (fun b' u hb hu => (Heap.get?_update_other s.heap (Obj.mapSeq f) (Ne.symm hb)).trans hu) ⟨_, q⟩ ?_
  exact ⟨hz, its', _, hv, q⟩
theorem Inv.lnew {its : List Value} {t' : Nat} (I : Inv X pins σ H s) (hv : Vals ys its) (hz : ys.length ≤ sizeLine) :
    Inv X pins σ (upd H s.heap.objs.size (.lst ys)) { s with heap := s.heap.push { cls := .type "list", data := .seq its.toArray }, toks := t' } :=
  I.laid (fun _ _ q => Heap.get?_push_of_some _ q) (Nat.le_refl _) ⟨hz, its, 0, hv, Heap.get?_push_size _ rfl⟩
theorem Inv.fresh (I : Inv X pins σ H s) : H s.heap.objs.size = none := I.hok.fresh (Nat.le_refl _)
theorem Inv.lstM (I : Inv X pins σ H s) (hH : H l = some (.lst xs)) : xs.length ≤ sizeLine ∧ ∃ (its : List Value) (n : Nat), Vals xs its ∧ xs.length = its.length ∧ s.heap.get? l = some { cls := .type "list", data := .seq its.toArray n } := by
  obtain ⟨z, its, n, r, e⟩ := I.hok l _ hH
  exact ⟨z, its, n, r, r.length, e⟩

end

section
variable {X : Cx}

def rAppend : V → List V → Hp → VK → Prop := fun x vs H Q => ∃ l xs y, x = .ref l ∧ vs = [y] ∧ H l = some (.lst xs) ∧ xs.length < sizeLine ∧ Q .non (upd H l (.lst (xs ++ [y])))
theorem mt_append : MtM X "list.append" rAppend := by
  intro pins s σ H x vs v us Q I rx rv h
  obtain ⟨l, xs, y, rfl, rfl, hH, hz, q⟩ := h
  cases rx
  obtain ⟨u, rfl, ru⟩ := rv.one
  obtain ⟨z, its, n, r, hl, e⟩ := I.lstM hH
  refine call_meets F.slot_list_append ⟨_, e, rfl⟩ F.entry_list_append (F.args_list_append_2 _ _) (PySem.list_append l its.toArray n u (by rw [List.size_toArray]; omega)) ⟨e, ?_⟩
  refine ⟨.non, _, I.lset (its' := its ++ [u]) hH e (by simp) (r.append (.cons ru .nil)) ?_, rfl, q⟩
  rw [List.length_append, List.length_singleton]
  omega

def rPopAt : V → List V → Hp → VK → Prop := fun x vs H Q => ∃ l xs i k y, x = .ref l ∧ vs = [.int i] ∧ H l = some (.lst xs) ∧ -(2 ^ 63) ≤ i ∧ i < 2 ^ 63 ∧ seqIndex? i xs.length = some k ∧ xs[k]? = some y ∧ Q y (upd H l (.lst (xs.eraseIdx k)))
theorem mt_popAt : MtM X "list.pop" rPopAt := by
  intro pins s σ H x vs v us Q I rx rv h
  obtain ⟨l, xs, i, k, y, rfl, rfl, hH, h1, h2, hk, hy, q⟩ := h
  cases rx
  obtain ⟨u, rfl, ru⟩ := rv.one
  obtain ⟨t, rfl⟩ := ru
  obtain ⟨z, its, n, r, hl, e⟩ := I.lstM hH
  obtain ⟨w, hw, rw'⟩ := r.get hy
  refine call_meets F.slot_list_pop ⟨_, e, rfl⟩ F.entry_list_pop (F.args_list_pop_2 _ _)
    (MeetsSeq.list_pop_at l its.toArray n i t k w (fitsIndex_both h1 h2) (by rw [List.size_toArray, ← hl]; exact hk) (by rw [← Array.getElem?_toList]; exact hw) (by rw [List.size_toArray]; omega)) ⟨e, ?_⟩
  refine ⟨y, _, I.lset (its' := its.eraseIdx k) hH e ?_ (r.eraseIdx k) ?_, rw', q⟩
  · show its.toArray.eraseIdxIfInBounds k = (its.eraseIdx k).toArray
    rw [List.eraseIdxIfInBounds_toArray]
  · have := len_erase xs k
    omega

def rCat : R2 := fun x y H Q => ∃ l b xs zs, x = .ref l ∧ y = .ref b ∧ H l = some (.lst xs) ∧ H b = some (.lst zs) ∧ xs.length + zs.length ≤ sizeLine ∧ ∀ p, H p = none → Q (.ref p) (upd H p (.lst (xs ++ zs)))
theorem op_cat : OpR X (binaryOp .Add) rCat := by
  intro pins s σ H x y v u Q I rx ry h
  obtain ⟨l, b, xs, zs, rfl, rfl, hH, hB, hz, q⟩ := h
  cases rx
  cases ry
  obtain ⟨z, its, n, r, hl, e⟩ := I.lstM hH
  obtain ⟨z2, its2, n2, r2, hl2, e2⟩ := I.lstM hB
  refine PySem.P.add_list e e2 ?_ (by rw [List.size_toArray, List.size_toArray]; omega)
  have ea : its.toArray ++ its2.toArray = (its ++ its2).toArray := by simp
  rw [ea]
  exact ⟨.ref _, _, I.lnew (t' := s.toks) (r.append r2) (by rw [List.length_append]; omega), rfl, q _ I.fresh⟩
end

section
variable {prog : Program} {w : World} {A : Around} {E : Value → Shared → Prop} {s : Shared}
end

section
variable {X : Cx}
end
end L2

namespace L2
open PySem PySem.Spec PyProof.Rows

section
variable {κ : Type} [DecidableEq κ]
def valV (kvs : List (κ × V)) (k : κ) : Option V := (kvs.find? fun kv => decide (kv.1 = k)).map (·.2)
/-- in its place, or at the end -/
def putK (kvs : List (κ × V)) (k : κ) (v : V) : List (κ × V) :=
  if (kvs.any fun kv => decide (kv.1 = k)) = true then kvs.map (fun kv => if kv.1 = k then (kv.1, v) else kv) else kvs ++ [(k, v)]
theorem valV_pos {p : κ × V} {r : List (κ × V)} {k : κ} (e : p.1 = k) : valV (p :: r) k = some p.2 := by simp [valV, List.find?_cons, e]
theorem valV_neg {p : κ × V} {r : List (κ × V)} {k : κ} (e : ¬ p.1 = k) : valV (p :: r) k = valV r k := by simp [valV, List.find?_cons, e]
theorem valV_any (k : κ) : ∀ kvs : List (κ × V), (kvs.any fun kv => decide (kv.1 = k)) = (valV kvs k).isSome
  | [] => rfl
  | p :: r => by
    rw [List.any_cons]
    by_cases e : p.1 = k
    · simp only [valV_pos e, decide_eq_true e, Bool.true_or, Option.isSome_some]
    · rw [valV_neg e, decide_eq_false e, Bool.false_or]; exact valV_any k r
theorem valV_snoc (k j : κ) (y : V) : ∀ kvs : List (κ × V), valV kvs k = none → valV (kvs ++ [(k, y)]) j = if j = k then some y else valV kvs j
  | [], _ => by
    by_cases e : k = j
    · rw [if_pos e.symm]; exact valV_pos (p := (k, y)) e
    · rw [if_neg (fun z => e z.symm)]; exact valV_neg (p := (k, y)) e
  | p :: r, hn => by
    rw [List.cons_append]
    have hk : ¬ p.1 = k := fun z => by rw [valV_pos z] at hn; cases hn
    rw [valV_neg hk] at hn
    have ih := valV_snoc k j y r hn
    by_cases e : p.1 = j
    · rw [valV_pos e, valV_pos e, if_neg (fun z => hk (e.trans z))]
    · rw [valV_neg e, valV_neg e, ih]
theorem length_putK (kvs : List (κ × V)) (k : κ) (v : V) : (putK kvs k v).length ≤ kvs.length + 1 := by
  unfold putK
  split
  · rw [List.length_map]; omega
  · rw [List.length_append, List.length_cons, List.length_nil]; omega
theorem putK_new {kvs : List (κ × V)} {k : κ} (v : V) (h : valV kvs k = none) : putK kvs k v = kvs ++ [(k, v)] := by
  unfold putK
  rw [valV_any, h]
  exact if_neg (by decide)

theorem RelO.isSome_eq {o : Option V} {u : Option Value} (r : RelO o u) : o.isSome = u.isSome := by
  cases o with
  | none => cases u with
    | none => rfl
    | some _ => exact (show False from r).elim
  | some _ => cases u with
    | none => exact (show False from r).elim
    | some _ => rfl
/-- raw tables of the same keys -/
theorem KV.val {kvs : List (κ × V)} {vs : List (κ × Value)} (r : KV kvs vs) (k : κ) : RelO (valV kvs k) (valueAt vs k) := by
  unfold KV at r
  induction r with
  | nil => exact True.intro
  | @cons p q ps qs h t ih =>
    obtain ⟨h1, h2⟩ := h
    by_cases e : p.1 = k
    · have e' : q.1 = k := h1.symm.trans e
      have b : valueAt (q :: qs) k = some q.2 := by simp [valueAt, List.find?_cons, e']
      rw [valV_pos e, b]; exact h2
    · have e' : ¬ q.1 = k := fun z => e (h1.trans z)
      have b : valueAt (q :: qs) k = valueAt qs k := by simp [valueAt, List.find?_cons, e']
      rw [valV_neg e, b]; exact ih
theorem KV.any {kvs : List (κ × V)} {vs : List (κ × Value)} (r : KV kvs vs) (k : κ) : (kvs.any fun kv => decide (kv.1 = k)) = vs.any fun kv => decide (kv.1 = k) := by
  unfold KV at r
  induction r with
  | nil => rfl
  | cons h t ih => rw [List.any_cons, List.any_cons, ih, h.1]
theorem KV.repl {kvs : List (κ × V)} {vs : List (κ × Value)} (r : KV kvs vs) (k : κ) {y : V} {u : Value} (ry : RelV y u) :
    KV (kvs.map fun kv => if kv.1 = k then (kv.1, y) else kv) (vs.map fun kv => if kv.1 = k then (kv.1, u) else kv) := by
  unfold KV at r ⊢
  induction r with
  | nil => exact .nil
  | @cons p q ps qs h t ih =>
    rw [List.map_cons, List.map_cons]
    refine .cons ?_ ih
    obtain ⟨h1, h2⟩ := h
    by_cases e : p.1 = k
    · rw [if_pos e, if_pos (h1.symm.trans e)]; exact ⟨h1, ry⟩
    · rw [if_neg e, if_neg (fun z => e (h1.trans z))]; exact ⟨h1, h2⟩
theorem KV.put {kvs : List (κ × V)} {vs : List (κ × Value)} (r : KV kvs vs) (k : κ) {y : V} {u : Value} (ry : RelV y u) : KV (putK kvs k y) (stored vs k u) := by
  unfold putK stored
  rw [r.any k]
  by_cases e : (vs.any fun kv => decide (kv.1 = k)) = true
  · rw [if_pos e, if_pos e]; exact r.repl k ry
  · rw [if_neg e, if_neg e]; exact Paired.snoc r ⟨rfl, ry⟩
theorem KV.keys {kvs : List (κ × V)} {vs : List (κ × Value)} (r : KV kvs vs) : kvs.map (·.1) = vs.map (·.1) := by
  unfold KV at r
  induction r with
  | nil => rfl
  | cons h t ih => rw [List.map_cons, List.map_cons, ih, h.1]
theorem KV.length {kvs : List (κ × V)} {vs : List (κ × Value)} (r : KV kvs vs) : kvs.length = vs.length := Paired.length r
end


theorem kV_is {P : Program} {w : World} {k : Key} {u : Value} (r : RelV (kV k) u) : (mixKind P w).is k u = true := by
  cases k with
  | inl i => obtain ⟨t, e⟩ := (show ∃ t, u = Value.int i t from r); subst e; exact mixKind_int P w i t
  | inr x => obtain ⟨t, e⟩ := (show ∃ t, u = Value.str x t from r); subst e; exact mixKind_str P w x t
theorem items_are {P : Program} {w : World} : ∀ {ks : List Key} {us : List Value}, Vals (ks.map kV) us → ItemsAre (mixKind P w) ks us
  | [], _, r => by rw [List.map_nil] at r; cases r; exact .nil
  | k :: ks, _, r => by
    rw [List.map_cons] at r
    cases r with
    | cons h t => exact .cons (kV_is h) (items_are t)

/-- raw entries of a dict with tuple keys -/
abbrev KT (H : Hp) : List (List Key × V) → List (List Key × Addr × Value) → Prop := Paired fun p q => p.1 = q.1 ∧ H q.2.1 = some (.tup (p.1.map kV)) ∧ RelV p.2 q.2.2
theorem KT.val {H : Hp} {kvs : List (List Key × V)} {xs : List (List Key × Addr × Value)} (r : KT H kvs xs) (k : List Key) : RelO (valV kvs k) ((atKey xs k).map (·.2)) := by
  induction r with
  | nil => exact True.intro
  | @cons p q ps qs h t ih =>
    obtain ⟨h1, _, h2⟩ := h
    by_cases e : p.1 = k
    · have e' : q.1 = k := h1.symm.trans e
      have b : atKey (q :: qs) k = some q.2 := by simp [atKey, List.find?_cons, e']
      rw [valV_pos e, b]; exact h2
    · have e' : ¬ q.1 = k := fun z => e (h1.trans z)
      have b : atKey (q :: qs) k = atKey qs k := by simp [atKey, List.find?_cons, e']
      rw [valV_neg e, b]; exact ih
theorem KT.repl {H : Hp} {kvs : List (List Key × V)} {xs : List (List Key × Addr × Value)} (r : KT H kvs xs) (k : List Key) {y : V} {u : Value} (ry : RelV y u) :
    KT H (kvs.map fun kv => if kv.1 = k then (kv.1, y) else kv) (xs.map (putAt k u)) := by
  induction r with
  | nil => exact .nil
  | @cons p q ps qs h t ih =>
    rw [List.map_cons, List.map_cons]
    refine .cons ?_ ih
    obtain ⟨h1, h2, h3⟩ := h
    unfold putAt
    by_cases e : p.1 = k
    · rw [if_pos e, if_pos (h1.symm.trans e)]; exact ⟨h1, h2, ry⟩
    · rw [if_neg e, if_neg (fun z => e (h1.trans z))]; exact ⟨h1, h2, h3⟩
theorem KT.put {H : Hp} {kvs : List (List Key × V)} {xs : List (List Key × Addr × Value)} (r : KT H kvs xs) (k : List Key) {b : Addr} {y : V} {u : Value} (hb : H b = some (.tup (k.map kV))) (ry : RelV y u) :
    KT H (putK kvs k y) (storedH xs k b u) := by
  have e : (kvs.any fun kv => decide (kv.1 = k)) = (atKey xs k).isSome := by
    rw [valV_any, (r.val k).isSome_eq, Option.isSome_map]
  unfold putK storedH
  rw [e]
  by_cases q : (atKey xs k).isSome = true
  · rw [if_pos q, if_pos q]; exact r.repl k ry
  · rw [if_neg q, if_neg q]; exact Paired.snoc r ⟨rfl, hb, ry⟩
theorem KT.keeps {H H' : Hp} {kvs : List (List Key × V)} {xs : List (List Key × Addr × Value)} (r : KT H kvs xs) (ht : ∀ b ys, H b = some (.tup ys) → H' b = some (.tup ys)) : KT H' kvs xs :=
  Paired.mapP r fun _ _ z => ⟨z.1, ht _ _ z.2.1, z.2.2⟩

section
variable {P : Program} {w : World} {H : Hp} {h : Heap} {a : Addr}
theorem rd_of {u : HO} (ok : HOk P w H h) (e : Rd H a u) : ObjOk P w H h a u := e.ok ok
theorem dk_rd {kvs : List (Key × V)} (ok : HOk P w H h) (e : Rd H a (.dK kvs)) : kvs.length ≤ sizeLine ∧ (a == sysModules) = false ∧ ∃ vs, KV kvs vs ∧ h.DictOf (mixKind P w) a vs :=
  show ObjOk P w H h a (.dK kvs) from rd_of ok e
theorem dk_of {kvs : List (Key × V)} (ok : HOk P w H h) (e : H a = some (.dK kvs)) : kvs.length ≤ sizeLine ∧ (a == sysModules) = false ∧ ∃ vs, KV kvs vs ∧ h.DictOf (mixKind P w) a vs := dk_rd ok (.inl e)
/-- a tracked tuple of ints and texts is a key -/
theorem key_of {ks : List Key} (ok : HOk P w H h) (e : H a = some (.tup (ks.map kV))) : (tupleKind (mixKind P w)).is h ks a := by
  obtain ⟨_, its, r, o, h1, h2, n, h3⟩ := (show ObjOk P w H h a (.tup (ks.map kV)) from ok a _ e)
  exact ⟨o, its.toArray, n, h1, h2, h3, by simpa using items_are r⟩
theorem dt_rd {kvs : List (List Key × V)} (ok : HOk P w H h) (e : Rd H a (.dT kvs)) : kvs.length ≤ sizeLine ∧ (a == sysModules) = false ∧
    ∃ xs, KT H kvs xs ∧ h.DictOfH (tupleKind (mixKind P w)) a xs := by
  obtain ⟨z, y, xs, r, o, es, ep, h1, h2, h3, h4, h5⟩ := (show ObjOk P w H h a (.dT kvs) from rd_of ok e)
  refine ⟨z, y, xs, r, o, es, ep, h1, h2, h3, h4, fun x hx => ?_, h5⟩
  have all : ∀ {l : List (List Key × V)} {m : List (List Key × Addr × Value)}, KT H l m → ∀ x ∈ m, (tupleKind (mixKind P w)).is h x.1 x.2.1 := by
    intro l m q
    induction q with
    | nil => intro x hx; exact nomatch hx
    | @cons p q ps qs hq t ih =>
      intro x hx
      rcases List.mem_cons.mp hx with e | hx
      · subst e
        exact key_of ok (by rw [← hq.1]; exact hq.2.1)
      · exact ih x hx
  exact all r x hx
theorem dt_of {kvs : List (List Key × V)} (ok : HOk P w H h) (e : H a = some (.dT kvs)) : kvs.length ≤ sizeLine ∧ (a == sysModules) = false ∧
    ∃ xs, KT H kvs xs ∧ h.DictOfH (tupleKind (mixKind P w)) a xs := dt_rd ok (.inl e)
end

/-- what the dict at a holds at the key y -/
def DGet (H : Hp) (a : Addr) (y : V) (r : Option V) : Prop :=
  (∃ kvs k, Rd H a (.dK kvs) ∧ y = kV k ∧ r = valV kvs k) ∨ ∃ kvs k b, Rd H a (.dT kvs) ∧ y = .ref b ∧ H b = some (.tup (k.map kV)) ∧ r = valV kvs k
/-- the heap behind a[y] = v -/
def DPut (H : Hp) (a : Addr) (y v : V) (H' : Hp) : Prop :=
  (∃ kvs k, H a = some (.dK kvs) ∧ y = kV k ∧ kvs.length < sizeLine ∧ H' = upd H a (.dK (putK kvs k v))) ∨
  ∃ kvs k b, H a = some (.dT kvs) ∧ y = .ref b ∧ H b = some (.tup (k.map kV)) ∧ kvs.length < sizeLine ∧ H' = upd H a (.dT (putK kvs k v))
theorem DGet.k {H : Hp} {a : Addr} {kvs : List (Key × V)} {k : Key} (e : H a = some (.dK kvs)) : DGet H a (kV k) (valV kvs k) := .inl ⟨kvs, k, .inl e, rfl, rfl⟩
theorem DPut.k {H : Hp} {a : Addr} {kvs : List (Key × V)} {k : Key} {v : V} (e : H a = some (.dK kvs)) (hl : kvs.length < sizeLine) : DPut H a (kV k) v (upd H a (.dK (putK kvs k v))) := .inl ⟨kvs, k, e, rfl, hl, rfl⟩
section
variable {X : Cx} {pins : List (Addr × Obj)} {σ : St} {H : Hp} {s : Shared} {a : Addr} {y v : V} {u r : Value} {o : Option V} {A : Around} {E : Value → Shared → Prop}

theorem Inv.big (I : Inv X pins σ H s) : sysModules < s.heap.objs.size := by
  have h : mainGlobals < s.heap.objs.size := (I.mod.glob.keeps I.bk).lt
  exact Nat.lt_trans (by decide) h

/-- d[y], there -/
theorem d_getItem {Q : Value → Shared → Prop} (hu : A.units + 1 < cLine) (I : Inv X pins σ H s) (g : DGet H a y (some v)) (ry : RelV y u) (h : ∀ w' s', Inv X pins σ H s' → RelV v w' → Q w' s') :
    wpAny (model X.prog X.w) A (getItem (.ref a) u) Q E s := by
  rcases g with ⟨kvs, k, e, ey, l⟩ | ⟨kvs, k, b, e, ey, eb, l⟩
  · subst ey
    obtain ⟨z, hd, vs, rel, dd⟩ := dk_rd I.hok e
    obtain ⟨w', hw, rw'⟩ := RelO.some_of (v := v) (o := valueAt vs k) (by rw [l]; exact rel.val k)
    exact wpAny_getItem_of (kV_is ry) dd.mapOf hw (h w' _ (I.tok _) rw')
  · subst ey
    cases (show u = Value.ref b from ry)
    obtain ⟨z, hd, xs, rel, dd⟩ := dt_rd I.hok e
    obtain ⟨w', hw, rw'⟩ := RelO.some_of (v := v) (o := (atKey xs k).map (·.2)) (by rw [l]; exact rel.val k)
    obtain ⟨p, hp, hp2⟩ := Option.map_eq_some_iff.mp hw
    refine wpAny_getItem_heap (tupleKind_room_in1 hu) (key_of I.hok eb) dd hp ?_
    rw [hp2]
    exact h w' _ (I.tok _) rw'
theorem d_notIn {Q : Value → Shared → Prop} (hu : A.units + 1 < cLine) (I : Inv X pins σ H s) (g : DGet H a y o) (ry : RelV y u) (h : ∀ s', Inv X pins σ H s' → Q (.bool (!o.isSome)) s') :
    wpAny (model X.prog X.w) A (compareOp .NotIn u (.ref a)) Q E s := by
  rcases g with ⟨kvs, k, e, ey, l⟩ | ⟨kvs, k, b, e, ey, eb, l⟩
  · subst ey
    obtain ⟨z, hd, vs, rel, dd⟩ := dk_rd I.hok e
    refine wpAny_notIn_of (kV_is ry) hd dd.mapOf ?_
    rw [← (rel.val k).isSome_eq, ← l]
    exact h _ (I.tok _)
  · subst ey
    cases (show u = Value.ref b from ry)
    obtain ⟨z, hd, xs, rel, dd⟩ := dt_rd I.hok e
    refine wpAny_notIn_heap (tupleKind_room_in1 hu) (key_of I.hok eb) hd dd ?_
    have q := (rel.val k).isSome_eq
    rw [Option.isSome_map] at q
    rw [← q, ← l]
    exact h _ (I.tok _)
/-- a dict's object is replaced -/
theorem d_write {h' : Heap} {t' : Nat} {ob : HO} (I : Inv X pins σ H s) (mu : Mut (H a)) (hs : Heap.SameBut a s.heap h') (he : ∃ q, h'.get? a = some q) (new : ObjOk X.prog X.w (upd H a ob) h' a ob) :
    Inv X pins σ (upd H a ob) { s with heap := h', toks := t' } :=
  I.write (x := a) (e := a) mu (.inl rfl) (fun b q hb z => (hs.2 b hb).trans z) he new
theorem dk_new {P : Program} {w : World} {H' : Hp} {h' : Heap} {kvs : List (Key × V)} {vs : List (Key × Value)} (z : kvs.length ≤ sizeLine) (hd : (a == sysModules) = false) (rel : KV kvs vs) (dd : h'.DictOf (mixKind P w) a vs) :
    ObjOk P w H' h' a (.dK kvs) := ⟨z, hd, vs, rel, dd⟩
/-- d[y] = v -/
theorem d_setItem {H' : Hp} {Q : Unit → Shared → Prop} (hu : A.units + 1 < cLine) (I : Inv X pins σ H s) (g : DPut H a y v H') (ry : RelV y u) (rv : RelV v r) (h : ∀ s', Inv X pins σ H' s' → Q () s') :
    wpAny (model X.prog X.w) A (setItem (.ref a) u r) Q E s := by
  rcases g with ⟨kvs, k, e, ey, l, eH⟩ | ⟨kvs, k, b, e, ey, eb, l, eH⟩
  · subst ey eH
    obtain ⟨z, hd, vs, rel, dd⟩ := dk_of I.hok e
    have hz : vs.length ≤ sizeLine := by rw [← rel.length]; exact z
    have hl : (putK kvs k v).length ≤ sizeLine := by have := length_putK kvs k v; omega
    refine wpAny_setItem_pairs (hsz := hz) (kV_is ry) dd fun h' dd' hs => h _ ?_
    have he : ∃ q, h'.get? a = some q := let ⟨q, _, _, hq, _⟩ := dd'; ⟨q, hq⟩
    exact d_write I (by rw [e]; exact True.intro) hs he (dk_new hl hd (rel.put k rv) dd')
  · subst ey eH
    cases (show u = Value.ref b from ry)
    obtain ⟨z, hd, xs, rel, dd⟩ := dt_of I.hok e
    have hz : xs.length ≤ sizeLine := by rw [← Paired.length rel]; exact z
    have hl : (putK kvs k v).length ≤ sizeLine := by have := length_putK kvs k v; omega
    refine wpAny_setItem_heap (hsz := hz) (tupleKind_room_in1 hu) (key_of I.hok eb) dd fun h' dd' hs => h _ ?_
    obtain ⟨q, es, ep, hq, h2, h3, h4, _, h5⟩ := dd'
    refine d_write I (by rw [e]; exact True.intro) hs ⟨q, hq⟩ ⟨hl, hd, _, (rel.put k eb rv).keeps fun c ys ec => ?_, q, es, ep, hq, h2, h3, h4, h5⟩
    rw [upd_ne (ne_of ec e (fun z => nomatch z))]
    exact ec
end

section
variable {X : Cx} {pins : List (Addr × Obj)} {σ : St} {H : Hp} {s : Shared} {a : Addr} {kvs : List (Key × V)} {k : Key} {u : Value} {A : Around} {E : Value → Shared → Prop}
end


/-- the element of a subscription, not a slice -/
def NoSl (i : Expr) : Prop := ∀ ov iv, subscripted i false ov iv = operate [ov, iv] (getItem ov iv)
theorem subD_of {prog : Program} {w : World} {A : Around} {E : Value → Shared → Prop} {s : Shared} {env : Env} {value slice : Expr} {pos : Pos} {T id : String} {Q : Value → Shared → Prop}
    (hl : typeLookup (.type T) "__getitem__" = pure (some (.builtin id))) (hs : NoSl slice)
    (h : wpAny (model prog w) A (eval value env) (fun o s₁ => wpAny (model prog w) A (eval slice env) (fun i s₂ => s₂.TypeIs o T ∧ wpAny (model prog w) A (getItem o i) Q E s₂) E s₁) E s) :
    wpAny (model prog w) A (eval (.Subscript value slice pos) env) Q E s := by
  refine Subscript_ (wpAny_mono h (fun o s₁ h₁ => wpAny_mono h₁ (fun i s₂ h₂ => ?_) fun _ _ x => x) fun _ _ x => x)
  obtain ⟨hT, h₂⟩ := h₂
  unfold subscriptTail
  refine wpAny_bind ?_
  rw [getitemInPython_of_ne hT.not_modules]
  refine wpAny_bind (wpAny_specialOf hT hl ?_)
  have fin : wpAny (model prog w) A (subscripted slice false o i) (fun r s₃ => wpAny (model prog w) A (letTemporaryGo value o r >>= fun _ => pure r) Q E s₃) E s₂ := by
    rw [hs o i]
    exact wpAny_operating (wpAny_mono h₂ (fun r s₃ h₃ => wpAny_bind (wpAny_letTemporaryGo (wpAny_pure h₃))) fun _ _ x => x)
  first
    | exact wpAny_pure (wpAny_bind fin)
    | exact wpAny_bind (wpAny_pure (wpAny_bind fin))
    | exact wpAny_bind fin

theorem dict_typeIs {X : Cx} {pins : List (Addr × Obj)} {σ : St} {H : Hp} {s : Shared} {a : Addr} {y : V} {o : Option V} (I : Inv X pins σ H s) (g : DGet H a y o) : s.TypeIs (.ref a) "dict" := by
  rcases g with ⟨kvs, k, e, _, _⟩ | ⟨kvs, k, b, e, _, _, _⟩
  · obtain ⟨_, _, vs, _, dd⟩ := dk_rd I.hok e
    exact dd.typeIs
  · obtain ⟨_, _, xs, _, dd⟩ := dt_rd I.hok e
    exact dd.typeIs
/-- d[y] -/
def tDGet (td ty : TE) : TE := fun σ H Q => td σ H fun x H1 => ty σ H1 fun y H2 => ∃ a v, x = .ref a ∧ DGet H2 a y (some v) ∧ Q v H2
def tDNotIn (ty td : TE) : TE := fun σ H Q => ty σ H fun y H1 => td σ H1 fun x H2 => ∃ a o, x = .ref a ∧ DGet H2 a y o ∧ Q (.bl (!o.isSome)) H2
/-- d[y] = v -/
def sDPut (td ty tv : TE) : TS := fun D σ H => tv σ H fun v H1 => td σ H1 fun x H2 => ty σ H2 fun y H3 => ∃ a H4, x = .ref a ∧ DPut H3 a y v H4 ∧ D.nx σ H4
section
variable {X : Cx} {o i e value : Expr} {pos pos' tpos : Pos} {td ty tv : TE}
theorem pe_dget (hu : X.A.units + 1 < cLine) (ho : PE X o td) (hi : PE X i ty) (hs : NoSl i) : PE X (.Subscript o i pos) (tDGet td ty) := by
  intro pins s σ H Q I h
  refine subD_of PySem.F.slot_dict_getitem.lookup hs (thn (ho pins s σ H _ I h) fun u s1 ⟨x, H1, I1, rx, q1⟩ => thn (hi pins s1 σ H1 _ I1 q1) fun iv s2 ⟨y, H2, I2, ry, a, v, ex, g, q2⟩ => ?_)
  subst ex
  obtain rfl : u = Value.ref a := rx
  exact ⟨dict_typeIs I2 g, d_getItem hu I2 g ry fun w' s3 I3 rw' => ⟨v, H2, I3, rw', q2⟩⟩
theorem pc_dnotin (hu : X.A.units + 1 < cLine) (hi : PE X i ty) (ho : PE X o td) : PC X .NotIn i o (tDNotIn ty td) := by
  intro pins s σ H Q I h
  refine thn (hi pins s σ H _ I h) fun iv s1 ⟨y, H1, I1, ry, q1⟩ => thn (ho pins s1 σ H1 _ I1 q1) fun u s2 ⟨x, H2, I2, rx, a, ov, ex, g, q2⟩ => ?_
  subst ex
  obtain rfl : u = Value.ref a := rx
  exact d_notIn hu I2 g ry fun s3 I3 => ⟨.bl (!ov.isSome), H2, I3, rfl, q2⟩
theorem ps_dput (hu : X.A.units + 1 < cLine) (ho : PE X o td) (hi : PE X i ty) (hv : PE X value tv) (hs : swapsWith value (some (.Subscript o i pos')) pos.line X.env = pure false) :
    PS X (.Assign [.Subscript o i pos'] value pos) (sDPut td ty tv) := by
  intro pins s σ H D I h
  refine wpAny_Assign_Subscript (thn (hv pins s σ H _ I h) fun r s1 ⟨v, H1, I1, rv, q1⟩ => thn (ho pins s1 σ H1 _ I1 q1) fun u s2 ⟨x, H2, I2, rx, q2⟩ => thn (hi pins s2 σ H2 _ I2 q2) fun iv s3 ⟨y, H3, I3, ry, a, H4, ex, g, q3⟩ => ?_) hs
  subst ex
  obtain rfl : u = Value.ref a := rx
  exact d_setItem hu I3 g ry rv fun s4 I4 => ⟨σ, H4, I4, q3⟩
end


theorem dk_empty {P : Program} {w : World} {H : Hp} (h : Heap) (hb : sysModules < h.objs.size) : ObjOk P w H (h.push { cls := .type "dict", data := .dict #[] }) h.objs.size (.dK []) :=
  ⟨Nat.zero_le _, beq_eq_false_iff_ne.mpr (Ne.symm (Nat.ne_of_lt hb)), [], .nil, Heap.DictOf.new h⟩
/-- {}, to be a dict of the kind that is wanted -/
def tDNewK : TE := fun _ H Q => ∀ p, H p = none → Q (.ref p) (upd H p (.dK []))
section
variable {X : Cx} {pos : Pos}
theorem pe_dnewK : PE X (.Dict [] [] pos) tDNewK := fun pins s σ H Q I h =>
  wpAny_Dict_empty ⟨.ref s.heap.objs.size, _, I.laid (a := s.heap.objs.size) (o := .dK []) (t' := s.toks) (fun _ _ q => Heap.get?_push_of_some _ q) (Nat.le_refl _) (dk_empty s.heap I.big), rfl, h _ (I.hok.fresh (Nat.le_refl _))⟩
end

/-- the pairs of a display, from the left -/
def tPairs : List (TE × TE) → St → Hp → (List (V × V) → Hp → Prop) → Prop
  | [], _, H, Q => Q [] H
  | (tk, tv) :: r, σ, H, Q => tk σ H fun x H1 => tv σ H1 fun y H2 => tPairs r σ H2 fun ps H3 => Q ((x, y) :: ps) H3
abbrev VV : List (V × V) → List (Value × Value) → Prop := Paired fun p q => RelV p.1 q.1 ∧ RelV p.2 q.2
def PPs (X : Cx) (pos : Pos) (keys : List (Option Expr)) (values : List Expr) (trs : List (TE × TE)) : Prop :=
  ∀ (pins : List (Addr × Obj)) (s : Shared) (σ : St) (H : Hp) (Q : List (V × V) → Hp → Prop), Inv X pins σ H s → tPairs trs σ H Q →
    wpAny (model X.prog X.w) X.A (evalPairs (pairTrees keys values X.env pos)) (fun vs s' => ∃ ps H', Inv X pins σ H' s' ∧ VV ps vs ∧ Q ps H') X.xe s
theorem pps_nil {X : Cx} {pos : Pos} : PPs X pos [] [] [] := fun pins s σ H Q I h => pairTrees_nil_walk ⟨[], H, I, .nil, h⟩
theorem pps_cons {X : Cx} {pos : Pos} {k v : Expr} {ks : List (Option Expr)} {vs : List Expr} {tk tv : TE} {trs : List (TE × TE)} (hk : PE X k tk) (hv : PE X v tv) (hr : PPs X pos ks vs trs) :
    PPs X pos (some k :: ks) (v :: vs) ((tk, tv) :: trs) := fun pins s σ H Q I h =>
  pairTrees_cons_walk (thn (hk pins s σ H _ I h) fun u s1 ⟨x, H1, I1, rx, q1⟩ => thn (hv pins s1 σ H1 _ I1 q1) fun w2 s2 ⟨y, H2, I2, ry, q2⟩ =>
    thn (hr pins s2 σ H2 _ I2 q2) fun ws s3 ⟨ps, H3, I3, rel, q3⟩ => ⟨(x, y) :: ps, H3, I3, .cons ⟨rx, ry⟩ rel, q3⟩)

def mergeK (kvs more : List (Key × V)) : List (Key × V) := more.foldl (fun acc kv => putK acc kv.1 kv.2) kvs
theorem KV.merge : ∀ {more : List (Key × V)} {rs : List (Key × Value)} {kvs : List (Key × V)} {vs : List (Key × Value)}, KV more rs → KV kvs vs → KV (mergeK kvs more) (merged vs rs) := by
  intro more rs kvs vs r
  unfold KV at r
  induction r generalizing kvs vs with
  | nil => intro q; exact q
  | @cons p q ps qs h t ih =>
    intro r0
    have e : KV (putK kvs p.1 p.2) (stored vs q.1 q.2) := by
      have := r0.put p.1 h.2
      rw [← h.1]; exact this
    exact ih e
theorem length_mergeK : ∀ (more kvs : List (Key × V)), (mergeK kvs more).length ≤ kvs.length + more.length
  | [], kvs => by show kvs.length ≤ kvs.length + 0; omega
  | p :: r, kvs => by
    have h1 := length_mergeK r (putK kvs p.1 p.2)
    have h2 := length_putK kvs p.1 p.2
    show (mergeK (putK kvs p.1 p.2) r).length ≤ _
    rw [List.length_cons]; omega
theorem carries_of {P : Program} {w : World} : ∀ {kvs : List (Key × V)} {ws : List (Value × Value)}, VV (kvs.map fun kv => (kV kv.1, kv.2)) ws → ∃ rs, Carries (mixKind P w) ws rs ∧ KV kvs rs
  | [], _, r => by rw [List.map_nil] at r; cases r; exact ⟨[], True.intro, .nil⟩
  | p :: kvs, _, r => by
    rw [List.map_cons] at r
    cases r with
    | @cons a b as bs h t =>
      obtain ⟨rs, c, q⟩ := carries_of (P := P) (w := w) t
      obtain ⟨b1, b2⟩ := b
      exact ⟨(p.1, b2) :: rs, ⟨kV_is h.1, rfl, c⟩, .cons ⟨rfl, h.2⟩ q⟩
/-- {k: v, ..} with keys ints and texts; the new dict stands empty while the pairs are made -/
def tDisp (trs : List (TE × TE)) : TE := fun σ H Q => ∀ p, H p = none → tPairs trs σ (upd H p (.dK [])) fun ps H2 => H2 p = some (.dK []) ∧ ∃ kvs : List (Key × V), ps = kvs.map (fun kv => (kV kv.1, kv.2)) ∧ kvs.length ≤ 15 ∧ Q (.ref p) (upd H2 p (.dK (mergeK [] kvs)))
theorem pe_disp {X : Cx} {pos : Pos} {keys : List (Option Expr)} {values : List Expr} {trs : List (TE × TE)} (h : PPs X pos keys values trs) (hall : keys.all (·.isSome) = true) (hl : keys.length = values.length) (h0 : keys ≠ [])
    (h15 : keys.length ≤ 15) : PE X (.Dict keys values pos) (tDisp trs) := by
  intro pins s σ H Q I q
  have hn := I.hok.fresh (Nat.le_refl s.heap.objs.size)
  have I1 := I.laid (a := s.heap.objs.size) (o := .dK []) (h' := s.heap.push { cls := .type "dict", data := .dict #[] }) (t' := s.toks) (fun _ _ q => Heap.get?_push_of_some _ q) (Nat.le_refl _) (dk_empty s.heap I.big)
  refine wpAny_Dict_walk (knd := mixKind X.prog X.w) hall hl h0 h15 (thn (h pins _ σ _ _ I1 (q _ hn)) fun ws s2 ⟨ps, H2, I2, rel, e, kvs, ep, lk, q2⟩ => ?_)
  subst ep
  obtain ⟨rs, c, rk⟩ := carries_of (P := X.prog) (w := X.w) rel
  obtain ⟨z, hd, vs0, r0, dd⟩ := dk_of I2.hok e
  cases r0
  refine ⟨rs, c, dd, fun h' dd' hs => ⟨.ref s.heap.objs.size, _, ?_, rfl, q2⟩⟩
  have hz : (mergeK [] kvs).length ≤ sizeLine := by
    have h1 := length_mergeK kvs []
    rw [List.length_nil] at h1
    rw [sizeLine_eq]; omega
  have he : ∃ q, h'.get? s.heap.objs.size = some q := let ⟨q, _, _, hq, _⟩ := dd'; ⟨q, hq⟩
  exact d_write I2 (by rw [e]; exact True.intro) hs he (dk_new hz hd (rk.merge .nil) dd')


section
variable {X : Cx} {pins : List (Addr × Obj)} {σ : St} {H : Hp} {s : Shared} {a : Addr} {y d : V} {u r : Value} {o : Option V} {A : Around} {E : Value → Shared → Prop}
end

section
variable {X : Cx} {o e f : Expr} {apos cpos : Pos} {td ty tx : TE}
end

section
variable {X : Cx} {pins : List (Addr × Obj)} {σ : St} {H : Hp} {s : Shared} {a : Addr} {kvs : List (Key × V)} {A : Around} {E : Value → Shared → Prop}
end


section
variable {X : Cx} {pins : List (Addr × Obj)} {σ : St} {H : Hp} {s : Shared} {a : Addr} {y : V} {u : Value} {A : Around} {E : Value → Shared → Prop}
end
end L2

namespace Att
open PySem PySem.W PySem.Calls PyProof.Rows

theorem ints_of_wellAll {P : Params} {h : Heap} : ∀ (ns : List Int) (vs : List Value), WellAll P h vs (ns.map WData.int) → IntsAre vs ns := by
  intro ns
  induction ns with
  | nil =>
    intro vs w
    rw [List.map_nil] at w
    cases w
    exact .nil
  | cons n ns ih =>
    intro vs w
    rw [List.map_cons] at w
    cases w with
    | cons a b =>
      cases a
      exact .cons _ _ (ih _ b)

theorem script_of {l : OpenLaw} {n : Nat} (hn : l.most = some n) {P : Params} {h : Heap} {args : List WData} {vals : List Value}
    (hpre : l.row.toRowW.claim.pre args = true) (hwl : WellAll P h vals args) :
    ∃ a vs ns, vals = [Value.ref a] ∧ args = [WData.list (ns.map WData.int)] ∧ h.get? a = some { cls := .type "list", data := .seq vs.toArray } ∧ IntsAre vs ns ∧ ns.length ≤ n := by
  have hsh : WShape.hasAll [] args [.list .int] = true := (pre_splitW hpre).1
  have hc : l.pre.holds [] { args := args } = true := (pre_splitW hpre).2
  obtain ⟨d, r, rfl, h1, h2⟩ := hasAllW_cons hsh
  obtain rfl := hasAllW_nil h2
  obtain ⟨xs, rfl, h3⟩ := hasW_list h1
  obtain ⟨ns, rfl⟩ := items_int h3
  have hlen : ns.length ≤ n := by
    unfold OpenLaw.pre at hc
    have h4 : (WTm.not (.lt (.lit (.int (n : Int))) (.len (.arg 0)))).holds [] { args := [.list (ns.map .int)] } = true := by
      have h4 := (holds_andW hc).1
      rw [hn] at h4
      exact h4
    have h5 := condW_of h4 (w_not (w_lt w_lit (w_len_list (w_arg rfl))))
    rw [List.length_map] at h5
    refine Nat.le_of_not_lt fun q => ?_
    have q' : (n : Int) < ((ns.length : Nat) : Int) := by omega
    first
      | (rw [decide_eq_true q'] at h5; exact absurd h5 (by decide))
      | (simp at h5; omega)
  cases hwl with
  | cons w1 w2 =>
    cases w2
    cases w1 with
    | list ho hall => exact ⟨_, _, ns, rfl, rfl, ho, ints_of_wellAll ns _ hall, hlen⟩

theorem post_true (l : OpenLaw) (args : List WData) : l.row.toRowW.claim.post args (.bool true) args = true :=
  postW_of (r := l.row.toRowW) (X := (true == true))
    (show WShape.has [] (.bool true) .bool = true by first | rfl | decide | simp [WShape.has, WShape.arms, WShape.armsAll])
    (show (WTm.eq .res (.lit (.bool true))).value [] { args := args, res := some (.bool true), after := args } = some (.bool (true == true)) from w_eq_bool (w_res rfl) w_lit) rfl

/-- the same from a codeAny of the CALL (for a layer whose function contracts speak of calls) -/
theorem attach_call {l : OpenLaw} {n : Nat} {q : Program} {loose : List Str} {XP : (Str → Option Value) → Heap → Prop} {YP : World → Heap → Prop} {d : DefRec}
    (hn : l.most = some n) (hdf : d.params.defaults = [])
    (call : ∀ (w : World) (s₀ s₁ : Shared) (mg mb : Str → Option Value) (fa : Addr) (o : Obj) (pm cd doc : Value) (a : Addr) (vs : List Value) (ns : List Int),
      Ground q loose [] XP w s₀ mg mb s₁.heap → YP w s₁.heap →
      s₁.heap.get? fa = some o → o.data = .func (docDef d.name d.params d.body d.scope pm cd doc) → s₁.heap.CodeRec cd d.name → mg d.name = some (.ref fa) →
      s₁.heap.get? a = some { cls := .type "list", data := .seq vs.toArray } → IntsAre vs ns → ns.length ≤ n → s₁.gens = #[] →
      codeAny (model l.prog w) callerA (.call (.ref fa) ⟨[.ref a], []⟩) (fun r s' => r = .ok (.ret (.bool true)) ∧ OldK s₁.heap s'.heap ∧ s'.os = s₁.os ∧ AllBare s'.gens) s₁) :
    WalkO q loose XP YP l.row.toRowW d [] (fun f vs => PySem.call f vs) := by
  intro w s₀ s₁ mg mb G Y fa o pm cd doc dV kV ho hd hcd hD hmg hg args vals as hpre hlay hrd hwl hlo
  obtain rfl : dV = .none := Dflts.none hD hdf
  obtain rfl : kV = .none := Dflts.noKw hD
  obtain ⟨a, vs, ns, rfl, rfl, hobj, hints, hlen⟩ := script_of hn hpre hwl
  refine enter_call (codeAny_mono (call w s₀ s₁ mg mb fa o pm cd doc a vs ns G Y ho (fd_plain hd) hcd hmg hobj hints hlen hg) fun r s' hq => ?_)
  obtain ⟨rfl, h2, h3, h4⟩ := hq
  exact ⟨.inl ⟨.bool true, .bool true, [], rfl, fun _ => rfl, .bool true, post_true l _, fun _ => ⟨List.Pairwise.nil, fun _ hm => (nomatch hm)⟩⟩, h2, h3, h4⟩

section
variable {prog : Program} {w : World} {A : Around} {E : Value → Shared → Prop} {s : Shared} {K : Frag}

end
end Att

namespace L2
open PySem PySem.Spec PyProof.Rows

theorem vals_ints : ∀ {vs : List Value} {ns : List Int}, IntsAre vs ns → Vals (ns.map V.int) vs
  | _, _, .nil => .nil
  | _, _, .cons n t h => .cons ⟨t, rfl⟩ (vals_ints h)

/-- nothing is tracked but the script, known to the object (or it is an object of the module) -/
def Only (H : Hp) : Prop := ∀ b, H b = none ∨ ∃ o xs, H b = some (.frz o (.lst xs))

/-- THE HEAD: the law's promise, at the heap behind the top. F, the promise of the law's def, may use that base is part of the heap (so K.In base, base.Ns mainGlobals mg stand in Mod) -/
theorem law_call {P : Program} {w : World} {K : PySem.W.Frag} {mg mb : Str → Option Value} {CX : CXT} {k : Nat} {fa a : Addr} {fd : FuncData} {x : Str} {sp : Sp} {s₁ : Shared} {vs : List Value} {ns : List Int}
    (KX : K.In s₁.heap) (hns : s₁.heap.Ns mainGlobals mg) (hb : s₁.heap.Ns builtinsNs mb) (hbb : ∀ x : Str, x ≠ "__name__" → mb x = bootBuiltins x) (hlim : s₁.heap.NoLimit) (hg : s₁.gens = #[])
    (ha : s₁.heap.get? a = some { cls := .type "list", data := .seq vs.toArray }) (hi : IntsAre vs ns) (hl : ns.length ≤ sizeLine) (hr : Room k callerA)
    (F : ∀ base : Heap, K.In base → base.Ns mainGlobals mg → FnOk P w K mg base CX k fa fd [x] sp) (hbind : ∀ (s : Shared) (u : Value), BindsTo s fd ⟨[u], []⟩ [(x, u)])
    (hsp : ∀ H : Hp, Only H → SqL K H a (ns.map V.int) → sp [.ref a] H (fun v _ => v = .bl true) fun _ _ _ => False)
    (hCX : ∀ H e s', CX [] H s₁ (fun _ _ _ => False) e s' → False) :
    codeAny (model P w) callerA (.call (.ref fa) ⟨[.ref a], []⟩) (fun r s' => r = .ok (.ret (.bool true)) ∧ OldK s₁.heap s'.heap ∧ s'.os = s₁.os ∧ AllBare s'.gens) s₁ := by
  have rv := vals_ints hi
  have lenV := hi.length
  -- from an abstract heap in which nothing but the script may be tracked
  have core : ∀ H : Hp, Only H → SqL K H a (ns.map V.int) → HOk P w H s₁.heap → (∀ b, H b ≠ none → b = a) → (H a ≠ none → K.lookup a = none) →
      codeAny (model P w) callerA (.call (.ref fa) ⟨[.ref a], []⟩) (fun r s' => r = .ok (.ret (.bool true)) ∧ OldK s₁.heap s'.heap ∧ s'.os = s₁.os ∧ AllBare s'.gens) s₁ := by
    intro H hO hS hok hA hK
    have base_of : ∀ {b : Addr} {o : Obj}, s₁.heap.get? b = some o → H b = none → (hidT s₁.heap H).get? b = some o := fun e n => hidT_get e n
    have noA : ∀ {b : Addr} {o : Obj} {es : Array DictEntry} {ep : Nat}, s₁.heap.get? b = some o → o.data = .dict es ep → H b = none := fun {b o es ep} e d => by
      cases q : H b with
      | none => rfl
      | some u =>
        have e' : b = a := hA b (by rw [q]; simp)
        subst e'
        rw [ha] at e; cases e
        have d' : Data.seq vs.toArray _ = Data.dict es ep := d
        cases d'
    have nsK : ∀ {b : Addr} {m : Str → Option Value}, s₁.heap.Ns b m → (hidT s₁.heap H).Ns b m := fun {b m} ⟨o, es, ep, e, d, r⟩ => ⟨o, es, ep, base_of e (noA e d), d, r⟩
    have hKb : K.In (hidT s₁.heap H) := fun b o e => base_of (KX b o e) (by
      cases q : H b with
      | none => rfl
      | some u =>
        have e' : b = a := hA b (by rw [q]; simp)
        subst e'
        rw [hK (by rw [q]; simp)] at e; cases e)
    have hM : Mod K mg (hidT s₁.heap H) := ⟨hKb, nsK hns, ⟨mb, nsK hb, hbb⟩, let ⟨mc, h1, h2⟩ := hlim; ⟨mc, nsK h1, h2⟩⟩
    have e0 : Env0 P w K mg (hidT s₁.heap H) callerA [] s₁ H := ⟨rfl, hM, fun b o e => of_hidT e, Nat.le_of_eq (hidT_size _ _), trivial, fun b hb => absurd (show b ∈ ([] : List Addr) from hb) (by simp), hok, .of_eq hg⟩
    refine codeAny_mono ((F _ hKb (nsK hns)).run callerA [] s₁ H ⟨[.ref a], []⟩ [.ref a] [.ref a] _ _ hr e0 (hbind s₁ (.ref a)) (.cons rfl .nil) (hsp H hO hS)) fun r s' h => ?_
    cases r with
    | error e => exact (hCX H e s' h).elim
    | ok fl =>
      cases fl with
      | next => exact False.elim h
      | brk => exact False.elim h
      | cont => exact False.elim h
      | ret u =>
        obtain ⟨v, H', os, bare, un, hok', r', q⟩ := h
        have q' : v = .bl true := q
        subst q'
        obtain rfl : u = Value.bool true := r'
        refine ⟨rfl, OldK.of_keep fun b o e => ?_, os, bare⟩
        cases q : H b with
        | none => exact un.keep b o e q (by intro z; exact absurd (show b ∈ ([] : List Addr) from z) (by simp)) (by simp)
        | some u =>
          rcases hO b with z | ⟨ob, xs, z⟩
          · rw [q] at z; cases z
          · have z2 := un.frzs b ob _ z
            obtain ⟨e1, _⟩ := hok b _ z
            obtain ⟨e2, _⟩ := hok' b _ z2
            rw [e] at e1; cases e1
            exact e2
  cases hk : K.lookup a with
  | some o =>
    -- the script is one of the module's own objects
    have e := KX a o hk
    rw [ha] at e
    cases e
    refine core (fun _ => none) (fun _ => .inl rfl) (.inr ⟨_, vs.toArray, _, hk, rfl, rfl, rfl, by rw [List.size_toArray, lenV]; exact hl, by simpa using rv⟩) (fun b u z => by have z' : (none : Option HO) = some u := z; cases z') (fun b z => absurd rfl z) fun z => absurd rfl z
  | none =>
    refine core (fun b => if b = a then some (.frz { cls := .type "list", data := .seq vs.toArray } (.lst (ns.map V.int))) else none) (fun b => ?_) (.inl (.inr ⟨{ cls := .type "list", data := .seq vs.toArray }, if_pos rfl⟩)) (fun b u z => ?_) (fun b z => ?_) fun _ => hk
    · by_cases hb : b = a
      · exact .inr ⟨_, _, if_pos hb⟩
      · exact .inl (if_neg hb)
    · by_cases hb : b = a
      · have z' := (if_pos hb).symm.trans z
        cases z'
        subst hb
        exact ⟨ha, by rw [List.length_map]; exact hl, vs, _, rv, ha⟩
      · have z' := (if_neg hb).symm.trans z
        cases z'
    · by_cases hb : b = a
      · exact hb
      · exact absurd (if_neg hb) z
end L2

namespace L2
open PySem PySem.Spec PyProof.Rows

abbrev KOf {K : PySem.W.Frag} {h : Heap} (_ : K.In h) : PySem.W.Frag := K

/-- the goal that k_head leaves (case hc), from the law's promise. F gives the function object fd (K's own) once, then the promise over every base -/
theorem walk_of {l : PySem.W.OpenLaw} {n k : Nat} {q : Program} {loose : List Str} {XP : (Str → Option Value) → Heap → Prop} {YP : World → Heap → Prop} {d : DefRec} {K : Params → PySem.W.Frag} {CX : World → CXT} {sp : World → Sp} {x : Str}
    (hn : l.most = some n) (hn2 : n ≤ sizeLine) (hdf : d.params.defaults = []) (hr : Room k callerA)
    (hY : ∀ (w : World) (h : Heap), YP w h → (K w.params).In h)
    (F : ∀ (w : World) (mg : Str → Option Value) (fa : Addr) (h : Heap), (K w.params).In h → h.Ns mainGlobals mg → mg d.name = some (.ref fa) →
      ∃ fd : FuncData, (∀ (s : Shared) (u : Value), BindsTo s fd ⟨[u], []⟩ [(x, u)]) ∧
        ∀ base : Heap, (K w.params).In base → base.Ns mainGlobals mg → FnOk l.prog w (K w.params) mg base (CX w) k fa fd [x] (sp w))
    (hsp : ∀ (w : World) (H : Hp) (a : Addr) (ns : List Int), ns.length ≤ n → Only H → SqL (K w.params) H a (ns.map V.int) → sp w [.ref a] H (fun v _ => v = .bl true) fun _ _ _ => False)
    (hCX : ∀ (w : World) (H : Hp) (s : Shared) (e : Value) (s' : Shared), CX w [] H s (fun _ _ _ => False) e s' → False) :
    PySem.W.WalkO q loose XP YP l.row.toRowW d [] (fun f vs => PySem.call f vs) := by
  refine Att.attach_call hn hdf fun w s₀ s₁ mg mb fa o pm cd doc a vs ns G Y ho hd hcd hmg hobj hints hlen hg => ?_
  have KX := hY w _ Y
  obtain ⟨fd, hb, hF⟩ := F w mg fa _ KX G.T.g hmg
  exact law_call KX G.T.g G.T.b G.T.builtins G.T.nolimit hg hobj hints (Nat.le_trans hlen hn2) hr hF hb (fun H hO hS => hsp w H a ns hlen hO hS) fun H e s' => hCX w H s₁ e s'
end L2


namespace L2
open PySem PySem.Spec PyProof.Rows

/-- the j-th statement of a class's body -/
def inClass (s : Stmt) (j : Nat) : Stmt := match s with
  | .ClassDef _ _ _ body _ _ _ _ _ _ _ => body.getD j (.Pass ⟨0, 0, 0, 0⟩)
  | _ => .Pass ⟨0, 0, 0, 0⟩
def defArgs (s : Stmt) : Arguments := match s with
  | .FunctionDef _ a _ _ _ _ _ _ _ _ => a
  | _ => { posonlyargs := [], args := [], vararg := none, kwonlyargs := [], kw_defaults := [], kwarg := none, defaults := [] }
def defBody (s : Stmt) : List Stmt := match s with
  | .FunctionDef _ _ b _ _ _ _ _ _ _ => b
  | _ => []
def defScope (s : Stmt) : Scope := match s with
  | .FunctionDef _ _ _ _ _ _ sc _ _ _ => sc
  | _ => { kind := .function, names := [], isGenerator := false, isCoroutine := false }

abbrev CX0 : CXT := fun _ _ _ _ _ _ => False
abbrev E0 : XK := fun _ _ _ => False
theorem pass0 {X : Cx} : Passes CX0 X E0 := fun _ _ _ _ _ _ _ h => h.elim

structure Fun (K : PySem.W.Frag) (x qual : Str) (st : Stmt) (f : Addr) (fd : FuncData) : Prop where
  ex : ∃ (oc : Value) (od : Option Addr) (kV doc pm : Value) (an : Option Addr) (cdv ct : Value) (osl : Array (Option Value)),
    fd = PySem.W.fnOf x qual (defArgs st) (defBody st) (defScope st) .none kV doc pm an cdv ct ∧ K.lookup f = some ⟨oc, od, .func fd, osl⟩ ∧ PySem.W.codeIn K cdv qual = true
  kp : PySem.W.keepIn K (.ref f) = true
section
variable {P : Program} {w : World} {K : PySem.W.Frag} {mg : Str → Option Value} {base : Heap}
/-- THE RULE for a def: its body as a term of rules, and the reading of that term -/
theorem Fun.ok {x qual : Str} {st : Stmt} {f : Addr} {fd : FuncData} {N ps : List Str} {k : Nat} {sp : Sp} (F : Fun K x qual st f fd) (S : FnScope N ps (defScope st)) (len : ∀ vs H Q E, sp vs H Q E → vs.length = ps.length)
    (hbody : ∀ (cdv : Value) (A : Around) (outer : List Env) (s : Shared) (H : Hp) (vs : List V) (Q : VK) (E : XK), Room k (A.deeper (envOfC qual (defScope st) s.heap.objs.size f cdv)) → sp vs H Q E →
      ∃ t, PSs (cxOf CX0 P w K mg base N qual (defScope st) f cdv A outer s H E).nox (defBody st) t ∧ t { nx := fun _ H' => Q .non H', rt := Q } (start N vs) H) : FnOk P w K mg base CX0 (k + 1) f fd ps sp := by
  obtain ⟨oc, od, kV, doc, pm, an, cdv, ct, osl, rfl, lk, hcd⟩ := F.ex
  refine fn_of lk hcd S len fun A outer s H vs Q E hr hsp => ?_
  obtain ⟨t, h, q⟩ := hbody cdv A outer s H vs Q E hr hsp
  exact ⟨t, h.nox, q⟩
/-- how its arguments bind (no defaults): h is «fun _ _ _ _ _ _ us hl => match us, hl with | [_, _], _ => rfl», one _ a parameter -/
theorem Fun.binds {x qual : Str} {st : Stmt} {f : Addr} {fd : FuncData} {ps : List Str} (F : Fun K x qual st f fd)
    (h : ∀ (kV doc pm : Value) (an : Option Addr) (cdv ct : Value) (us : List Value), us.length = ps.length → bindArgs (PySem.W.fnOf x qual (defArgs st) (defBody st) (defScope st) .none kV doc pm an cdv ct) ⟨us, []⟩ = pure (ps.zip us)) : Binds K fd ps [] := by
  obtain ⟨oc, od, kV, doc, pm, an, cdv, ct, osl, rfl, lk, hcd⟩ := F.ex
  exact .all (h kV doc pm an cdv ct)
theorem fun_mk {x qual : Str} {st : Stmt} {f : Addr} {oc : Value} {od an : Option Addr} {osl : Array (Option Value)} {kV doc pm cdv ct : Value} (l : K.lookup f = some ⟨oc, od, .func (PySem.W.fnOf x qual (defArgs st) (defBody st) (defScope st) .none kV doc pm an cdv ct), osl⟩)
    (c : PySem.W.codeIn K cdv qual = true) (k : PySem.W.keepIn K (.ref f) = true) : Fun K x qual st f (PySem.W.fnOf x qual (defArgs st) (defBody st) (defScope st) .none kV doc pm an cdv ct) := ⟨⟨oc, od, kV, doc, pm, an, cdv, ct, osl, rfl, l, c⟩, k⟩
end
theorem hu_of {A : Around} {k : Nat} (hr : Room k A) : A.units + 1 < cLine := Nat.lt_of_le_of_lt (Nat.add_le_add_left (by decide : 1 ≤ 64) _) hr.units
theorem small1000 {n : Nat} (h : n ≤ 1000) : n < sizeLine := Nat.lt_of_le_of_lt h (by decide)

section
variable {X : Cx}
theorem pv (i : Nat) {x : Str} {pos : Pos} (hN : X.N[i]? = some x := by rfl) (hv : Vis X.env.scope x := by first | exact Or.inl rfl | exact Or.inr (Or.inl rfl) | exact Or.inr (Or.inr rfl)) (hd : (x == ("__debug__" : Str)) = false := by decide)
    (hcd : (x == ("__classdict__" : Str)) = false := by decide) : PE X (.Name x pos) (tVar i) := pe_var hN hv hd hcd
end

theorem iteF {A B : Prop} (h : B) : if false = true then A else B := by
  rw [if_neg Bool.false_ne_true]
  exact h
theorem iteT {A B : Prop} (h : A) : if true = true then A else B := by
  rw [if_pos rfl]
  exact h
theorem ite2 {c A B : Prop} [Decidable c] (h1 : c → A) (h2 : ¬ c → B) : if c then A else B := by
  by_cases h : c
  · rw [if_pos h]
    exact h1 h
  · rw [if_neg h]
    exact h2 h
theorem iteNS {c A B : Prop} [Decidable c] (hc : c) (h : B) : if (!decide c) = true then A else B := by
  rw [decide_eq_true hc]
  exact iteF h

/-- all that was tracked is as it was -/
def Same (H H' : Hp) : Prop := ∀ b o, H b = some o → H' b = some o
theorem Same.refl (H : Hp) : Same H H := fun _ _ h => h
theorem Same.trans {H H1 H2 : Hp} (a : Same H H1) (b : Same H1 H2) : Same H H2 := fun c o h => b c o (a c o h)
theorem Same.free {H H' : Hp} (e : Same H H') {l : Addr} (h : H' l = Option.none) : H l = Option.none := by
  cases q : H l with
  | none => rfl
  | some o =>
    rw [e l o q] at h
    cases h
theorem Same.seq {K : PySem.W.Frag} {H H' : Hp} {a : Addr} {xs : List V} (e : Same H H') (h : SqL K H a xs) : SqL K H' a xs := by
  rcases h with (h | ⟨o, h⟩) | h
  · exact .inl (.inl (e _ _ h))
  · exact .inl (.inr ⟨o, e _ _ h⟩)
  · exact .inr h

end L2

namespace L2
open PySem PySem.Spec PyProof.Rows
section
variable {X : Cx}
end
section
variable {κ : Type} [DecidableEq κ]
theorem valV_in {kvs : List (κ × V)} {k : κ} {v : V} (h : valV kvs k = some v) : k ∈ kvs.map (·.1) := by
  have q : (kvs.any fun kv => decide (kv.1 = k)) = true := by
    rw [valV_any, h]
    all_goals rfl
  obtain ⟨p, hp, e⟩ := List.any_eq_true.mp q
  exact List.mem_map.mpr ⟨p, hp, of_decide_eq_true e⟩
end
end L2
namespace L2
open PySem PySem.Spec PyProof.Rows

theorem comp_turn {prog : Program} {w : World} {A : Around} {R : Result → Shared → Prop} {s : Shared} {elt target iter : Expr} {scope : Scope} {pos : Pos} {it acc : Value} {env : Env} (I : Nat → Shared → Prop)
    (turn : ∀ n s, I n s → wpAny (model prog w) A (pyNext it) (fun r s₁ => match r with
      | none => R (.ok .next) s₁
      | some v => wpAny (model prog w) A (letOwnedTupleGo target it v) (fun _ s₀ => wpAny (model prog w) A (assign target env v) (fun _ s₂ =>
          wpAny (model prog w) A (eval elt env) (fun x s₄ =>
              wpAny (model prog w) A (call (.builtin "list.append") [acc, x]) (fun _ s₅ => ∃ m, m < n ∧ I m s₅) (notedBy (model prog w) A env fun e s' => R (.error e) s') s₄) (notedBy (model prog w) A env fun e s' => R (.error e) s') s₂)
          (notedBy (model prog w) A env fun e s' => R (.error e) s') s₀) (notedBy (model prog w) A env fun e s' => R (.error e) s') s₁) (notedBy (model prog w) A env fun e s' => R (.error e) s') s)
    (n : Nat) (h : I n s) :
    codeAny (model prog w) A (.compLoop (.ListComp elt [⟨target, iter, [], 0⟩] scope pos) 0 it acc env) R s := by
  refine codeAny_loop rfl I (fun n s hI => ?_) n h
  show wpAny _ A ((compTurn (.ListComp elt [⟨target, iter, [], 0⟩] scope pos) 0 it acc env).onRaise (fun x => do noteFrame x env; theTreesLotGoes x)) _ _ s
  refine wpAny_noted ?_
  rw [compTurn_list]
  refine wpAny_bind (wpAny_standAt (wpAny_bind (wpAny_mono (turn n s hI) (fun r s₁ h₁ => ?_) fun _ _ h' => h')))
  cases r with
  | none => exact wpAny_pure h₁
  | some v =>
    refine wpAny_bind (wpAny_mono h₁ (fun _ s₀ h₀ => ?_) fun _ _ h' => h')
    refine wpAny_bind (wpAny_mono h₀ (fun _ s₂ h₂ => wpAny_bind (wpAny_tests_nil ?_)) fun _ _ h' => h')
    exact wpAny_bind (wpAny_bind (wpAny_mono h₂ (fun x s₄ h₄ => wpAny_bind (wpAny_mono h₄ (fun _ s₅ h₅ => wpAny_pure (wpAny_pure ⟨rfl, h₅⟩)) fun _ _ h' => h')) fun _ _ h' => h'))

theorem closureFor_is {env : Env} : ∀ (names : List (Str × NameKind)) (cs : List (Str × Addr)), (∀ y ∈ names, y.2 = .free → ∃ c, env.cells.lookup y.1 = some c) → (∀ x c, cs.lookup x = some c → env.cells.lookup x = some c) →
    ∃ cl, (forIn names cs (fun (x : Str × NameKind) (r : List (Str × Addr)) => if (x.2 == NameKind.free) = true then do let c ← cellOf env x.1; pure (ForInStep.yield ((x.1, c) :: r)) else pure (ForInStep.yield r)) : Sem (List (Str × Addr))) = pure cl ∧
      (∀ x c, cl.lookup x = some c → env.cells.lookup x = some c) ∧ (∀ x c, cs.lookup x = some c → cl.lookup x = some c) ∧ ∀ y ∈ names, y.2 = .free → ∃ c, cl.lookup y.1 = some c
  | [], cs, _, hcs => ⟨cs, by simp, hcs, fun _ _ h => h, fun y hy => nomatch hy⟩
  | (n, k) :: r, cs, h, hcs => by
    by_cases hk : k = .free
    · subst hk
      obtain ⟨c, hc⟩ := h (n, .free) List.mem_cons_self rfl
      have hcs' : ∀ x d, ((n, c) :: cs).lookup x = some d → env.cells.lookup x = some d := fun x d e => by
        rw [List.lookup_cons] at e
        split at e
        · rename_i q
          have q' : x = n := by simpa using q
          cases e; rw [q']; exact hc
        · exact hcs x d e
      obtain ⟨cl, e, h1, h2, h3⟩ := closureFor_is r ((n, c) :: cs) (fun y hy => h y (List.mem_cons_of_mem _ hy)) hcs'
      refine ⟨cl, ?_, h1, fun x d hd => ?_, fun y hy hy2 => ?_⟩
      · rw [List.forIn_cons]
        simp only [cellOf, hc, beq_self_eq_true, if_true, pure_bind]
        exact e
      · refine h2 x d ?_
        rw [List.lookup_cons]
        split
        · rename_i q
          have q' : x = n := by simpa using q
          have := hcs x d hd
          rw [q', hc] at this
          exact this
        · exact hd
      · rcases List.mem_cons.mp hy with rfl | hy
        · exact ⟨c, h2 n c (by simp [List.lookup_cons])⟩
        · exact h3 y hy hy2
    · obtain ⟨cl, e, h1, h2, h3⟩ := closureFor_is r cs (fun y hy => h y (List.mem_cons_of_mem _ hy)) hcs
      refine ⟨cl, ?_, h1, h2, fun y hy hy2 => ?_⟩
      · have hk' : (k == NameKind.free) = false := by simpa using hk
        rw [List.forIn_cons]
        simp only [hk', Bool.false_eq_true, if_false, pure_bind]
        exact e
      · rcases List.mem_cons.mp hy with rfl | hy
        · exact absurd hy2 hk
        · exact h3 y hy hy2
theorem closureFor_eq (scope : Scope) (env : Env) : closureFor scope env = (forIn scope.names [] (fun (x : Str × NameKind) (r : List (Str × Addr)) => if (x.2 == NameKind.free) = true then do let c ← cellOf env x.1; pure (ForInStep.yield ((x.1, c) :: r)) else pure (ForInStep.yield r)) : Sem (List (Str × Addr))) := by
  unfold closureFor
  simp
theorem lookup_relabel_free {env : Env} (hk : env.scope.kind = .function) : ∀ {names : List (Str × NameKind)} {x : Str}, names.lookup x = some .free → env.kindOf x = some .cell →
    (names.map fun (n, k) => if (k == NameKind.free && env.scope.kind == .function && env.kindOf n == some .cell) then (n, NameKind.cell) else (n, k)).lookup x = some .cell
  | [], _, h, _ => by simp at h
  | (n, k) :: r, x, h, hc => by
    have ih := @lookup_relabel_free env hk r x
    show List.lookup x ((if (k == NameKind.free && env.scope.kind == .function && env.kindOf n == some .cell) = true then (n, NameKind.cell) else (n, k)) :: _) = _
    cases hx : x == n with
    | true =>
      simp only [List.lookup_cons, hx] at h
      cases h
      have e : x = n := by simpa using hx
      subst e
      simp [List.lookup_cons, hk, hc]
    | false =>
      simp only [List.lookup_cons, hx] at h
      by_cases hc' : (k == NameKind.free && env.scope.kind == .function && env.kindOf n == some .cell) = true
      · rw [if_pos hc']; simp only [List.lookup_cons, hx]; exact ih h hc
      · rw [if_neg hc']; simp only [List.lookup_cons, hx]; exact ih h hc
/-- a name that is a cell or free in the block was free -/
theorem relabel_was {env : Env} : ∀ {names : List (Str × NameKind)} {x : Str}, (∀ y ∈ names, y.2 ≠ .cell) →
    ((names.map fun (n, k) => if (k == NameKind.free && env.scope.kind == .function && env.kindOf n == some .cell) then (n, NameKind.cell) else (n, k)).lookup x = some .cell ∨
     (names.map fun (n, k) => if (k == NameKind.free && env.scope.kind == .function && env.kindOf n == some .cell) then (n, NameKind.cell) else (n, k)).lookup x = some .free) → (x, NameKind.free) ∈ names
  | [], _, _, h => by simp at h
  | (n, k) :: r, x, hn, h => by
    have ih := @relabel_was env r x fun y hy => hn y (List.mem_cons_of_mem _ hy)
    have hk : k ≠ .cell := hn (n, k) List.mem_cons_self
    cases hx : x == n with
    | true =>
      have e : x = n := by simpa using hx
      subst e
      by_cases hf : k = .free
      · subst hf; exact List.mem_cons_self
      · have hf' : ¬ (k == NameKind.free && env.scope.kind == .function && env.kindOf x == some .cell) = true := by simp [hf]
        simp only [List.map_cons, if_neg hf', List.lookup_cons, beq_self_eq_true] at h
        rcases h with h | h
        · exact absurd (Option.some.inj h) hk
        · exact absurd (Option.some.inj h) hf
    | false =>
      refine List.mem_cons_of_mem _ (ih ?_)
      by_cases hc' : (k == NameKind.free && env.scope.kind == .function && env.kindOf n == some .cell) = true
      · simpa only [List.map_cons, if_pos hc', List.lookup_cons, hx] using h
      · simpa only [List.map_cons, if_neg hc', List.lookup_cons, hx] using h

def blk (X : Cx) (sc : Scope) (cl : List (Str × Addr)) (C : Addr) (N' : List Str) (s₂ : Shared) (H₁ : Hp) (fp : List Addr) (pins : List (Addr × Obj)) : Cx where
  prog := X.prog
  w := X.w
  K := X.K
  mg := X.mg
  base := X.base
  A := X.A
  N := N'
  s₀ := s₂
  H₀ := H₁
  env := compEnvC sc cl C X.env
  outer := X.stack
  stack := X.stack
  ex := fp
  fn := fun _ => false
  calm := X.calm
  pn := X.pn ++ pins
  xe := fun _ _ => False

/-- N, names: the slots and names around; N': the block's slots, k of its own, then those at pull of N (caught) -/
structure BScope (N : List Str) (names : List (Str × NameKind)) (N' : List Str) (k : Nat) (pull : List Nat) (sc : Scope) : Prop where
  kind : sc.kind = .function
  nocell : ∀ y ∈ sc.names, y.2 ≠ .cell
  loc : ∀ y ∈ sc.names, y.2 = .local → sc.names.lookup y.1 = some .local
  len : N'.length = k + pull.length
  cap : ∀ i ∈ List.range pull.length, N'[k + i]? = N[pull.getD i 0]? ∧ ∀ x ∈ (N'[k + i]?).toList, sc.names.lookup x = some .free
  fre : ∀ y ∈ sc.names, y.2 = .free → names.lookup y.1 = some .cell

def bst (k : Nat) (pull : List Nat) (σ : St) : St := List.replicate k none ++ pull.map fun j => σ.getD j none

theorem HOk.but {P : Program} {w : World} {H : Hp} {h h' : Heap} {C : Addr} (x : HOk P w H h) (hn : H C = none) (k : ∀ b o, b ≠ C → h.get? b = some o → h'.get? b = some o) : HOk P w H h' := fun b u e => by
  have nit : ∀ b u, H b = some u → b ≠ C := fun b u e z => by rw [z, hn] at e; cases e
  refine (x b u e).stay (fun c v hc q => k c v ?_ q) (fun _ q => q) fun _ _ q => q
  rcases hc with z | z
  · rw [z]; exact nit b u e
  · exact nit c _ z

def tComp (wi : TI) (k : Nat) (pull : List Nat) (g : TG) (te : TE) : TE := fun σ H Q => wi σ H fun J H1 => ∀ d, H1 d = none →
  ∃ W : Nat → Nat → St → Hp → Prop, (∃ m, W 0 m (bst k pull σ) (upd H1 d (.lst []))) ∧ ∀ i m σ' H', W i m σ' H' →
    (J.stop i H' ∧ Q (.ref d) H') ∨
    (J.go i H' ∧ ∀ x H2, J.yld i H' x H2 → g x σ' H2 fun σ3 H3 => te σ3 H3 fun y H4 => ∃ xs, H4 d = some (.lst xs) ∧ xs.length < sizeLine ∧ ∃ m', m' < m ∧ W (i + 1) m' σ3 (upd H4 d (.lst (xs ++ [y]))))

section
variable {X : Cx} {elt tg iter : Expr} {sc : Scope} {pos : Pos} {wi : TI} {g : TG} {te : TE} {N : List Str} {names : List (Str × NameKind)} {N' : List Str} {k : Nat} {pull : List Nat}

theorem blk_start {pins : List (Addr × Obj)} {σ : St} {H1 : Hp} {s2 : Shared} {fp : List Addr} {cl : List (Str × Addr)} {h₁ : Heap} {tk : Nat} (B : BScope N names N' k pull sc) (hN : X.N = N) (hnm : X.env.scope.names = names)
    (I2 : Inv X pins σ H1 s2) (f2 : ∀ b ∈ fp, FpOk X pins H1 b) (ho : ∀ b ∈ fp, ∃ o, s2.heap.get? b = some o)
    (c1 : ∀ x c, cl.lookup x = some c → X.env.cells.lookup x = some c) (c3 : ∀ y ∈ sc.names, y.2 = .free → ∃ c, cl.lookup y.1 = some c)
    (hns : h₁.Ns (s2.heap.objs.size + 1) (fun x => ([] : List (Str × Value)).reverse.lookup x))
    (hk : ∀ b o, s2.heap.get? b = some o → h₁.get? b = some o) (hd : h₁.get? s2.heap.objs.size = some { cls := .type "list", data := .seq ([] : List Value).toArray }) :
    Inv (blk X sc cl (s2.heap.objs.size + 1) N' s2 H1 fp pins) [] (bst k pull σ) (upd H1 s2.heap.objs.size (.lst [])) { s2 with heap := h₁, toks := tk } := by
  have hfd : H1 s2.heap.objs.size = none := I2.hok.fresh (Nat.le_refl _)
  have hfC : (upd H1 s2.heap.objs.size (.lst [])) (s2.heap.objs.size + 1) = none := by
    rw [upd_ne (Nat.succ_ne_self _)]; exact I2.hok.fresh (Nat.le_succ _)
  have hlook : ∀ x, (compEnvC sc cl (s2.heap.objs.size + 1) X.env).kindOf x = some .cell ∨ (compEnvC sc cl (s2.heap.objs.size + 1) X.env).kindOf x = some .free → (x, NameKind.free) ∈ sc.names := fun x hx =>
    relabel_was (env := X.env) B.nocell hx
  have cellKind : ∀ y ∈ sc.names, y.2 = .free → X.env.kindOf y.1 = some .cell := fun y hy hf => by
    show X.env.scope.names.lookup y.1 = _
    rw [hnm]; exact B.fre y hy hf
  refine ⟨⟨I2.ok.mod, B.kind, I2.ok.glob, I2.ok.blt, Nat.le_succ _, fun x y c e1 e2 => I2.ok.inj x y c (c1 x c e1) (c1 y c e2), fun x hx => c3 _ (hlook x hx) rfl, (fun x c h _ => nomatch h), I2.ok.hd, I2.ok.frames, .inl rfl, fun b hb => ⟨?_, fun x c e => ?_⟩, I2.bs, Nat.le_trans I2.ok.bsz I2.sz, fun b o e hb => ?_, fun b hb hs => ?_, I2.stack, I2.stkFree⟩,
    rfl, I2.bare, Un.laid hk (Nat.le_refl _) hfd, ⟨_, hns, fun i x v e1 e2 e3 => ?_⟩, fun x c e => ?_, hfC, fun x c e => ?_, fun p hp => ?_, I2.hok.laid hk (Nat.le_refl _) ⟨Nat.zero_le _, [], 0, .nil, hd⟩, ?_⟩
  · obtain ⟨o, e⟩ := ho b hb
    exact Nat.ne_of_lt (Nat.lt_succ_of_lt (Heap.lt_size e))
  · exact (f2 b hb).2.2.2.2.1 x c (c1 x c e)
  · rcases (f2 b hb).2.2.2.1 with z | z
    · exact I2.ok.noex b o e z
    · exact absurd (Nat.lt_of_lt_of_le (Heap.lt_size e) (Nat.le_trans I2.ok.bsz z)) (Nat.lt_irrefl _)
  · rcases List.mem_cons.mp (I2.stkSub b hs) with z | z
    · exact (f2 b hb).2.1 z
    · exact (f2 b hb).2.2.1 z
  · -- a slot that is set is a caught name
    have e2 : (bst k pull σ)[i]? = some (some v) := e2
    unfold bst at e2
    by_cases hi : i < k
    · rw [List.getElem?_append_left (by simpa using hi), List.getElem?_replicate, if_pos hi] at e2
      cases e2
    · rw [List.getElem?_append_right (by simpa using hi), List.length_replicate, List.getElem?_map] at e2
      cases ej : pull[i - k]? with
      | none => rw [ej] at e2; cases e2
      | some j =>
        rw [ej] at e2
        have e2 : σ.getD j none = some v := Option.some.inj e2
        have hj : σ[j]? = some (some v) := by
          rw [List.getD_eq_getElem?_getD] at e2
          cases q : σ[j]? with
          | none => rw [q] at e2; cases e2
          | some z => rw [q] at e2; simpa using e2
        have hil : i - k < pull.length := (List.getElem?_eq_some_iff.mp ej).1
        obtain ⟨q1, q2⟩ := B.cap (i - k) (List.mem_range.mpr hil)
        have ei : k + (i - k) = i := by omega
        have ep : pull.getD (i - k) 0 = j := by rw [List.getD_eq_getElem?_getD, ej]; rfl
        have e1 : N'[i]? = some x := e1
        rw [ei, ep, e1] at q1
        rw [ei, e1] at q2
        have hf := q2 x (by simp)
        have hmem := PySem.mem_of_lookup hf
        have hc := cellKind (x, .free) hmem rfl
        obtain ⟨m, hn, hl⟩ := I2.loc
        obtain ⟨u, r, l⟩ := hl j x v (by rw [hN]; exact q1.symm) hj (.inr (.inl hc))
        refine ⟨u, r, .inr ⟨.inl (lookup_relabel_free I2.ok.kind hf hc), ?_⟩⟩
        rcases l with ⟨hloc, _⟩ | ⟨_, c, ec, hcell⟩
        · rw [hc] at hloc; cases hloc
        · obtain ⟨c', ec'⟩ := c3 (x, .free) hmem rfl
          have := c1 x c' ec'
          rw [ec] at this
          cases this
          obtain ⟨o, h1, h2⟩ := hcell
          exact ⟨c, ec', o, hk c o h1, h2⟩
  · obtain ⟨v, o, h1, h2⟩ := I2.cell x c (c1 x c e)
    exact ⟨v, o, hk c o h1, h2⟩
  · obtain ⟨v, o, h1, h2⟩ := I2.cell x c (c1 x c e)
    rw [upd_ne (Nat.ne_of_lt (Heap.lt_size h1))]
    exact I2.freeC x c (c1 x c e)
  · have hp : p ∈ X.pn ++ pins := by simpa [blk] using hp
    obtain ⟨a1, a2, a3, a4, a5⟩ := I2.pin p hp
    have hlt := Heap.lt_size a1
    refine ⟨hk _ _ a1, by rw [upd_ne (Nat.ne_of_lt hlt)]; exact a2, ?_, fun hs => ?_, a5⟩
    · exact Nat.ne_of_lt (Nat.lt_succ_of_lt hlt)
    · rcases List.mem_cons.mp (I2.stkSub p.1 hs) with z | z
      · exact a3 z
      · exact a4 z
  · show (bst k pull σ).length = N'.length
    unfold bst
    rw [List.length_append, List.length_replicate, List.length_map, B.len]

theorem pe_comp (hc : X.calm = true) (B : BScope N names N' k pull sc) (hN : X.N = N) (hnm : X.env.scope.names = names) (hi : PI X tg iter wi)
    (hg : ∀ cl C s₂ H₁ fp pins, PG (blk X sc cl C N' s₂ H₁ fp pins) tg g) (he : ∀ cl C s₂ H₁ fp pins, PE (blk X sc cl C N' s₂ H₁ fp pins) elt te)
    (hs : ∀ x, foldedSetIterable iter X.env x = pure x := by intro _; rfl) : PE X (.ListComp elt [⟨tg, iter, [], 0⟩] sc pos) (tComp wi k pull g te) := by
  intro pins s σ H Q I h
  rw [eval_ListComp]
  have hcells : ∀ y ∈ sc.names, y.2 = .free → ∃ c, X.env.cells.lookup y.1 = some c := fun y hy hf => I.ok.has y.1 (.inl (by
    show X.env.scope.names.lookup y.1 = _
    rw [hnm]; exact B.fre y hy hf))
  obtain ⟨cl, ecl, c1, _, c3⟩ := closureFor_is (env := X.env) sc.names [] hcells (fun x c e => nomatch e)
  rw [← closureFor_eq] at ecl
  refine wpAny_comprehension_free (use := none) rfl hs ecl B.kind B.loc (thn (hi pins s σ H _ I h) fun xv s1 h1 => thn h1 fun itv s2 h2 => ?_)
  obtain ⟨it, fp, tn, J, H1, e, I2, T, st2, f2, hW⟩ := h2
  subst e
  have ho : ∀ b ∈ fp, ∃ o, s2.heap.get? b = some o := fun b hb => let ⟨o, e, _⟩ := T.obj _ _ st2 b hb; ⟨o, e⟩
  refine wpAny_newObj_type (wpAny_newFunctionEnv B.nocell (by intro y hy; simp at hy) (fun h₁ hns₁ hsb₁ => ?_) B.kind)
  dsimp only at hns₁ hsb₁ ⊢
  rw [Heap.size_push] at hns₁ hsb₁ ⊢
  have old : ∀ b o, s2.heap.get? b = some o → h₁.get? b = some o := fun b o e => by
    have hlt := Heap.lt_size e
    exact (hsb₁.2 b (Nat.ne_of_lt (Nat.lt_succ_of_lt hlt))).trans (Heap.get?_push_of_some _ (Heap.get?_push_of_some _ e))
  have hd : h₁.get? s2.heap.objs.size = some { cls := .type "list", data := .seq ([] : List Value).toArray } :=
    (hsb₁.2 _ (Nat.ne_of_lt (Nat.lt_succ_self _))).trans (Heap.get?_push_of_some _ (Heap.get?_push_size _ rfl))
  have I4 := blk_start (tk := s2.toks + ([] : List (Str × Value)).length) B hN hnm I2 f2 ho c1 c3 hns₁ old hd
  have st4 : tn 0 h₁ := T.keep _ _ _ st2 fun b _ o e => old b o e
  obtain ⟨W, ⟨m0, w0⟩, turn⟩ := hW s2.heap.objs.size (I2.hok.fresh (Nat.le_refl _))
  have fr4 : ∀ b ∈ fp, (upd H1 s2.heap.objs.size (.lst [])) b = none := fun b hb => by
    obtain ⟨o, e⟩ := ho b hb
    rw [upd_ne (Nat.ne_of_lt (Heap.lt_size e))]
    exact (f2 b hb).1
  -- what stays true of the iterator's objects
  have stat : ∀ {H' : Hp}, (∀ b ∈ fp, H' b = none) → ∀ b ∈ fp, FpOk (blk X sc cl (s2.heap.objs.size + 1) N' s2 H1 fp pins) [] H' b := fun hn b hb => by
    refine ⟨hn b hb, (I4.ok.exf b hb).1, I4.ok.exfs b hb, .inl hb, (I4.ok.exf b hb).2, fun p hp => ?_⟩
    have hp : p ∈ X.pn ++ pins := by simpa [blk] using hp
    exact (f2 b hb).2.2.2.2.2 p hp
  have loop : ∀ s₃ : Shared, s₃ = { s2 with heap := h₁, toks := s2.toks + ([] : List (Str × Value)).length } →
      codeAny (model X.prog X.w) X.A (.compLoop (.ListComp elt [⟨tg, iter, [], 0⟩] sc pos) 0 (.ref it) (.ref s2.heap.objs.size) (compEnvC sc cl (s2.heap.objs.size + 1) X.env))
        (compPost (model X.prog X.w) X.A X.xe none (EP X pins σ Q) (.ref s2.heap.objs.size) (s2.heap.objs.size + 1)) s₃ := by
    rintro s₃ rfl
    refine comp_turn (fun n s' => ∃ i σ' H', Inv (blk X sc cl (s2.heap.objs.size + 1) N' s2 H1 fp pins) [] σ' H' s' ∧ tn i s'.heap ∧ (∀ b ∈ fp, H' b = none) ∧ W i n σ' H') ?_ m0 ⟨0, _, _, I4, st4, fr4, w0⟩
    rintro n s3 ⟨i, σ3, H3, I3, st3, fr3, w3⟩
    rcases turn i n σ3 H3 w3 with ⟨stop, q⟩ | ⟨go, step⟩
    · refine thn (T.done (blk X sc cl (s2.heap.objs.size + 1) N' s2 H1 fp pins) rfl rfl rfl hc i [] s3 σ3 H3 _ I3 (stat fr3) st3 stop) fun r s4 ⟨hr, I5⟩ => ?_
      subst hr
      obtain ⟨m, hn, _⟩ := id I5.loc
      refine ⟨m, hn, fun h' hs' => ?_⟩
      have ne : ∀ b o, s2.heap.get? b = some o → b ≠ s2.heap.objs.size + 1 := fun b o e => Nat.ne_of_lt (Nat.lt_succ_of_lt (Heap.lt_size e))
      have U : Un (frs X.stack) fp H1 H3 s2.heap s4.heap := I5.base
      have U' : Un (frs X.stack) fp H1 H3 s2.heap h' := ⟨fun b o e n hb hx => (hs'.2 b (ne b o e)).trans (U.keep b o e n hb hx), fun b o e n hb hx => by
          obtain ⟨sl, z⟩ := U.slot b o e n hb hx
          exact ⟨sl, (hs'.2 b (ne b o e)).trans z⟩, U.free, fun b o e hx => by
          obtain ⟨o', z⟩ := U.there b o e hx
          exact ⟨o', (hs'.2 b (ne b o e)).trans z⟩, U.tups, U.frzs, U.tbls⟩
      have hok : HOk X.prog X.w H3 h' := HOk.but (C := s2.heap.objs.size + 1) I5.hok I5.free fun b o hb e => (hs'.2 b hb).trans e
      refine ⟨.ref s2.heap.objs.size, H3, I2.call' (s' := { s4 with heap := h' }) I5.os U' hok I5.bare fun b hb => ?_, rfl, q⟩
      exact ⟨(f2 b hb).2.2.2.1, (f2 b hb).2.1, (f2 b hb).2.2.2.2.1, (f2 b hb).2.2.2.2.2⟩
    · refine thn (T.item (blk X sc cl (s2.heap.objs.size + 1) N' s2 H1 fp pins) rfl rfl rfl hc i [] s3 σ3 H3 _ I3 (stat fr3) st3 go) fun r s4 ⟨u, hr, h4⟩ => ?_
      subst hr
      refine thn h4 fun _ s5 ⟨x, H5, I5, r5, y5, st5, fr5⟩ => ?_
      have I5' := I5.pinned (stat fr5) (T.obj _ _ st5)
      refine wpAny_mono (hg _ _ _ _ _ _ _ s5 σ3 H5 x u _ I5' r5 (step x H5 y5)) (fun _ s6 ⟨σ6, H6, I6, q6⟩ => ?_) fun _ _ z => z.elim
      refine wpAny_mono (he _ _ _ _ _ _ _ s6 σ6 H6 _ I6 q6) (fun y s7 ⟨z, H7, I7, r7, xs, hx7, hz7, m', hm, w7⟩ => ?_) fun _ _ z => z.elim
      refine wpAny_mono (mt_append (X := blk X sc cl (s2.heap.objs.size + 1) N' s2 H1 fp pins) _ s7 σ6 H7 (.ref s2.heap.objs.size) [z] (.ref s2.heap.objs.size) [y] (fun _ H8 => H8 = upd H7 s2.heap.objs.size (.lst (xs ++ [z]))) I7 rfl (.cons r7 .nil) ⟨_, xs, z, rfl, rfl, hx7, hz7, rfl⟩) (fun _ s8 ⟨_, H8, I8, _, e8⟩ => ?_) fun _ _ z => z.elim
      subst e8
      refine ⟨m', hm, i + 1, σ6, _, I8.unpinned, T.keep _ _ _ st5 fun b hb o e => (I8.pin (b, o) (List.mem_append_right _ (List.mem_append_right _ (mem_pinsAt hb e)))).1, fun b hb => ?_, w7⟩
      obtain ⟨o, e, _⟩ := T.obj _ _ st5 b hb
      exact (I8.pin (b, o) (List.mem_append_right _ (List.mem_append_right _ (mem_pinsAt hb e)))).2.1
  exact codeAny_compStart_list (loop _ rfl) (T.self _ 0 _ _ _ st4 (loop _ rfl))
end
end L2
namespace L2
open PySem
open AutoSeq1 (wpAny_loadPart')
section
variable {prog : Program} {w : World} {A : Around} {E : Value → Shared → Prop} {s : Shared}
theorem nextOf_tuple_item {it l : Addr} {i : Nat} {items} {x : Value} {Q : Value → Shared → Prop} (hit : s.heap.IsTupleIter it l i)
    (hl : s.heap.IsTuple l items) (hx : items[i]? = some x)
    (hQ : ∀ h', h'.IsTupleIter it l (i + 1) → Heap.SameBut it s.heap h' → Q x { s with heap := h' }) :
    wpAny (model prog w) A (Builtin.SmallTypes.nextOf (.ref it)) Q E s := by
  obtain ⟨o, ho, hc, hd⟩ := id hit
  obtain ⟨ol, hol, _, nl, hdl⟩ := hl
  unfold Builtin.SmallTypes.nextOf
  refine wpAny_bind (wpAny_callSpecial?_slot (name := Str.ofString "__next__") hit.typeIs F.slot_tuple_iterator_next
    (wpAny_call_entry F.slot_tuple_iterator_next hit.typeIs F.entry_tuple_iterator_next ?_ (F.args_tuple_iterator_next_1 _)))
  show wpAny _ _ (field (.ref it) 0 >>= _) _ _ s
  refine wpAny_bind (wpAny_field ho hd (x := .ref l) rfl ?_)
  show wpAny _ _ (if (Value.ref l == Value.none) = true then _ else _) _ _ s
  rw [if_neg (show ¬ ((Value.ref l == Value.none) = true) from Bool.false_ne_true)]
  show wpAny _ _ (field (.ref it) 1 >>= _) _ _ s
  refine wpAny_bind (wpAny_field ho hd (x := .int i 0) rfl ?_)
  show wpAny _ _ (seqItems? (.ref l) >>= _) _ _ s
  refine wpAny_bind (wpAny_seqItems hol hdl ?_)
  simp only [Int.toNat_natCast, hx]
  refine wpAny_bind (wpAny_setField ho hd (by simp) (wpAny_pure ⟨x, rfl, wpAny_pure (hQ _ ?_ (Heap.SameBut.update ..))⟩))
  exact ⟨_, Heap.get?_update_self _ ho (Obj.isFreed_of_fields (Obj.data_mapFields hd _)), (Obj.cls_mapFields ..).trans hc, by
    rw [Obj.data_mapFields hd]; simp [rawInt]⟩
theorem nextOf_tuple_end {it l : Addr} {i : Nat} {items} {Q : Value → Shared → Prop} (hh : A.handled = none)
    (hit : s.heap.IsTupleIter it l i) (hl : s.heap.IsTuple l items) (hx : items[i]? = none)
    (hE : ∀ h' e, Heap.ExtBut it s.heap h' → (∃ o, h'.get? e = some o ∧ o.cls = .type "StopIteration") → E (.ref e) { s with heap := h' }) :
    wpAny (model prog w) A (Builtin.SmallTypes.nextOf (.ref it)) Q E s := by
  obtain ⟨o, ho, hc, hd⟩ := id hit
  obtain ⟨ol, hol, _, nl, hdl⟩ := hl
  unfold Builtin.SmallTypes.nextOf
  refine wpAny_bind (wpAny_callSpecial?_slot (name := Str.ofString "__next__") hit.typeIs F.slot_tuple_iterator_next
    (wpAny_call_entry F.slot_tuple_iterator_next hit.typeIs F.entry_tuple_iterator_next ?_ (F.args_tuple_iterator_next_1 _)))
  show wpAny _ _ (field (.ref it) 0 >>= _) _ _ s
  refine wpAny_bind (wpAny_field ho hd (x := .ref l) rfl ?_)
  show wpAny _ _ (if (Value.ref l == Value.none) = true then _ else _) _ _ s
  rw [if_neg (show ¬ ((Value.ref l == Value.none) = true) from Bool.false_ne_true)]
  show wpAny _ _ (field (.ref it) 1 >>= _) _ _ s
  refine wpAny_bind (wpAny_field ho hd (x := .int i 0) rfl ?_)
  show wpAny _ _ (seqItems? (.ref l) >>= _) _ _ s
  refine wpAny_bind (wpAny_seqItems hol hdl ?_)
  simp only [Int.toNat_natCast, hx]
  refine wpAny_bind (wpAny_rule (wpAny_bind (wpAny_setField ho hd (by simp) ?_)))
  show wpAny _ _ (newExc (.type "StopIteration") [] >>= _) _ _ _
  refine wpAny_bind ?_
  simp only [newExc, newTuple]
  refine wpAny_bind (wpAny_newObj_type ?_ (by size_fits))
  refine wpAny_bind (m := firstArgMember _ _) (wpAny_of_eq (a := Value.none) (by first | rfl | (simp only [firstArgMember]; rfl)) ?_)
  refine wpAny_newObj_type ?_ (by size_fits)
  simp only [raiseNew]
  refine wpAny_bind (wpAny_handled ?_)
  first | rw [show A.in1.handled = none from hh] | rw [hh]
  refine wpAny_bind (wpAny_pure (wpAny_throw ?_))
  exact hE _ _ (((Heap.SameBut.update ..).extBut.push _).push _) ⟨_, Heap.get?_push_size _ rfl, rfl⟩
end
theorem Draws_tuple {prog : Program} {w : World} {A : Around} (hh : A.handled = none) (it l : Addr) (hne : l ≠ it) (items : Array Value) :
    Draws prog w A it [it, l] items.size (fun i v => items[i]? = some v) (fun i h => h.IsTupleIter it l i ∧ h.IsTuple l items) where
  live := fun _ _ st => let ⟨⟨o, ho, _⟩, _⟩ := st; ⟨o, ho⟩
  frame := fun _ _ _ st hk => ⟨let ⟨o, ho, r⟩ := st.1; ⟨o, hk it (by simp) o ho, r⟩, let ⟨o, ho, r⟩ := st.2; ⟨o, hk l (by simp) o ho, r⟩⟩
  item := fun i s Q E hi st hQ => by
    refine nextOf_tuple_item st.1 st.2 (x := items[i]) (by simp [hi]) fun h' hit' hs' => ?_
    exact hQ _ h' s.toks (by simp [hi]) ⟨hit', let ⟨o, ho, r⟩ := st.2; ⟨o, (hs'.2 l hne).trans ho, r⟩⟩ hs'
  done := fun s Q E st hE => nextOf_tuple_end hh st.1 st.2 (by simp) hE

theorem meets_enumerate_newT (l : Addr) (items : Array Value) (o : Obj) (hc : o.cls = .type "tuple") (n : Nat) (hd : o.data = .seq items n) :
    Meets (Builtin.«enumerate.__new__» ⟨[.type "enumerate", .ref l], []⟩) (fun _ R s => s.heap.get? l = some o ∧
      R (.ok (.ret (.ref (s.heap.push { cls := .type "tuple_iterator", data := .fields #[.ref l, .int 0 0] }).objs.size)))
        { s with heap := (s.heap.push { cls := .type "tuple_iterator", data := .fields #[.ref l, .int 0 0] }).push { cls := .type "enumerate", data := .fields #[.none, .bool false, .ref s.heap.objs.size, rawInt 0, .none, .none] } }) :=
  .of_wp fun prog w A R s h => by
    obtain ⟨hp, g, d, tk, os⟩ := s; obtain ⟨hl, h⟩ := h
    have hsub := sub_enumerate
    have hL : Heap.IsTuple (Shared.heap ⟨hp, g, d, tk, os⟩) l items := ⟨_, hl, hc, n, hd⟩
    wp_walk using wpAny_loadPart' hl
    refine wpAny_stack_any fun st => wpAny_pure ?_
    split
    · rename_i c _ _ _ _ _
      cases (c == Value.type "enumerate")
      · wp_walk using wpAny_loadPart' hl, wpAny_pyIter_tuple hL
        exact ⟨_, rfl, h⟩
      · wp_walk using wpAny_loadPart' hl, wpAny_pyIter_tuple hL
        exact ⟨_, rfl, h⟩
    · wp_walk using wpAny_loadPart' hl, wpAny_pyIter_tuple hL
      exact ⟨_, rfl, h⟩
theorem call_enumerate_tuple {prog : Program} {w : World} {A : Around} {E : Value → Shared → Prop} {s : Shared} {l : Addr} {items : Array Value} {Q : Value → Shared → Prop} (hL : s.heap.IsTuple l items)
    (h : ∀ h', IsEnum h' (s.heap.objs.size + 1) s.heap.objs.size 0 .none → h'.IsTupleIter s.heap.objs.size l 0 → h'.objs.size = s.heap.objs.size + 2 →
      (∀ b o, s.heap.get? b = some o → h'.get? b = some o) → Q (.ref (s.heap.objs.size + 1)) { s with heap := h' }) :
    wpAny (model prog w) A (call (.type "enumerate") [.ref l]) Q E s := by
  obtain ⟨o, hl, hc, n, hd⟩ := hL
  refine callType_new F.called_enumerate (by decide) (F.typeCall_enumerate_1 _) (F.newCall_enumerate_1 _) (fun obj => F.args_object_init_2 obj _) F.entry_enumerate_new
    (meets_enumerate_newT l items o hc n hd) ⟨hl, ?_⟩
  have hz : (s.heap.push { cls := .type "tuple_iterator", data := .fields #[.ref l, .int 0 0] }).objs.size = s.heap.objs.size + 1 := Heap.size_push ..
  show _ ∧ _
  rw [hz]
  have he : IsEnum ((s.heap.push { cls := .type "tuple_iterator", data := .fields #[.ref l, .int 0 0] }).push
      { cls := .type "enumerate", data := .fields #[.none, .bool false, .ref s.heap.objs.size, rawInt 0, .none, .none] }) (s.heap.objs.size + 1) s.heap.objs.size 0 .none := by
    have := Heap.get?_push_size (s.heap.push { cls := .type "tuple_iterator", data := .fields #[.ref l, .int 0 0] })
      (o := { cls := .type "enumerate", data := .fields #[.none, .bool false, .ref s.heap.objs.size, rawInt 0, .none, .none] }) rfl
    rw [hz] at this; exact this
  refine ⟨⟨_, he, rfl⟩, h _ he ⟨_, Heap.get?_push_of_some _ (Heap.get?_push_size _ rfl), rfl, rfl⟩ (by rw [Heap.size_push, hz]) fun b o x => Heap.get?_push_of_some _ (Heap.get?_push_of_some _ x)⟩
end L2
namespace L2
open PySem PySem.Spec PyProof.Rows

section
variable {X : Cx}
theorem call_isinst : CallR X (.builtin "isinstance") (fun xs H Q => ∃ x c t b, xs = [x, .ty c] ∧ TyOf X.K H x t ∧ PySem.W.kitOne X.K t (.type c) = some b ∧ Q (.bl b) H) := by
  intro pins s σ H xs us Q I r h
  obtain ⟨x, c, t, b, rfl, ty, e, q⟩ := h
  obtain ⟨u, w', rfl, ru, rc⟩ := vals2 r
  obtain rfl : w' = Value.type c := rc
  exact isinst_ok I ru ty e fun tk => ⟨.bl b, H, I.tok _, rfl, q⟩
end
theorem kit_int_int (K : PySem.W.Frag) : PySem.W.kitOne K (.type "int") (.type "int") = some true := by kernel_rfl
theorem kit_int_bool (K : PySem.W.Frag) : PySem.W.kitOne K (.type "int") (.type "bool") = some false := by kernel_rfl
mutual
inductive Dt (K : PySem.W.Frag) (H : Hp) : V → PyData → Prop
  | non : Dt K H .non .none
  | bl (b : Bool) : Dt K H (.bl b) (.bool b)
  | int (i : Int) : Dt K H (.int i) (.int i)
  | str (x : Str) : Dt K H (.str x) (.str x)
  | lst {a : Addr} {xs : List V} {ds : List PyData} : SqL K H a xs → DtAll K H xs ds → Dt K H (.ref a) (.list ds)
  | tup {a : Addr} {xs : List V} {ds : List PyData} : SqT K H a xs → DtAll K H xs ds → Dt K H (.ref a) (.tuple ds)
inductive DtAll (K : PySem.W.Frag) (H : Hp) : List V → List PyData → Prop
  | nil : DtAll K H [] []
  | cons {x : V} {d : PyData} {xs : List V} {ds : List PyData} : Dt K H x d → DtAll K H xs ds → DtAll K H (x :: xs) (d :: ds)
end
section
variable {X : Cx} {pins : List (Addr × Obj)} {σ : St} {H : Hp} {s : Shared}
mutual
theorem Dt.reads (I : Inv X pins σ H s) : ∀ {x : V} {d : PyData} {u : Value}, Dt X.K H x d → RelV x u → ∃ as, Reads s.heap u d as
  | _, _, _, .non, r => by obtain rfl := (show _ = Value.none from r); exact ⟨_, .none⟩
  | _, _, _, .bl b, r => by obtain rfl := (show _ = Value.bool b from r); exact ⟨_, .bool b⟩
  | _, _, _, .int i, r => by obtain ⟨t, rfl⟩ := r; exact ⟨_, .int i t⟩
  | _, _, _, .str x, r => by obtain ⟨t, rfl⟩ := r; exact ⟨_, .str x t⟩
  | _, _, _, @Dt.lst _ _ a xs ds hq ha, r => by
    obtain rfl := (show _ = Value.ref a from r)
    obtain ⟨its, rv, ⟨o, n, h1, h2, h3, h4⟩, hz⟩ := I.list hq
    obtain ⟨as, ra⟩ := DtAll.reads I ha rv
    exact ⟨_, .list h1 h2 h4 (by simpa using ra)⟩
  | _, _, _, @Dt.tup _ _ a xs ds hq ha, r => by
    obtain rfl := (show _ = Value.ref a from r)
    obtain ⟨its, rv, ⟨o, h1, h2, n, h3⟩, hz⟩ := I.tuple hq
    obtain ⟨as, ra⟩ := DtAll.reads I ha rv
    exact ⟨_, .tuple h1 h2 h3 (by simpa using ra)⟩
theorem DtAll.reads (I : Inv X pins σ H s) : ∀ {xs : List V} {ds : List PyData} {us : List Value}, DtAll X.K H xs ds → Vals xs us → ∃ as, ReadsAll s.heap us ds as
  | _, _, _, .nil, r => by cases r; exact ⟨_, .nil⟩
  | _, _, _, .cons h t, r => by
    cases r with
    | cons r rr =>
      obtain ⟨a1, h1⟩ := Dt.reads I h r
      obtain ⟨a2, h2⟩ := DtAll.reads I t rr
      exact ⟨_, .cons h1 h2⟩
end
def rEqD (K : PySem.W.Frag) (A : Around) (neg : Bool) : R2 := fun x y H Q => ∃ d e, Dt K H x d ∧ Dt K H y e ∧ d.canLay0 = true ∧ e.canLay0 = true ∧ A.units + min d.depth e.depth < cLine ∧ Q (.bl (if neg then !PyData.eqv d e else PyData.eqv d e)) H
theorem op_eqD : OpR X (compareOp .Eq) (rEqD X.K X.A false) := by
  intro pins s σ H x y v u Q I rx ry h
  obtain ⟨d, e, hd, he, c1, c2, hu, q⟩ := h
  obtain ⟨as, ra⟩ := Dt.reads I hd rx
  obtain ⟨bs, rb⟩ := Dt.reads I he ry
  exact SeqAt.compareEq_reads ra rb c1 c2 hu ⟨.bl _, H, I, rfl, q⟩
theorem op_neD : OpR X (compareOp .NotEq) (rEqD X.K X.A true) := by
  intro pins s σ H x y v u Q I rx ry h
  obtain ⟨d, e, hd, he, c1, c2, hu, q⟩ := h
  obtain ⟨as, ra⟩ := Dt.reads I hd rx
  obtain ⟨bs, rb⟩ := Dt.reads I he ry
  exact SeqAt.compareNe_reads ra rb c1 c2 hu ⟨.bl _, H, I, rfl, q⟩
end
/-- rows of squares as values, as data -/
def nv (xs : List Nat) : List V := xs.map fun (n : Nat) => V.int (n : Int)
def nd (xs : List Nat) : List PyData := xs.map fun (n : Nat) => PyData.int (n : Int)
theorem nv_len (xs : List Nat) : (nv xs).length = xs.length := by simp [nv]
theorem nv_get {xs : List Nat} {i : Nat} {x : Nat} (h : xs[i]? = some x) : (nv xs)[i]? = some (.int (x : Int)) := by simp [nv, h]
theorem nv_get' {xs : List Nat} {i : Nat} {v : V} (h : (nv xs)[i]? = some v) : ∃ x, xs[i]? = some x ∧ v = .int (x : Int) := by
  rw [nv, List.getElem?_map] at h
  cases e : xs[i]? with
  | none => rw [e] at h; cases h
  | some x => rw [e] at h; exact ⟨x, rfl, (Option.some.inj h).symm⟩
theorem nv_snoc (xs : List Nat) (x : Nat) : nv xs ++ [.int (x : Int)] = nv (xs ++ [x]) := by simp [nv]
theorem nv_inj {xs ys : List Nat} (h : nv xs = nv ys) : xs = ys := by
  unfold nv at h
  induction xs generalizing ys with
  | nil => cases ys with
    | nil => rfl
    | cons y ys => simp at h
  | cons x xs ih => cases ys with
    | nil => simp at h
    | cons y ys =>
      simp only [List.map_cons, List.cons.injEq, V.int.injEq] at h
      rw [ih h.2, Int.ofNat.inj (show Int.ofNat x = Int.ofNat y from h.1)]
theorem nd_all {K : PySem.W.Frag} {H : Hp} : ∀ xs : List Nat, DtAll K H (nv xs) (nd xs)
  | [] => .nil
  | x :: xs => .cons (.int _) (nd_all xs)
theorem nd_lay : ∀ xs : List Nat, PyData.canLayAll0 (nd xs) = true
  | [] => rfl
  | x :: xs => by show (PyData.canLay0 (PyData.int _) && PyData.canLayAll0 (nd xs)) = true; rw [nd_lay xs]; rfl
theorem nd_eqv : ∀ xs ys : List Nat, PyData.eqvAll (nd xs) (nd ys) = decide (xs = ys)
  | [], [] => rfl
  | [], y :: ys => rfl
  | x :: xs, [] => rfl
  | x :: xs, y :: ys => by
    show (((x : Int) == (y : Int)) && PyData.eqvAll (nd xs) (nd ys)) = _
    rw [nd_eqv xs ys]
    by_cases e : x = y
    · subst e
      by_cases e' : xs = ys <;> simp [e']
    · have : ((x : Int) == (y : Int)) = false := by simpa using fun h : (x : Int) = y => e (by omega)
      simp [this, e]
/-- a sheet's two rows as data -/
def sd (r u : List Nat) : PyData := .tuple [.tuple (nd r), .tuple (nd u)]
theorem sd_eqv (r u r' u' : List Nat) : PyData.eqv (sd r u) (sd r' u') = (decide (r = r') && decide (u = u')) := by
  show (PyData.eqvAll (nd r) (nd r') && (PyData.eqvAll (nd u) (nd u') && true)) = _
  rw [nd_eqv, nd_eqv, Bool.and_true]
theorem sd_lay (r u : List Nat) : (sd r u).canLay0 = true := by
  show (PyData.canLayAll0 (nd r) && (PyData.canLayAll0 (nd u) && true)) = true
  rw [nd_lay, nd_lay]; rfl
/-- the sheet at a: a tuple of two tuples -/
def ShAt (H : Hp) (a : Addr) (r u : List Nat) : Prop := ∃ p q, H a = some (.tup [.ref p, .ref q]) ∧ H p = some (.tup (nv r)) ∧ H q = some (.tup (nv u))
theorem ShAt.dt {K : PySem.W.Frag} {H : Hp} {a : Addr} {r u : List Nat} (h : ShAt H a r u) : Dt K H (.ref a) (sd r u) := by
  obtain ⟨p, q, h1, h2, h3⟩ := h
  exact .tup (SqT.of h1) (.cons (.tup (SqT.of h2) (nd_all r)) (.cons (.tup (SqT.of h3) (nd_all u)) .nil))
theorem ShAt.same {H H' : Hp} {a : Addr} {r u : List Nat} (e : Same H H') (h : ShAt H a r u) : ShAt H' a r u := by
  obtain ⟨p, q, h1, h2, h3⟩ := h
  exact ⟨p, q, e _ _ h1, e _ _ h2, e _ _ h3⟩
end L2
namespace L2
open PySem PySem.Spec PyProof.Rows
theorem sub_ts : isSubtype (.type "tuple") (.type "set") = pure false := by rw [isSubtype_type]; kernel_rfl
theorem sub_tf : isSubtype (.type "tuple") (.type "frozenset") = pure false := by rw [isSubtype_type]; kernel_rfl
section
variable {prog : Program} {w : World} {A : Around} {E : Value → Shared → Prop} {s : Shared}
abbrev freshSet (led : Bool) : Obj := { cls := .type "set", dict := none, data := .set #[] 0 (.fresh 0 0 led) }
/-- what set(t) leaves -/
def SetMade (prog : Program) (w : World) (s : Shared) (ns : List Int) (n : Nat) (s' : Shared) : Prop := ∃ h' tk, s' = { s with heap := h', toks := tk } ∧
  h'.SetOf (intKind prog w) s.heap.objs.size (fun k' => (firstMet (fun i => ns.getD i 0) n).any (· == k')) (firstMet (fun i => ns.getD i 0) n).length ∧
  ∀ b o, b < s.heap.objs.size → s.heap.get? b = some o → h'.get? b = some o
set_option maxHeartbeats 3200000 in
theorem set_init_tup {l : Addr} {items : Array Value} {ns : List Int} {led : Bool} (hh : A.handled = none) (hl : s.heap.IsTuple l items) (hi : IntsAre items.toList ns) (hb : items.size + 1 < scanBound) :
    wpAny (model prog w) A (Builtin.«set.__init__» ⟨[.ref s.heap.objs.size, .ref l], []⟩) (fun fin s₂ => fin = .done (.ret .none) ∧ SetMade prog w s ns items.size s₂) E { s with heap := s.heap.push (freshSet led) } := by
  have hS : (s.heap.push (freshSet led)).get? s.heap.objs.size = some (freshSet led) := Heap.get?_push_size _ rfl
  obtain ⟨ol, hol, hcl, nl, hdl⟩ := hl
  obtain ⟨oc, od, oda, osl⟩ := ol
  simp only at hcl hdl
  subst hcl; subst hdl
  have hol' := Heap.get?_push_of_some (freshSet led) hol
  have q1 := sub_ts
  have q2 := sub_tf
  have q3 : (Value.type "tuple" == Value.type "dict") = false := by decide
  have hl1 : (s.heap.push (freshSet led)).IsTuple l items := ⟨_, hol', rfl, nl, rfl⟩
  have hlS : l < s.heap.objs.size := Heap.lt_size hol
  unfold Builtin.«set.__init__» noKeywords Builtin.Frozenset.updateFrom
  generalize hPI : pyIter = PI
  wp_walk
  subst hPI
  refine wpAny_pyIter_tuple hl1 (wpAny_bind (wpAny_runValue ?_))
  have hz : (s.heap.push (freshSet led)).objs.size = s.heap.objs.size + 1 := Heap.size_push ..
  rw [hz]
  refine codeAny_set_update_loopS ((Walks.tuple (by simp [hh]) (s.heap.objs.size + 1) l (Nat.ne_of_lt (Nat.lt_succ_of_lt hlS)) items).toS) s.heap.objs.size (fun hm => (List.mem_cons.mp hm).elim (Nat.ne_of_lt (Nat.lt_succ_self _)) fun hm => Nat.ne_of_gt hlS (List.mem_singleton.mp hm)) (fun i => ns.getD i 0) (fun i v hv => IntsAre.int_at hi i v (by rw [Array.getElem?_toList]; exact hv)) hb (items.size - 0) 0 _ (by omega) (Nat.zero_le _)
    ⟨⟨_, hz ▸ Heap.get?_push_size _ rfl, rfl, rfl⟩, ⟨_, Heap.get?_push_of_some _ hol', rfl, nl, rfl⟩⟩ ?_ ?_
  · exact SetOf_congr ((setObjOf_fresh (knd := intKind prog w) led).setOf (Heap.get?_push_of_some _ hS) (by unfold scanBound; omega)) (fun _ => rfl) rfl
  · intro s' hm hS'
    obtain ⟨h', g', d', tk', os'⟩ := s'
    have eg : g' = s.gens := hm.gens
    have ed : d' = s.drawn := hm.drawn
    have eo : os' = s.os := hm.os
    subst eg; subst ed; subst eo
    show wpAny _ _ _ _ _ _
    refine wpAny_pure ?_
    show wpAny _ _ (ret Value.none) _ _ _
    refine wpAny_pure ⟨rfl, h', tk', rfl, hS', fun b o hlt e => ?_⟩
    exact hm.heap b o (fun q => (List.mem_cons.mp q).elim (Nat.ne_of_lt hlt) fun q => Nat.ne_of_lt (Nat.lt_succ_of_lt hlt) (List.mem_singleton.mp q)) (Heap.get?_push_of_some _ (Heap.get?_push_of_some _ e))
/-- set(t), t a tuple of ints -/
theorem call_set_tup {l : Addr} {items : Array Value} {ns : List Int} {Q : Value → Shared → Prop} (hh : A.handled = none) (hl : s.heap.IsTuple l items) (hi : IntsAre items.toList ns) (hb : items.size + 1 < scanBound)
    (h : ∀ s', SetMade prog w s ns items.size s' → Q (.ref s.heap.objs.size) s') : wpAny (model prog w) A (call (.type "set") [.ref l]) Q E s := by
  have m0 := F.called_set.mro
  obtain ⟨c, tl, m1⟩ := m0
  have m2 := F.called_set.made
  have m3 := F.called_set.sub
  have m4 := F.called_set.notType
  have m5 := F.called_set.canCreate
  have m6 := F.typeCall_set_1 (.ref l)
  refine wpAny_call (codeAny_of_tree (show wpAny _ _ (callAny (.type "set") _) _ _ _ from ?_))
  refine wpAny_pure ⟨Code.quiet_builtin _ (by decide +kernel), codeAny_builtin F.entry_type_call ?_⟩
  rw [Around.under_plain (weight_type_call_type "set" [.ref l] []) rfl]
  repeat (any_goals (first | assumption | wp_step))
  refine codeAny_mono (code_set_new_1 (.ref l) (E := E) (Q₁ := fun obj s₁ => ∃ led : Bool, obj = .ref s.heap.objs.size ∧ s₁ = { s with heap := s.heap.push (freshSet led) }) fun led => ⟨led, rfl, rfl⟩) fun r s₁ hr => ?_
  match r, hr with
  | .error e, hr => exact hr
  | .ok .next, hr => exact hr.elim
  | .ok .brk, hr => exact hr.elim
  | .ok .cont, hr => exact hr.elim
  | .ok (.ret obj), hr =>
    obtain ⟨led, rfl, rfl⟩ := hr
    have hT : Shared.TypeIs { s with heap := s.heap.push (freshSet led) } (.ref s.heap.objs.size) "set" := ⟨_, Heap.get?_push_size _ rfl, rfl⟩
    have m7 := F.called_set.init.lookup
    have m8 := F.called_set.init.bind (.ref s.heap.objs.size)
    repeat (any_goals (first | assumption | wp_step))
    refine codeAny_mono (codeAny_call_builtin (R := wants (fun r s₂ => r = .none ∧ SetMade prog w s ns items.size s₂) E) F.called_set.init.plain F.entry_set_init (check_set_init_1 hT ?_)) fun r₂ s₂ hr₂ => ?_
    · refine wpAny_mono (set_init_tup (by simp [hh]) hl hi hb) (fun fin s₂ ⟨e, q⟩ => ?_) fun e s₂ q => q
      subst e
      exact ⟨rfl, q⟩
    · match r₂, hr₂ with
      | .error e, hr₂ => exact hr₂
      | .ok .next, hr₂ => exact hr₂.elim
      | .ok .brk, hr₂ => exact hr₂.elim
      | .ok .cont, hr₂ => exact hr₂.elim
      | .ok (.ret r), hr₂ =>
        obtain ⟨rfl, q⟩ := hr₂
        repeat (any_goals (first | assumption | wp_step))
        exact h _ q
end
end L2
namespace L2
open PySem PySem.Spec PyProof.Rows
section
variable {prog : Program} {w : World} {A : Around} {E : Value → Shared → Prop} {s : Shared}
theorem collect_tup {l : Addr} {vs : List Value} {Q : List Value → Shared → Prop} (hl : s.heap.IsTuple l vs.toArray) (hz : vs.length ≤ sizeLine)
    (h : ∀ h', (∀ b o, s.heap.get? b = some o → h'.get? b = some o) → Q vs { s with heap := h' }) : wpAny (model prog w) A (collect (.ref l)) Q E s := by
  obtain ⟨o, ho, hc, n, hd⟩ := hl
  unfold collect
  refine wpAny_bind (wpAny_runValue (codeAny_builtin entry_proto_collect' ?_))
  show wpAny _ _ (do again (.builtin "list.__iadd__" ⟨[← newList [], .ref l], []⟩)) _ _ s
  refine wpAny_bind (wpAny_newList (wpAny_pure ⟨Code.quiet_builtin _ (by decide +kernel), codeAny_builtin entry_list_iadd' ?_⟩))
  have ho' : (s.heap.push (seqObj "list" #[] 0)).get? l = some o := Heap.get?_push_of_some _ ho
  show wpAny _ _ (Builtin.List.listExtendWith (.ref s.heap.objs.size) (.ref l) (.ref s.heap.objs.size)) _ _ { s with heap := s.heap.push (seqObj "list" #[] 0) }
  unfold Builtin.List.listExtendWith
  refine wpAny_bind (wpAny_typeOf (T := "tuple") ⟨o, ho', hc⟩ ?_)
  rw [if_pos (show (Builtin.List.listSameRef (.ref s.heap.objs.size) (.ref l) || Value.type "tuple" == Value.type "list" || Value.type "tuple" == Value.type "tuple") = true by
    rw [show (Value.type "tuple" == Value.type "tuple") = true from rfl, Bool.or_true])]
  refine wpAny_bind (listItems_at ho' hd (wpAny_bind (listItems_at (xs := #[]) (n := 0) (Heap.get?_push_size _ rfl) rfl ?_)))
  rw [if_neg (by simp)]
  refine wpAny_bind (listUpdate_at (xs := #[]) (n := 0) (Heap.get?_push_size _ rfl) rfl ?_ (Nat.zero_le _) (by show (#[] ++ vs.toArray).size ≤ sizeLine + 1; simp; omega))
  refine wpAny_pure ?_
  refine wpAny_bind (wpAny_load (get?_update_seq (Heap.get?_push_size _ rfl) _) ?_)
  show wpAny _ _ (pure ((#[] : Array Value) ++ vs.toArray).toList) Q E _
  rw [show ((#[] : Array Value) ++ vs.toArray).toList = vs by simp]
  exact wpAny_pure (h _ fun b o e => (Heap.get?_update_other _ _ (Nat.ne_of_gt (Heap.lt_size e))).trans (Heap.get?_push_of_some _ e))
/-- sorted(x), by what collect tells of x -/
theorem sorted_by {x : Value} {vs : List Value} {ns : List Int} {Q : Value → Shared → Prop} (hI : IntsAre vs ns) (h64 : vs.length < 64)
    (hcol : ∀ (A : Around) (R : List Value → Shared → Prop), A.handled = none → (∀ vs ns' h' tk, IntsAre vs ns' → ns' = ns → (∀ b o, s.heap.get? b = some o → h'.get? b = some o) → R vs { s with heap := h', toks := tk }) → wpAny (model prog w) A (collect x) R E s)
    (hh : A.handled = none)
    (h : ∀ (h1 h2 : Heap) (tk e : Nat) (out : Array Value) (ns' : List Int), IntsAre out.toList ns' → ns'.Perm ns → ns'.Pairwise (· ≤ ·) → (∀ b o, s.heap.get? b = some o → h1.get? b = some o) → h2.get? h1.objs.size = some (seqObj "list" out e) →
      (∀ b o, h1.get? b = some o → h2.get? b = some o) → Q (.ref h1.objs.size) { s with heap := h2, toks := tk }) :
    wpAny (model prog w) A (call (.builtin "sorted") [x]) Q E s := by
  refine Calls.call_function_entry kind_sorted plain_sorted entry_sorted (args_sorted1 _) ?_
  unfold Builtin.«sorted»
  refine wpAny_bind (m := checkCount "sorted" 1 1 _) (wpAny_pure ?_)
  refine wpAny_bind (hcol _ _ (by simp [hh]) fun vs ms h' tk hI' e hk => ?_)
  subst e
  have hl : vs.length < 64 := by rw [hI'.length, ← hI.length]; exact h64
  refine wpAny_bind (wpAny_newList ?_)
  refine wpAny_bind (wpAny_holding (wpAny_call_entry slot_list_sort ⟨_, Heap.get?_push_size _ rfl, rfl⟩ entry_list_sort (list_sort_tree (Heap.get?_push_size _ rfl) hI' hl fun out ns' a1 a2 a3 => ⟨_, rfl, ?_⟩) (args_list_sort _)))
  obtain ⟨e, he⟩ := sortedHeap_at (out := out) (n := 0) (show (h'.push (seqObj "list" vs.toArray 0)).get? h'.objs.size = some (seqObj "list" vs.toArray 0) from Heap.get?_push_size _ rfl)
  have old : ∀ b o, h'.get? b = some o → (sortedHeap (h'.push (seqObj "list" vs.toArray 0)) h'.objs.size vs out).get? b = some o := fun b o q1 => by
    have q2 := Heap.lt_size q1
    rw [sortedHeap_old (Nat.ne_of_lt q2) (by rw [Heap.size_push]; exact Nat.lt_succ_of_lt q2)]
    exact Heap.get?_push_of_some _ q1
  exact wpAny_pure ⟨_, rfl, h _ _ _ _ out ns' a1 a2 a3 hk he old⟩
end
end L2
namespace L2
open PySem PySem.Spec PyProof.Rows
section
variable {prog : Program} {w : World} {A : Around} {E : Value → Shared → Prop} {s : Shared}
/-- a list of two is unpacked -/
theorem unpack_two {t : Addr} {v u : Value} {targets : List (Bool × (Value → Sem Unit))} {Q : Unit → Shared → Prop} (hh : A.handled = none) (ht : s.heap.IsList t #[v, u])
    (hn : targets.length = 2) (hstar : targets.findIdx? (·.1) = none)
    (h : ∀ h', (∀ b o, s.heap.get? b = some o → h'.get? b = some o) → wpAny (model prog w) A (assignInOrder (targets.map (·.2)) [v, u]) Q E { s with heap := h' }) :
    wpAny (model prog w) A (unpack (.ref t) targets) Q E s := by
  unfold unpack
  rw [hn, hstar]
  refine wpAny_bind (wpAny_holding ?_)
  unfold unpackItems notIterableAtAll
  have hlt : t ≠ s.heap.objs.size := by obtain ⟨o, ho, _⟩ := ht; exact Nat.ne_of_lt (Heap.lt_size ho)
  refine wpAny_bind (wpAny_bind (wpAny_specialOf ht.typeIs F.slot_list_iter.lookup (wpAny_pure ?_)))
  simp only [Bool.false_eq_true, if_false]
  refine wpAny_bind (wpAny_holding (wpAny_pyIter_list ht ?_))
  refine wpAny_bind (wpAny_holding ?_)
  have l0 := ht.push { cls := .type "list_iterator", data := .fields #[.ref t, .int 0 0] }
  show wpAny _ _ (pyNext (.ref s.heap.objs.size) >>= _) _ _ _
  refine wpAny_bind (wpAny_pyNext_list_item (i := 0) (x := v) ⟨_, Heap.get?_push_size _ rfl, rfl, rfl⟩ l0 rfl fun h1 i1 s1 => ?_)
  have l1 := l0.extBut s1.extBut hlt
  refine wpAny_bind (wpAny_holding ?_)
  show wpAny _ _ (pyNext (.ref s.heap.objs.size) >>= _) _ _ _
  refine wpAny_bind (wpAny_pyNext_list_item (i := 1) (x := u) i1 l1 rfl fun h2 i2 s2 => ?_)
  have l2 := l1.extBut s2.extBut hlt
  refine wpAny_bind (wpAny_holding (wpAny_pure (wpAny_pure (wpAny_pure ?_))))
  rw [if_neg (by simp)]
  refine wpAny_bind (wpAny_holding (wpAny_pyNext_list_end hh i2 l2 rfl fun h3 e3 => ?_))
  simp only [Option.isSome_none, Bool.false_eq_true, if_false]
  refine wpAny_pure (h h3 fun b o e => ?_)
  have hb := Nat.ne_of_lt (Heap.lt_size e)
  exact e3 b o hb (s2.extBut b o hb (s1.extBut b o hb (Heap.get?_push_of_some _ e)))
end
end L2
namespace L2
open PySem PySem.Spec PyProof.Rows

section
variable {X : Cx} {pins : List (Addr × Obj)} {σ : St} {H : Hp} {s : Shared}
/-- records of ours at fp have turned, a new object T is laid and tracked -/
theorem Inv.turnLaid {fp : List Addr} {T : Addr} {o : HO} {h' : Heap} {t' : Nat} (I : Inv X pins σ H s) (hf : ∀ b ∈ fp, FpOk X pins H b) (hT : s.heap.objs.size ≤ T)
    (k : ∀ b ob, b ∉ fp → s.heap.get? b = some ob → h'.get? b = some ob) (new : ObjOk X.prog X.w (upd H T o) h' T o) : Inv X pins σ (upd H T o) { s with heap := h', toks := t' } := by
  have hn : H T = none := I.hok.fresh hT
  have neT : ∀ b ob, s.heap.get? b = some ob → b ≠ T := fun b ob e => Nat.ne_of_lt (Nat.lt_of_lt_of_le (Heap.lt_size e) hT)
  have nfp : ∀ b u, H b = some u → b ∉ fp := fun b u e hb => by rw [(hf b hb).1] at e; cases e
  refine I.step (g' := s.gens) (d' := s.drawn) (ch := fp) (fun b hb => ⟨(hf b hb).2.2.2.1, (hf b hb).2.1, (hf b hb).2.2.2.2.1, (hf b hb).2.2.2.2.2⟩) (fun b ob _ _ hc e _ => k b ob hc e) (fun b ob _ _ hc e _ => ⟨ob.slots, k b ob hc e⟩)
    (fun b ob _ e n => by rw [upd_ne (neT b ob e)]; exact n) (fun b ob hc e => ⟨ob, k b ob hc e⟩) (fun b xs e => by rw [upd_ne (ne_of_none e hn)]; exact e) (fun b ob u e => by rw [upd_ne (ne_of_none e hn)]; exact e)
    (fun b ps e => ⟨#[], by rw [upd_ne (ne_of_none e hn), e]; simp⟩) (fun m hm => ?_) (fun b u e => ?_) I.bare
  · obtain ⟨ob, es, ep, ho, r⟩ := hm
    exact ⟨ob, es, ep, k _ ob (fun hb => (hf _ hb).2.1 rfl) ho, r⟩
  · by_cases hb : b = T
    · subst hb; rw [upd_same] at e; cases e; exact new
    · rw [upd_ne hb] at e
      refine (I.hok b u e).stay (fun c v hc q => k c v ?_ q) (fun c q => by rw [upd_ne (ne_of_none q hn)]; exact q) fun c xs q => by rw [upd_ne (ne_of_none q hn)]; exact q
      rcases hc with z | z
      · rw [z]; exact nfp b u e
      · exact nfp c _ z
/-- records of ours at fp have turned -/
theorem Inv.turnedL {fp : List Addr} {h' : Heap} {t' : Nat} (I : Inv X pins σ H s) (hf : ∀ b ∈ fp, FpOk X pins H b) (k : ∀ b ob, b ∉ fp → s.heap.get? b = some ob → h'.get? b = some ob) : Inv X pins σ H { s with heap := h', toks := t' } := by
  have nfp : ∀ b u, H b = some u → b ∉ fp := fun b u e hb => by rw [(hf b hb).1] at e; cases e
  refine I.step (g' := s.gens) (d' := s.drawn) (ch := fp) (fun b hb => ⟨(hf b hb).2.2.2.1, (hf b hb).2.1, (hf b hb).2.2.2.2.1, (hf b hb).2.2.2.2.2⟩) (fun b ob _ _ hc e _ => k b ob hc e) (fun b ob _ _ hc e _ => ⟨ob.slots, k b ob hc e⟩)
    (fun _ _ _ _ n => n) (fun b ob hc e => ⟨ob, k b ob hc e⟩) (fun _ _ e => e) (fun _ _ _ e => e) (fun b ps e => ⟨#[], by rw [e]; simp⟩) (fun m hm => ?_) (fun b u e => ?_) I.bare
  · obtain ⟨ob, es, ep, ho, r⟩ := hm
    exact ⟨ob, es, ep, k _ ob (fun hb => (hf _ hb).2.1 rfl) ho, r⟩
  · refine (I.hok b u e).stay (fun c v hc q => k c v ?_ q) (fun _ q => q) fun _ _ q => q
    rcases hc with z | z
    · rw [z]; exact nfp b u e
    · exact nfp c _ z
end

/-- enumerate's own pair: a tuple, nothing said of a dict -/
def tupE (T : Addr) (xs : List V) : HO := .ext fun h => xs.length ≤ sizeLine ∧ ∃ its : List Value, Vals xs its ∧ IsTup h T its.toArray
theorem tupE_ok {P : Program} {w : World} {H : Hp} {h : Heap} {T : Addr} {xs : List V} (q : xs.length ≤ sizeLine ∧ ∃ its : List Value, Vals xs its ∧ IsTup h T its.toArray) : ObjOk P w H h T (tupE T xs) := by
  obtain ⟨z, its, r, o, e, c⟩ := id q
  exact ⟨q, ⟨o, e⟩, fun h1 h2 ⟨z', its', r', o', e', c'⟩ k => ⟨z', its', r', o', k _ e', c'⟩⟩
def gTupE (n : Nat) (t : TGs) : TG := fun v σ H Q => ∃ a xs, v = .ref a ∧ H a = some (tupE a xs) ∧ xs.length = n ∧ t xs σ H Q
theorem pg_tupE {es : List Expr} {k : Nat} {t : TGs} {n : Nat} {pos : Pos} (hc : X.calm = true) (h : PGs X es t)
    (hn : (assignEach es X.env).length = n := by rfl) (hst : (assignEach es X.env).findIdx? (·.1) = none := by rfl) : PG X (.Tuple es k pos) (gTupE n t) := by
  intro pins s σ H v u Q I r hw
  obtain ⟨a, xs, e1, hq, hl, hw⟩ := hw
  subst e1
  cases r
  obtain ⟨⟨hz, its, rv, ht⟩, _⟩ := I.hok a _ hq
  refine assign_Tuple_tuple (I.ok.hd hc) ht (by simp [hn, ← hl, rv.length]) hst fun h' hx => ?_
  have I1 : Inv X pins σ H { s with heap := h' } := I.kept (t' := s.toks) fun b o e => hx b o (Nat.ne_of_lt (Heap.lt_size e)) e
  exact h pins _ σ H xs _ Q I1 (by simpa using rv) hw
def Iten (sq : Hp → List V → Prop) : It :=
  ⟨fun i H => ∃ xs x, sq H xs ∧ xs[i]? = some x, fun i H x H' => ∃ T y, H T = none ∧ x = .ref T ∧ (∀ xs, sq H xs → xs[i]? = some y) ∧ H' = upd H T (tupE T [.int (i : Int), y]), fun i H => ∃ xs, sq H xs ∧ xs.length = i⟩

theorem ne_cls {h : Heap} {a b : Addr} {o u : Obj} (h1 : h.get? a = some o) (h2 : h.get? b = some u) (d : o.cls ≠ u.cls) : a ≠ b := by
  intro e; subst e; rw [h1] at h2; cases h2; exact d rfl

theorem turn_enum {P : Program} {w : World} {K : PySem.W.Frag} {elts : List Expr} {k : Nat} {pos : Pos} (sq : Hp → List V → Prop) (isq : Heap → Array Value → Prop) (isit : Nat → Heap → Prop) (e it : Addr)
    (obj : ∀ i h, isit i h → ∃ o, h.get? it = some o ∧ ∀ v, o.data ≠ .cell v) (keep : ∀ i h h', isit i h → (∀ o, h.get? it = some o → h'.get? it = some o) → isit i h')
    (rd : ∀ (X : Cx) (pins : List (Addr × Obj)) (σ : St) (H : Hp) (s : Shared) (xs : List V), X.K = K → Inv X pins σ H s → sq H xs → (∃ its : List Value, Vals xs its ∧ isq s.heap its.toArray) ∧ ∀ ys, sq H ys → ys = xs)
    (W : ∀ (A : Around) (items : Array Value) (h : Heap) (i : Nat), A.handled = none → isq h items → isit i h → (∃ old, IsEnum h e it i old) → ∃ fp Mid, WalksT P w A e fp [e, it] items.size (fun i vals => ∃ t x, items[i]? = some x ∧ vals = #[.int (i : Int) t, x])
      (fun i h => (∃ old, IsEnum h e it i old) ∧ isit i h ∧ isq h items) Mid) :
    Turn P w K (.Tuple elts k pos) (Iten sq) [e, it] e (fun i h => (∃ old, IsEnum h e it i old) ∧ isit i h) where
  mem := by simp
  obj := fun i h st b hb => by
    obtain ⟨⟨old, he⟩, q⟩ := st
    rcases List.mem_cons.mp hb with rfl | hb
    · exact ⟨_, he, fun v z => nomatch z⟩
    · rw [List.mem_singleton.mp hb]; exact obj i h q
  keep := fun i h h' st kp => ⟨let ⟨old, he⟩ := st.1; ⟨old, kp e (by simp) _ he⟩, keep i h h' st.2 fun o q => kp it (by simp) o q⟩
  item := by
    intro X hP hw hK hc i pins s σ H E I hf st hg
    subst hP hw
    obtain ⟨xs, x, hq, hx⟩ := hg
    obtain ⟨⟨its, rv, hL⟩, inj⟩ := rd X pins σ H s xs hK I hq
    obtain ⟨old, he⟩ := id st.1
    obtain ⟨oi, hoi, _⟩ := obj _ _ st.2
    have hlt : i < its.toArray.size := by
      have := (List.getElem?_eq_some_iff.mp hx).1
      rw [rv.length] at this; simpa using this
    obtain ⟨fp, Mid, W⟩ := W X.A its.toArray s.heap i (I.ok.hd hc) hL st.2 st.1
    refine W.item i s _ E hlt ⟨st.1, st.2, hL⟩ fun T vals h' tk hPt hT htup hMid hk => ⟨.ref T, rfl, ?_⟩
    refine W.go elts k pos i T _ _ E hMid fun h'' hSt hk2 => ?_
    obtain ⟨t, y', hy', rfl⟩ := hPt
    obtain ⟨u, hu, ry⟩ := rv.get hx
    have e1 : y' = u := by
      have : its[i]? = some y' := by simpa using hy'
      rw [hu] at this; exact (Option.some.inj this).symm
    subst e1
    have htup2 : IsTup h'' T #[.int (i : Int) t, y'] := by
      obtain ⟨o, q1, q2⟩ := htup
      exact ⟨o, hk2 T o (W.apart _ _ _ hMid) q1, q2⟩
    refine ⟨.ref T, upd H T (tupE T [.int (i : Int), x]), ?_, rfl, ⟨T, x, I.hok.fresh hT, rfl, fun zs hzs => by rw [inj zs hzs]; exact hx, rfl⟩, ⟨hSt.1, hSt.2.1⟩, fun b hb => ?_⟩
    · exact I.turnLaid (s := s) (h' := h'') (t' := tk) hf hT (fun b ob hb q => hk2 b ob hb (hk b ob hb q)) (tupE_ok ⟨by show 2 ≤ sizeLine; decide, [.int (i : Int) t, y'], .cons ⟨t, rfl⟩ (.cons ry .nil), htup2⟩)
    · have hbT : b ≠ T := fun z => by
        have : b < s.heap.objs.size := by
          rcases List.mem_cons.mp hb with rfl | hb
          · exact Heap.lt_size he
          · rw [List.mem_singleton.mp hb]; exact Heap.lt_size hoi
        exact absurd (Nat.lt_of_lt_of_le this hT) (by rw [z]; exact Nat.lt_irrefl _)
      rw [upd_ne hbT]; exact (hf b hb).1
  done := by
    intro X hP hw hK hc i pins s σ H E I hf st hs
    subst hP hw
    obtain ⟨xs, hq, hle⟩ := hs
    obtain ⟨⟨its, rv, hL⟩, inj⟩ := rd X pins σ H s xs hK I hq
    obtain ⟨fp, Mid, W⟩ := W X.A its.toArray s.heap i (I.ok.hd hc) hL st.2 st.1
    have hi : i = its.toArray.size := by rw [← hle, rv.length]; simp
    refine W.done s _ E (by rw [← hi]; exact ⟨st.1, st.2, hL⟩) fun h' tk hk => ⟨rfl, ?_⟩
    exact I.turnedL hf hk
  self := fun A i s Q E st h => by obtain ⟨⟨old, he⟩, _⟩ := st; exact wpAny_pyIter_enum he h

section
variable {X : Cx} {elts : List Expr} {k : Nat} {tpos : Pos}
def iEnumL (K : PySem.W.Frag) (ta : TA) : TI := fun σ H R => ta σ H fun vs H1 => ∃ a, vs = [.ref a] ∧ (∃ xs, SqL K H1 a xs) ∧ R (Iten fun H xs => SqL K H a xs) H1
def iEnumT (K : PySem.W.Frag) (ta : TA) : TI := fun σ H R => ta σ H fun vs H1 => ∃ a, vs = [.ref a] ∧ (∃ xs, SqT K H1 a xs) ∧ R (Iten fun H xs => SqT K H a xs) H1
theorem boot_enum : bootBuiltins "enumerate" = some (.type "enumerate") := by decide +kernel
theorem pi_enumL {l : Expr} {ta : TA} {p pos : Pos} (hg : Gl X "enumerate") (hm : X.mg "enumerate" = none) (ha : PA X [l] ta) (hs : starEach [l] X.env = [(false, eval l X.env)] := by rfl) :
    PI X (.Tuple elts k tpos) (.Call (.Name "enumerate" p) [l] [] pos) (iEnumL X.K ta) := by
  intro pins s σ H R I h
  refine Call_ (ld_blt I hg hm boot_enum (PyProof.Rows.callWith_type1 (thn (ha pos pins s σ H _ I h) fun us s1 ⟨vs, H1, I1, r1, q1⟩ => ?_) hs rfl))
  obtain ⟨a, rfl, ⟨xs, hq⟩, q⟩ := q1
  obtain ⟨u, rfl, ru⟩ := vals1 r1
  obtain rfl : u = Value.ref a := ru
  obtain ⟨its, rv, p, hz⟩ := I1.list hq
  have ha : a < s1.heap.objs.size := by obtain ⟨o, ho, _⟩ := p.isList; exact Heap.lt_size ho
  refine call_enumerate_list p.isList fun h' he hit hsz hk => ?_
  refine wpAny_pyIter_enum he ?_
  have I2 : Inv X pins σ H1 { s1 with heap := h' } := I1.kept (t' := s1.toks) hk
  refine ⟨s1.heap.objs.size + 1, [s1.heap.objs.size + 1, s1.heap.objs.size], _, _, H1, rfl, I2, turn_enum (fun H xs => SqL X.K H a xs) (fun h its => h.IsList a its) (fun i h => h.IsListIter s1.heap.objs.size a i) (s1.heap.objs.size + 1) s1.heap.objs.size ?_ ?_ ?_ ?_, ⟨⟨_, he⟩, hit⟩, fun b hb => ?_, q⟩
  · rintro i h ⟨o, q1, q2, q3⟩
    exact ⟨o, q1, fun v z => by rw [q3] at z; cases z⟩
  · intro i h h' st kp
    exact st.at kp
  · intro X' pins' σ' H' s' ys hK I' hq'
    rw [← hK] at hq'
    obtain ⟨its', rv', p', _⟩ := I'.list hq'
    exact ⟨⟨its', rv', p'.isList⟩, fun zs hz => I'.list_inj (by rw [hK]; exact hz) hq'⟩
  · intro A items h i hh hL hI hE
    obtain ⟨old, hE⟩ := hE
    obtain ⟨ol, hol, hcl, _⟩ := id hL
    obtain ⟨oi, hoi, hci, _⟩ := id hI
    exact ⟨_, _, WalksT.enumerate hh _ _ a (Nat.succ_ne_self _) (ne_cls hol hE (by rw [hcl]; show Value.type "list" ≠ Value.type "enumerate"; decide)) (ne_cls hol hoi (by rw [hcl, hci]; decide)) items⟩
  · rcases List.mem_cons.mp hb with rfl | hb
    · exact I1.fpOk (Nat.le_succ _) (I1.hok.fresh (Nat.le_succ _))
    · rw [List.mem_singleton.mp hb]; exact I1.fpOk (Nat.le_refl _) (I1.hok.fresh (Nat.le_refl _))
theorem pi_enumT {l : Expr} {ta : TA} {p pos : Pos} (hg : Gl X "enumerate") (hm : X.mg "enumerate" = none) (ha : PA X [l] ta) (hs : starEach [l] X.env = [(false, eval l X.env)] := by rfl) :
    PI X (.Tuple elts k tpos) (.Call (.Name "enumerate" p) [l] [] pos) (iEnumT X.K ta) := by
  intro pins s σ H R I h
  refine Call_ (ld_blt I hg hm boot_enum (PyProof.Rows.callWith_type1 (thn (ha pos pins s σ H _ I h) fun us s1 ⟨vs, H1, I1, r1, q1⟩ => ?_) hs rfl))
  obtain ⟨a, rfl, ⟨xs, hq⟩, q⟩ := q1
  obtain ⟨u, rfl, ru⟩ := vals1 r1
  obtain rfl : u = Value.ref a := ru
  obtain ⟨its, rv, p, hz⟩ := I1.tuple hq
  refine call_enumerate_tuple (show s1.heap.IsTuple a its.toArray from p) fun h' he hit hsz hk => ?_
  refine wpAny_pyIter_enum he ?_
  have I2 : Inv X pins σ H1 { s1 with heap := h' } := I1.kept (t' := s1.toks) hk
  refine ⟨s1.heap.objs.size + 1, [s1.heap.objs.size + 1, s1.heap.objs.size], _, _, H1, rfl, I2, turn_enum (fun H xs => SqT X.K H a xs) (fun h its => h.IsTuple a its) (fun i h => h.IsTupleIter s1.heap.objs.size a i) (s1.heap.objs.size + 1) s1.heap.objs.size ?_ ?_ ?_ ?_, ⟨⟨_, he⟩, hit⟩, fun b hb => ?_, q⟩
  · rintro i h ⟨o, q1, q2, q3⟩
    exact ⟨o, q1, fun v z => by rw [q3] at z; cases z⟩
  · rintro i h h' ⟨o, q1, q2⟩ kp
    exact ⟨o, kp o q1, q2⟩
  · intro X' pins' σ' H' s' ys hK I' hq'
    rw [← hK] at hq'
    obtain ⟨its', rv', p', _⟩ := I'.tuple hq'
    exact ⟨⟨its', rv', p'⟩, fun zs hz => I'.tuple_inj (by rw [hK]; exact hz) hq'⟩
  · intro A items h i hh hL hI hE
    obtain ⟨old, hE⟩ := hE
    obtain ⟨ol, hol, hcl, _⟩ := id hL
    obtain ⟨oi, hoi, hci, _⟩ := id hI
    have hne : a ≠ s1.heap.objs.size := ne_cls hol hoi (by rw [hcl, hci]; decide)
    have hne2 : a ≠ s1.heap.objs.size + 1 := ne_cls hol hE (by rw [hcl]; show Value.type "tuple" ≠ Value.type "enumerate"; decide)
    exact ⟨_, _, WalksT.enumerateD (Draws_tuple (A := A.in1) hh s1.heap.objs.size a hne items) (s1.heap.objs.size + 1) (Nat.succ_ne_self _) (fun hm => (List.mem_cons.mp hm).elim (Nat.succ_ne_self _) fun hm => hne2 (List.mem_singleton.mp hm).symm) (by simp)⟩
  · rcases List.mem_cons.mp hb with rfl | hb
    · exact I1.fpOk (Nat.le_succ _) (I1.hok.fresh (Nat.le_succ _))
    · rw [List.mem_singleton.mp hb]; exact I1.fpOk (Nat.le_refl _) (I1.hok.fresh (Nat.le_refl _))
end
end L2
namespace L2
open PySem PySem.Spec PyProof.Rows

def Itd (a : Addr) (kvs : List (Key × V)) (o : Obj) : It :=
  ⟨fun i H => H a = some (.frz o (.dK kvs)) ∧ ∃ kv, kvs[i]? = some kv, fun i H x H' => ∃ T k v, H T = none ∧ x = .ref T ∧ kvs[i]? = some (k, v) ∧ H' = upd H T (.tup [kV k, v]), fun i H => H a = some (.frz o (.dK kvs)) ∧ kvs.length ≤ i⟩

theorem KV.get {kvs : List (Key × V)} {vs : List (Key × Value)} (r : KV kvs vs) : ∀ {i : Nat} {k : Key} {v : V}, kvs[i]? = some (k, v) → ∃ u, vs[i]? = some (k, u) ∧ RelV v u := by
  unfold KV at r
  induction r with
  | nil => intro i k v e; simp at e
  | @cons p q ps qs h t ih =>
    intro i k v e
    cases i with
    | zero =>
      simp at e
      subst e
      obtain ⟨q1, q2⟩ := q
      obtain ⟨h1, h2⟩ := h
      have h1 : k = q1 := h1
      subst h1
      exact ⟨q2, rfl, h2⟩
    | succ i => simpa using ih (by simpa using e)
theorem rel_of_kind {P : Program} {w : World} {k : Key} {u : Value} (h : (mixKind P w).is k u = true) : RelV (kV k) u := by
  rcases keyIs_shape (show keyIs k u = true from h) with ⟨i, t, rfl, rfl⟩ | ⟨x, t, rfl, rfl⟩
  · exact ⟨t, rfl⟩
  · exact ⟨t, rfl⟩
/-- a frozen dict, with its epoch -/
theorem frz_at {X : Cx} {pins : List (Addr × Obj)} {σ : St} {H : Hp} {s : Shared} {a : Addr} {o : Obj} {es : Array DictEntry} {ep : Nat} {kvs : List (Key × V)} (I : Inv X pins σ H s) (h : H a = some (.frz o (.dK kvs))) (hd : o.data = .dict es ep) :
    ∃ vs, KV kvs vs ∧ s.heap.DictAt (mixKind X.prog X.w) a vs ep ∧ s.heap.get? a = some o := by
  obtain ⟨h1, z, hs, vs, rv, o', es', ep', e, r⟩ := (show ObjOk X.prog X.w H s.heap a (.frz o (.dK kvs)) from I.hok a _ h)
  rw [h1] at e; cases e
  obtain ⟨r1, r2, r3⟩ := r
  rw [hd] at r2; cases r2
  exact ⟨vs, rv, ⟨o, es, h1, r1, hd, r3⟩, h1⟩

theorem turn_items {P : Program} {w : World} {K : PySem.W.Frag} {elts : List Expr} {k : Nat} {pos : Pos} (a it : Addr) (o : Obj) (es : Array DictEntry) (ep : Nat) (kvs : List (Key × V)) (hd : o.data = .dict es ep) :
    Turn P w K (.Tuple elts k pos) (Itd a kvs o) [it] it (fun i h => ∃ ok ov, IsItemIter h it a i kvs.length ep ok ov) where
  mem := by simp
  obj := fun i h st b hb => by
    obtain ⟨ok, ov, he⟩ := st
    rw [List.mem_singleton.mp hb]
    exact ⟨_, he, fun v z => nomatch z⟩
  keep := fun i h h' ⟨ok, ov, he⟩ kp => ⟨ok, ov, kp it (by simp) _ he⟩
  item := by
    intro X hP hw hK hc i pins s σ H E I hf st hg
    subst hP hw
    obtain ⟨hz, ⟨kk, v⟩, hx⟩ := hg
    obtain ⟨vs, rv, dd, ha⟩ := frz_at I hz hd
    obtain ⟨ok, ov, hit⟩ := st
    obtain ⟨u, hu, ru⟩ := rv.get hx
    have hl : kvs.length = vs.length := rv.length
    rw [hl] at hit
    refine wpAny_pyNext_items_item hit dd hu fun key h' hkey hout htup hsz hk => ⟨.ref s.heap.objs.size, rfl, ?_⟩
    refine wpAny_letOwnedTupleGo_items hout fun h'' hit'' hs'' => ?_
    have hitlt : it < s.heap.objs.size := Heap.lt_size hit
    have hne : s.heap.objs.size ≠ it := Nat.ne_of_gt hitlt
    refine ⟨.ref s.heap.objs.size, upd H s.heap.objs.size (.tup [kV kk, v]), ?_, rfl, ⟨_, kk, v, I.hok.fresh (Nat.le_refl _), rfl, hx, rfl⟩, ⟨key, u, by rw [hl]; exact hit''⟩, fun b hb => ?_⟩
    · refine I.turnLaid (s := s) (h' := h'') (t' := s.toks) hf (Nat.le_refl _) (fun b ob hb q => ?_) ⟨⟨by show 2 ≤ sizeLine; decide, _, (hs''.2 _ hne).trans htup, rfl⟩, [key, u], .cons (rel_of_kind hkey) (.cons ru .nil), ⟨_, (hs''.2 _ hne).trans htup, rfl, _, rfl⟩⟩
      have hbi : b ≠ it := fun z => hb (by simp [z])
      exact (hs''.2 b hbi).trans (hk b ob hbi q)
    · rw [List.mem_singleton.mp hb, upd_ne (Ne.symm hne)]
      exact (hf it (by simp)).1
  done := by
    intro X hP hw hK hc i pins s σ H E I hf st hs
    subst hP hw
    obtain ⟨hz, hle⟩ := hs
    obtain ⟨vs, rv, dd, ha⟩ := frz_at I hz hd
    obtain ⟨ok, ov, hit⟩ := st
    have hl : kvs.length = vs.length := rv.length
    rw [hl] at hit
    refine wpAny_pyNext_items_end (I.ok.hd hc) hit dd (List.getElem?_eq_none (by omega)) fun h' hk => ⟨rfl, ?_⟩
    exact I.turnedL (t' := s.toks) hf fun b ob hb q => hk b ob (fun z => hb (by simp [z])) q
  self := fun A i s Q E ⟨ok, ov, he⟩ h => PySem.W.kcp_self he h

section
variable {X : Cx} {elts : List Expr} {k : Nat} {tpos : Pos}
/-- a tracked dict becomes a frozen one -/
theorem Inv.freeze {pins : List (Addr × Obj)} {σ : St} {H : Hp} {s : Shared} {a : Addr} {kvs : List (Key × V)} (I : Inv X pins σ H s) (h : H a = some (.dK kvs)) :
    ∃ o es ep, o.data = .dict es ep ∧ Inv X pins σ (upd H a (.frz o (.dK kvs))) s := by
  obtain ⟨z, hs, vs, rv, o, es, ep, e, r1, r2, r3⟩ := (show ObjOk X.prog X.w H s.heap a (.dK kvs) from I.hok a _ h)
  refine ⟨o, es, ep, r2, ?_⟩
  have := I.write (x := a) (e := a) (o := .frz o (.dK kvs)) (h' := s.heap) (t' := s.toks) (by rw [h]; exact True.intro) (.inl rfl) (fun _ _ _ q => q) ⟨o, e⟩ ⟨e, z, hs, vs, rv, o, es, ep, e, r1, r2, r3⟩
  exact this
def iItems (tl : TE) : TI := fun σ H R => tl σ H fun x H1 => ∃ a kvs, x = .ref a ∧ Rd H1 a (.dK kvs) ∧ ∀ o H2, H2 a = some (.frz o (.dK kvs)) → (∀ b, b ≠ a → H2 b = H1 b) → R (Itd a kvs o) H2
theorem pi_items {d : Expr} {tl : TE} {apos cpos : Pos} (hl : PE X d tl) (hb : attributeBase d "items" X.env (eval d X.env) = eval d X.env := by rfl) (hline : (apos.endLine == cpos.line) = true := by rfl) :
    PI X (.Tuple elts k tpos) (.Call (.Attribute d "items" apos) [] [] cpos) (iItems tl) := by
  intro pins s σ H R I h
  have fin : ∀ {s1 : Shared} {H1 : Hp} {a : Addr} {kvs : List (Key × V)} {o : Obj} {es : Array DictEntry} {ep : Nat}, Inv X pins σ H1 s1 → H1 a = some (.frz o (.dK kvs)) → o.data = .dict es ep → R (Itd a kvs o) H1 →
      s1.TypeIs (.ref a) "dict" ∧ (∀ b, Value.ref a = .ref b → ∃ ob, s1.heap.get? b = some ob ∧ ob.dict = none) ∧
      wpAny (model X.prog X.w) X.A (callWith cpos (.builtin "dict.items") [.ref a] [] []) (fun v s1 => wpAny (model X.prog X.w) X.A (pyIter v) (PIE X pins σ (.Tuple elts k tpos) R) X.xe s1) X.xe s1 := by
    intro s1 H1 a kvs o es ep I1 hz hd q
    obtain ⟨vs, rv, dd, ha⟩ := frz_at I1 hz hd
    have hS : (a == sysModules) = false := by
      obtain ⟨_, _, hs, _⟩ := (show ObjOk X.prog X.w H1 s1.heap a (.frz o (.dK kvs)) from I1.hok a _ hz)
      exact hs
    have dd' := dd.dictOf
    refine ⟨dd'.typeIs, dd'.mapOf.noDict, ?_⟩
    refine method_meetsIn F.slot_dict_items F.entry_dict_items rfl (PySem.evalArgs_none ⟨rfl, dd'.typeIs, F.args_dict_items_1 _, _, meets_dict_items (mixKind X.prog X.w) a hS, ⟨vs, dd'⟩, ?_⟩)
    refine wpAny_pyIter_items (knd := mixKind X.prog X.w) (kvs := vs) (ep := ep) ⟨_, Heap.get?_push_size _ rfl, rfl, rfl⟩ (dd.push _) ?_
    have I2 := (I1.kept (h' := s1.heap.push { cls := .type "dict_items", data := .fields #[.ref a] }) (t' := s1.toks) fun b o e => Heap.get?_push_of_some _ e)
    have I3 := (I2.kept (h' := (s1.heap.push { cls := .type "dict_items", data := .fields #[.ref a] }).push { cls := .type "dict_itemiterator", data := .fields #[.none, .bool false, .ref a, .int 0 0, .int vs.length 0, .int ep 0, .none, .none] }) (t' := s1.toks) fun b o e => Heap.get?_push_of_some _ e)
    refine ⟨_, [_], _, _, H1, rfl, I3, turn_items a _ o es ep kvs hd, ⟨.none, .none, ?_⟩, fun b hb => ?_, q⟩
    · have hlen : kvs.length = vs.length := rv.length
      rw [hlen]
      exact Heap.get?_push_size _ rfl
    · rw [List.mem_singleton.mp hb]
      exact I2.fpOk (Nat.le_refl _) (I2.hok.fresh (Nat.le_refl _))
  refine wpAny_Call_method (T := "dict") (id := "dict.items") hb rfl hline F.plainAttrs_dict F.slot_dict_items F.type_dict_items (thn (hl pins s σ H _ I h) fun v s1 ⟨x, H1, I1, r1, a, kvs, e, rd, q⟩ => ?_)
  subst e
  obtain rfl : v = Value.ref a := r1
  rcases rd with hz | ⟨o, hz⟩
  · obtain ⟨o, es, ep, hd, I2⟩ := I1.freeze hz
    exact fin I2 upd_same hd (q o _ upd_same fun b hb => upd_ne hb)
  · obtain ⟨h1, z, hs, vs, rv, o', es, ep, e, r1, r2, r3⟩ := (show ObjOk X.prog X.w H1 s1.heap a (.frz o (.dK kvs)) from I1.hok a _ hz)
    rw [h1] at e; cases e
    exact fin I1 hz r2 (q o _ hz fun _ _ => rfl)
end

section
variable {X : Cx}
theorem call_all_bools (hc : X.calm = true) : CallR X (.builtin "all") (fun xs H Q => ∃ (p : Addr) (bs : List Bool), xs = [.ref p] ∧ SqL X.K H p (bs.map V.bl) ∧ Q (.bl (bs.all id)) H) := by
  intro pins s σ H xs us Q I r h
  obtain ⟨p, bs, rfl, hq, q⟩ := h
  obtain ⟨u, rfl, ru⟩ := vals1 r
  obtain rfl : u = Value.ref p := ru
  obtain ⟨its, rv, pl, hz⟩ := I.list hq
  have hL := pl.isList
  have hlt : p < s.heap.objs.size := by obtain ⟨o, ho, _⟩ := id hL; exact Heap.lt_size ho
  have hlen : its.length = bs.length := by rw [← rv.length]; simp
  refine call_all_walkS (wpAny_pyIter_list hL ⟨s.heap.objs.size, _, _, _, its.toArray.size, _, _, fun i => bs.getD i true, rfl, (Walks.list (A := X.A.in1) (I.ok.hd hc) s.heap.objs.size p (Nat.ne_of_lt hlt) its.toArray).toS, ⟨⟨_, Heap.get?_push_size _ rfl, rfl, rfl⟩, hL.push _⟩, ?_, fun s' hm => ?_⟩)
  · intro i v s2 Q2 E2 hP hQ
    have hv : its[i]? = some v := by simpa using hP
    have hi : i < bs.length := by rw [← hlen]; exact (List.getElem?_eq_some_iff.mp hv).1
    have hb : (bs.map V.bl)[i]? = some (.bl bs[i]) := by simp [hi]
    obtain ⟨u, hu, ru⟩ := rv.get hb
    rw [hv] at hu; cases hu
    obtain rfl : v = Value.bool bs[i] := ru
    have e : bs.getD i true = bs[i] := by simp [List.getD_eq_getElem?_getD, hi]
    simp only [e] at hQ
    exact wpAny_truthy_bool hQ
  · rw [Moved.eq_with hm]
    refine ⟨.bl _, H, I.kept (h' := s'.heap) (t' := s'.toks) fun b o e => hm.heap b o (fun z => ?_) (Heap.get?_push_of_some _ e), rfl, ?_⟩
    · exact absurd (Heap.lt_size e) (by rw [List.mem_singleton.mp z]; exact Nat.lt_irrefl _)
    · have e : (List.range its.toArray.size).all (fun i => bs.getD i true) = bs.all id := by
        have : its.toArray.size = bs.length := by simpa using hlen
        rw [this]
        apply Bool.eq_iff_iff.mpr
        simp only [List.all_eq_true, List.mem_range, id]
        constructor
        · intro h b hb
          obtain ⟨i, hi, rfl⟩ := List.mem_iff_getElem.mp hb
          have := h i hi
          simpa [List.getD_eq_getElem?_getD, hi] using this
        · intro h i hi
          have := h bs[i] (List.getElem_mem hi)
          simpa [List.getD_eq_getElem?_getD, hi] using this
      rw [e]; exact q
theorem call_range1 : CallR X (.type "range") (fun xs H Q => ∃ j : Int, xs = [.int j] ∧ ∀ r, H r = none → Q (.ref r) (upd H r (.rng 0 j))) := by
  intro pins s σ H xs us Q I r h
  obtain ⟨j, rfl, q⟩ := h
  obtain ⟨u, rfl, t, rfl⟩ := vals1 r
  refine call_range_1 ⟨.ref s.heap.objs.size, _, I.laid (a := s.heap.objs.size) (o := .rng 0 j) (fun _ _ e => Heap.get?_push_of_some _ e) (Nat.le_refl _) ⟨_, _, _, Heap.get?_push_size _ rfl⟩, rfl, q _ (I.hok.fresh (Nat.le_refl _))⟩
theorem call_list_rng (hc : X.calm = true) : CallR X (.type "list") (fun xs H Q => ∃ (r : Addr) (n : Nat), xs = [.ref r] ∧ H r = some (.rng 0 (n : Int)) ∧ n ≤ 1000 ∧ ∀ l, H l = none → Q (.ref l) (upd H l (.lst (nv (List.range n))))) := by
  intro pins s σ H xs us Q I r h
  obtain ⟨a, n, rfl, ha, hn, q⟩ := h
  obtain ⟨u, rfl, ru⟩ := vals1 r
  obtain rfl : u = Value.ref a := ru
  obtain ⟨t, u', v', e⟩ := (show ObjOk X.prog X.w H s.heap a (.rng 0 (n : Int)) from I.hok a _ ha)
  refine call_list_range (n := n) (I.ok.hd hc) (show IsRange s.heap a 0 (n : Int) 1 t u' v' from e) (small_one (by decide) (by decide) (by omega) (by omega)) (by rw [rangeSize_one]; split <;> omega) (by omega) fun h' tk acc c hk hacc hI => ?_
  refine ⟨.ref s.heap.objs.size, _, I.laid (a := s.heap.objs.size) (o := .lst (nv (List.range n))) (h' := h') (t' := tk) hk (Nat.le_refl _) ⟨?_, acc.toList, c, ?_, by simpa using hacc⟩, rfl, q _ (I.hok.fresh (Nat.le_refl _))⟩
  · rw [nv_len, List.length_range]; exact Nat.le_of_lt (small1000 hn)
  · obtain ⟨hsz, hi⟩ := hI
    have key : ∀ (m : Nat) (l : List Value), l.length = m → (∀ (j : Nat) (v : Value), l[j]? = some v → ∃ t, v = Value.int ((0 : Int) + (j : Nat) * 1) t) → Vals (nv (List.range m)) l := by
      intro m
      induction m with
      | zero => intro l hl _; rw [List.length_eq_zero_iff.mp hl]; exact .nil
      | succ m ih =>
        intro l hl hv
        have hne : l ≠ [] := by intro e; rw [e] at hl; simp at hl
        rw [← List.dropLast_concat_getLast hne, List.range_succ]
        have e1 : nv (List.range m ++ [m]) = nv (List.range m) ++ nv [m] := by simp [nv]
        rw [e1]
        refine Vals.append (ih l.dropLast (by simp [hl]) fun j v hj => ?_) (.cons ?_ .nil)
        · have hjl : j < l.dropLast.length := (List.getElem?_eq_some_iff.mp hj).1
          refine hv j v ?_
          rw [List.getElem?_dropLast] at hj
          split at hj
          · exact hj
          · cases hj
        · obtain ⟨t, e⟩ := hv m (l.getLast hne) (by rw [List.getLast_eq_getElem, ← List.getElem?_eq_getElem]; congr 1; omega)
          exact ⟨t, by rw [e]; congr 1; omega⟩
    exact key n acc.toList (by simpa using hsz) fun j v hj => hi j v (by simpa using hj)

/-- what may be sorted: a list, a tuple, the keys of a dict -/
def SortSrc (K : PySem.W.Frag) (H : Hp) (p : Addr) (r : List Nat) : Prop := SqL K H p (nv r) ∨ SqT K H p (nv r) ∨ ∃ kvs, H p = some (.dK kvs) ∧ kvs.map (·.1) = r.map fun (n : Nat) => Sum.inl (n : Int)
theorem ints_nv : ∀ {r : List Nat} {us : List Value}, Vals (nv r) us → IntsAre us (r.map fun (n : Nat) => (n : Int)) := fun {r us} h => intsAre_of (by rw [List.map_map]; exact h)
theorem nats_of {ms : List Int} {r : List Nat} (p : ms.Perm (r.map fun (n : Nat) => (n : Int))) (so : ms.Pairwise (· ≤ ·)) : ∃ S : List Nat, ms = S.map (fun (n : Nat) => (n : Int)) ∧ S.Perm r ∧ S.Pairwise (· ≤ ·) := by
  have hn : ∀ m ∈ ms, 0 ≤ m := fun m hm => by
    obtain ⟨n, _, rfl⟩ := List.mem_map.mp (p.mem_iff.mp hm)
    exact Int.natCast_nonneg n
  have e : ms = (ms.map Int.toNat).map fun (n : Nat) => (n : Int) := by
    rw [List.map_map]
    conv => lhs; rw [← List.map_id ms]
    exact List.map_congr_left fun m hm => by simp [Int.toNat_of_nonneg (hn m hm)]
  refine ⟨ms.map Int.toNat, e, ?_, ?_⟩
  · have := p.map Int.toNat
    rw [List.map_map] at this
    have e2 : r.map (Int.toNat ∘ fun (n : Nat) => (n : Int)) = r := by
      conv => rhs; rw [← List.map_id r]
      exact List.map_congr_left fun m _ => by simp
    rw [e2] at this; exact this
  · exact List.pairwise_map.mpr (so.imp_of_mem fun ha hb h => by have := hn _ ha; have := hn _ hb; omega)
theorem vals_of_ints {us : List Value} {S : List Nat} (h : IntsAre us (S.map fun (n : Nat) => (n : Int))) : Vals (nv S) us := by
  have := vals_ints h
  rw [List.map_map] at this
  exact this
def rSorted (K : PySem.W.Frag) : List V → Hp → VK → Prop := fun xs H Q => ∃ (p : Addr) (r : List Nat), xs = [.ref p] ∧ SortSrc K H p r ∧ r.length < 64 ∧ ∀ l S, H l = none → S.Perm r → S.Pairwise (· ≤ ·) → Q (.ref l) (upd H l (.lst (nv S)))
theorem call_sorted (hc : X.calm = true) : CallR X (.builtin "sorted") (rSorted X.K) := by
  intro pins s σ H xs us Q I rr h
  obtain ⟨p, r, rfl, src, h64, q⟩ := h
  obtain ⟨u, rfl, ru⟩ := vals1 rr
  obtain rfl : u = Value.ref p := ru
  have hh := I.ok.hd hc
  have fin : ∀ (vs : List Value), IntsAre vs (r.map fun (n : Nat) => (n : Int)) →
      (∀ (A : Around) (R : List Value → Shared → Prop), A.handled = none → (∀ vs ns' h' tk, IntsAre vs ns' → ns' = (r.map fun (n : Nat) => (n : Int)) → (∀ b o, s.heap.get? b = some o → h'.get? b = some o) → R vs { s with heap := h', toks := tk }) → wpAny (model X.prog X.w) A (collect (.ref p)) R X.xe s) →
      wpAny (model X.prog X.w) X.A (call (.builtin "sorted") [.ref p]) (EP X pins σ Q) X.xe s := by
    intro vs hI hcol
    refine sorted_by hI (by rw [hI.length, List.length_map]; exact h64) hcol hh fun h1 h2 tk e out ns' a1 a2 a3 hk ho hk2 => ?_
    obtain ⟨S, rfl, pS, sS⟩ := nats_of a2 a3
    have I1 : Inv X pins σ H { s with heap := h1, toks := tk } := I.kept hk
    have hlen : S.length < 64 := by rw [pS.length_eq]; exact h64
    refine ⟨.ref h1.objs.size, _, I1.laid (a := h1.objs.size) (o := .lst (nv S)) (h' := h2) (t' := tk) hk2 (Nat.le_refl _) ⟨?_, out.toList, e, vals_of_ints a1, by simpa using ho⟩, rfl, q _ S (I1.hok.fresh (Nat.le_refl _)) pS sS⟩
    rw [nv_len]; exact Nat.le_of_lt (small1000 (by omega))
  rcases src with hq | hq | ⟨kvs, hd, hkeys⟩
  · obtain ⟨its, rv, pl, hz⟩ := I.list hq
    refine fin its (ints_nv rv) fun A R hA hR => ?_
    refine collect_list pl.isList (hR its _ _ s.toks (ints_nv rv) rfl fun b o e => ?_) (by rw [← rv.length]; exact hz)
    exact (Heap.get?_update_other _ _ (Nat.ne_of_gt (Heap.lt_size e))).trans (Heap.get?_push_of_some _ e)
  · obtain ⟨its, rv, pl, hz⟩ := I.tuple hq
    refine fin its (ints_nv rv) fun A R hA hR => ?_
    exact collect_tup (show s.heap.IsTuple p its.toArray from pl) (by rw [← rv.length]; exact hz) fun h' hk => hR its _ _ s.toks (ints_nv rv) rfl hk
  · obtain ⟨z, hs, vs, rv, dd⟩ := dk_of I.hok hd
    obtain ⟨ep, da⟩ := dd.dictAt
    have hks : vs.map (·.1) = r.map fun (n : Nat) => Sum.inl (n : Int) := by rw [← rv.keys]; exact hkeys
    have key : ∀ (l : List Value), l.length = vs.length → (∀ (j : Nat) (v : Value), l[j]? = some v → ∃ k x, vs[j]? = some (k, x) ∧ (mixKind X.prog X.w).is k v = true) → IntsAre l (r.map fun (n : Nat) => (n : Int)) := by
      intro l hl hj
      refine ints_nv ?_
      have hlr : l.length = r.length := by rw [hl]; simpa using congrArg List.length hks
      have : ∀ (r' : List Nat) (l' : List Value), l'.length = r'.length → (∀ (j : Nat) (v : Value), l'[j]? = some v → ∃ n, r'[j]? = some n ∧ ∃ t, v = Value.int (n : Int) t) → Vals (nv r') l' := by
        intro r'
        induction r' with
        | nil => intro l' hl _; rw [List.length_eq_zero_iff.mp hl]; exact .nil
        | cons n r' ih =>
          intro l' hl hj
          cases l' with
          | nil => simp at hl
          | cons v l' =>
            obtain ⟨m, em, t, ev⟩ := hj 0 v rfl
            simp at em
            subst em
            exact .cons ⟨t, ev⟩ (ih l' (by simpa using hl) fun j v hv => by simpa using hj (j + 1) v (by simpa using hv))
      refine this r l hlr fun j v hv => ?_
      obtain ⟨k, x, e1, e2⟩ := hj j v hv
      have e3 : (r.map fun (n : Nat) => (Sum.inl (n : Int) : Key))[j]? = some k := by rw [← hks, List.getElem?_map, e1]; rfl
      rw [List.getElem?_map] at e3
      cases en : r[j]? with
      | none => rw [en] at e3; cases e3
      | some n =>
        rw [en] at e3
        have e4 : (Sum.inl (n : Int) : Key) = k := Option.some.inj e3
        subst e4
        obtain ⟨t, et⟩ := (show ∃ t, v = Value.int (n : Int) t from rel_of_kind e2)
        exact ⟨n, rfl, t, et⟩
    obtain ⟨l0, hl0, hj0⟩ : ∃ l : List Value, l.length = vs.length ∧ ∀ (j : Nat) (v : Value), l[j]? = some v → ∃ k x, vs[j]? = some (k, x) ∧ (mixKind X.prog X.w).is k v = true := by
      refine ⟨vs.map fun kv => match kv.1 with | Sum.inl i => Value.int i 0 | Sum.inr x => Value.str x 0, by simp, fun j v hv => ?_⟩
      rw [List.getElem?_map] at hv
      cases e : vs[j]? with
      | none => rw [e] at hv; cases hv
      | some kv =>
        rw [e] at hv
        obtain ⟨k, x⟩ := kv
        refine ⟨k, x, rfl, ?_⟩
        cases k with
        | inl i => cases hv; exact mixKind_int _ _ i 0
        | inr x => cases hv; exact mixKind_str _ _ x 0
    refine fin l0 (key l0 hl0 hj0) fun A R hA hR => ?_
    refine PySem.W.kdu_collect (PySem.W.kdl_dict (knd := mixKind X.prog X.w) (kvs := vs) (ep := ep) hs) hA da (by rw [← rv.length]; exact z) fun h' tk acc hk hacc => ?_
    exact hR acc.toList _ h' tk (key acc.toList (by simpa using hacc.1) fun j v hv => hacc.2 j v (by simpa using hv)) rfl hk

/-- set(row): a set of so many numbers -/
def dcount (r : List Nat) : Nat := (firstMet (fun i => (r.map fun (n : Nat) => (n : Int)).getD i 0) r.length).length
def rSet (K : PySem.W.Frag) : List V → Hp → VK → Prop := fun xs H Q => ∃ (p : Addr) (r : List Nat), xs = [.ref p] ∧ (SqL K H p (nv r) ∨ SqT K H p (nv r)) ∧ r.length ≤ 1000 ∧ ∀ d S, H d = none → Q (.ref d) (upd H d (.set S (dcount r)))
theorem call_set (hc : X.calm = true) : CallR X (.type "set") (rSet X.K) := by
  intro pins s σ H xs us Q I rr h
  obtain ⟨p, r, rfl, src, hl, q⟩ := h
  obtain ⟨u, rfl, ru⟩ := vals1 rr
  obtain rfl : u = Value.ref p := ru
  have hh := I.ok.hd hc
  have fin : ∀ {its : List Value} {h' : Heap} {tk : Nat}, its.length = r.length → h'.SetOf (intKind X.prog X.w) s.heap.objs.size (fun k' => (firstMet (fun i => (r.map fun (n : Nat) => (n : Int)).getD i 0) its.toArray.size).any (· == k')) (firstMet (fun i => (r.map fun (n : Nat) => (n : Int)).getD i 0) its.toArray.size).length →
      (∀ b o, b < s.heap.objs.size → s.heap.get? b = some o → h'.get? b = some o) → EP X pins σ Q (.ref s.heap.objs.size) { s with heap := h', toks := tk } := by
    intro its h' tk hlen hS hk
    have e : its.toArray.size = r.length := by simpa using hlen
    rw [e] at hS
    exact ⟨.ref s.heap.objs.size, _, I.laid (a := s.heap.objs.size) (o := .set _ (dcount r)) (fun b o z => hk b o (Heap.lt_size z) z) (Nat.le_refl _) hS, rfl, q _ _ (I.hok.fresh (Nat.le_refl _))⟩
  rcases src with hq | hq
  · obtain ⟨its, rv, pl, hz⟩ := I.list hq
    have hlen : its.length = r.length := by rw [← rv.length, nv_len]
    exact call_set_list hh pl.isList (by simpa using ints_nv rv) (by unfold scanBound; simp; omega) fun h' tk hS hk => fin hlen hS hk
  · obtain ⟨its, rv, pl, hz⟩ := I.tuple hq
    have hlen : its.length = r.length := by rw [← rv.length, nv_len]
    refine call_set_tup hh (show s.heap.IsTuple p its.toArray from pl) (by simpa using ints_nv rv) (by unfold scanBound; simp; omega) fun s' hs' => ?_
    obtain ⟨h', tk, rfl, hS, hk⟩ := hs'
    exact fin hlen hS hk
theorem dcount_nd {r : List Nat} (h : r.Nodup) : dcount r = r.length := by
  unfold dcount
  have key : ∀ n, n ≤ r.length → firstMet (fun i => (r.map fun (n : Nat) => (n : Int)).getD i 0) n = (r.take n).map fun (n : Nat) => (n : Int) := by
    intro n
    induction n with
    | zero => intro _; rfl
    | succ n ih =>
      intro hn
      have hlt : n < r.length := hn
      rw [firstMet_succ, ih (by omega), List.take_add_one, List.getElem?_eq_getElem hlt]
      have e : (r.map fun (n : Nat) => (n : Int)).getD n 0 = (r[n] : Int) := by simp [List.getD_eq_getElem?_getD, hlt]
      rw [e]
      unfold step_dedup
      rw [if_neg]
      · rw [List.map_append]; rfl
      · intro hc
        have hmem : r[n] ∈ r.take n := by
          rw [List.any_eq_true] at hc
          obtain ⟨z, hz, ez⟩ := hc
          obtain ⟨m, hm, rfl⟩ := List.mem_map.mp hz
          have : m = r[n] := by have := beq_iff_eq.mp ez; omega
          rw [← this]; exact hm
        obtain ⟨i, hi, ei⟩ := List.mem_iff_getElem.mp hmem
        have hi' : i < n := by simp at hi; omega
        have : r[i] = r[n] := by rw [← ei]; simp
        have hp := List.pairwise_iff_getElem.mp h i n (by omega) hlt hi'
        exact hp this
  rw [key r.length (Nat.le_refl _)]
  simp
theorem call_len_set' : CallR X (.builtin "len") (fun xs H Q => ∃ (p : Addr) (S : Int → Bool) (n : Nat), xs = [.ref p] ∧ H p = some (.set S n) ∧ Q (.int (n : Int)) H) := by
  intro pins s σ H xs us Q I r h
  obtain ⟨p, S, n, rfl, hp, q⟩ := h
  obtain ⟨u, rfl, ru⟩ := vals1 r
  obtain rfl : u = Value.ref p := ru
  obtain ⟨o, es, ep, t, h1, h2, h3, h4, h5, h6, h7, h8⟩ := (show ObjOk X.prog X.w H s.heap p (.set S n) from I.hok p _ hp)
  refine call_len_set h1 h2 h3 h7 (by unfold scanBound at h6; omega) ⟨.int (n : Int), H, I.tok _, ⟨_, by rw [h8]⟩, q⟩

/-- a, b = a list of two -/
def gLst2 (K : PySem.W.Frag) (t : TGs) : TG := fun v σ H Q => ∃ a x y, v = .ref a ∧ SqL K H a [x, y] ∧ t [x, y] σ H Q
theorem pg_lst2 {es : List Expr} {k : Nat} {pos : Pos} {t : TGs} (hc : X.calm = true) (h : PGs X es t)
    (hn : (assignEach es X.env).length = 2 := by rfl) (hst : (assignEach es X.env).findIdx? (·.1) = none := by rfl) : PG X (.Tuple es k pos) (gLst2 X.K t) := by
  intro pins s σ H v u Q I r hw
  obtain ⟨a, x, y, rfl, hq, hw⟩ := hw
  obtain rfl : u = Value.ref a := r
  obtain ⟨its, rv, pl, hz⟩ := I.list hq
  obtain ⟨v1, v2, rfl, r1, r2⟩ := vals2 rv
  rw [assign_Tuple]
  refine wpAny_bind (wpAny_standAt (unpack_two (I.ok.hd hc) pl.isList hn hst fun h' hk => ?_))
  exact h pins _ σ H [x, y] _ Q (I.kept (t' := s.toks) hk) (.cons r1 (.cons r2 .nil)) hw
end
end L2
namespace L2
open PySem PySem.Spec PyProof.Rows
/-- for i, x in enumerate(xs), xs left as it is -/
theorem for_en {sq : Hp → List V → Prop} {xs : List V} {g : TG} {tb : TS} {D : Ends} {σ : St} {H : Hp} (Pv : Nat → St → Hp → Prop) (h0 : Pv 0 σ H) (hl : ∀ i σ H, i ≤ xs.length → Pv i σ H → sq H xs)
    (hs : ∀ i x σ H T, xs[i]? = some x → H T = none → Pv i σ H → g (.ref T) σ (upd H T (tupE T [.int (i : Int), x])) fun σ2 H2 => tb { D with nx := Pv (i + 1), ct := Pv (i + 1), bk := D.nx } σ2 H2) (hd : ∀ σ H, Pv xs.length σ H → D.nx σ H) :
    ∃ W : Nat → Nat → St → Hp → Prop, (∃ m, W 0 m σ H) ∧ ∀ i m σ H, W i m σ H →
      ((Iten sq).stop i H ∧ D.nx σ H) ∨ ((Iten sq).go i H ∧ ∃ N : St → Hp → Prop, (∀ σ' H', N σ' H' → ∃ m', m' < m ∧ W (i + 1) m' σ' H') ∧ ∀ x H', (Iten sq).yld i H x H' → g x σ H' fun σ2 H2 => tb { D with nx := N, ct := N, bk := D.nx } σ2 H2) := by
  refine ⟨fun i m σ H => m = xs.length - i ∧ i ≤ xs.length ∧ Pv i σ H, ⟨xs.length, by simp, Nat.zero_le _, h0⟩, ?_⟩
  rintro i m σ H ⟨rfl, hi, p⟩
  have q := hl i σ H hi p
  by_cases hlt : i < xs.length
  · refine .inr ⟨⟨xs, xs[i], q, by simp [hlt]⟩, Pv (i + 1), fun σ' H' p' => ⟨xs.length - (i + 1), by omega, rfl, hlt, p'⟩, fun x H' y => ?_⟩
    obtain ⟨T, z, hT, rfl, hz, rfl⟩ := y
    exact hs i z σ H T (hz xs q) hT p
  · have e : i = xs.length := by omega
    subst e
    exact .inl ⟨⟨xs, q, rfl⟩, hd σ H p⟩
/-- for k, v in d.items() -/
theorem for_items {a : Addr} {kvs : List (Key × V)} {o : Obj} {g : TG} {tb : TS} {D : Ends} {σ : St} {H : Hp} (Pv : Nat → St → Hp → Prop) (h0 : Pv 0 σ H) (hl : ∀ i σ H, i ≤ kvs.length → Pv i σ H → H a = some (.frz o (.dK kvs)))
    (hs : ∀ i k v σ H T, kvs[i]? = some (k, v) → H T = none → Pv i σ H → g (.ref T) σ (upd H T (.tup [kV k, v])) fun σ2 H2 => tb { D with nx := Pv (i + 1), ct := Pv (i + 1), bk := D.nx } σ2 H2) (hd : ∀ σ H, Pv kvs.length σ H → D.nx σ H) :
    ∃ W : Nat → Nat → St → Hp → Prop, (∃ m, W 0 m σ H) ∧ ∀ i m σ H, W i m σ H →
      ((Itd a kvs o).stop i H ∧ D.nx σ H) ∨ ((Itd a kvs o).go i H ∧ ∃ N : St → Hp → Prop, (∀ σ' H', N σ' H' → ∃ m', m' < m ∧ W (i + 1) m' σ' H') ∧ ∀ x H', (Itd a kvs o).yld i H x H' → g x σ H' fun σ2 H2 => tb { D with nx := N, ct := N, bk := D.nx } σ2 H2) := by
  refine ⟨fun i m σ H => m = kvs.length - i ∧ i ≤ kvs.length ∧ Pv i σ H, ⟨kvs.length, by simp, Nat.zero_le _, h0⟩, ?_⟩
  rintro i m σ H ⟨rfl, hi, p⟩
  have q := hl i σ H hi p
  by_cases hlt : i < kvs.length
  · refine .inr ⟨⟨q, kvs[i], by simp [hlt]⟩, Pv (i + 1), fun σ' H' p' => ⟨kvs.length - (i + 1), by omega, rfl, hlt, p'⟩, fun x H' y => ?_⟩
    obtain ⟨T, k, v, hT, rfl, hz, rfl⟩ := y
    exact hs i k v σ H T hz hT p
  · have e : i = kvs.length := by omega
    subst e
    exact .inl ⟨⟨q, Nat.le_refl _⟩, hd σ H p⟩
/-- behind an element of a comprehension: n in all, ys the list that comes -/
def CPost (n : Nat) (ys : List V) (Pv : Nat → St → Hp → Prop) (d : Addr) (i : Nat) (σ3 : St) (y : V) (H4 : Hp) : Prop :=
  ∃ xs, H4 d = some (.lst xs) ∧ xs.length < sizeLine ∧ ∃ m', m' < n - i ∧ m' = n - (i + 1) ∧ i + 1 ≤ n ∧ Pv (i + 1) σ3 (upd H4 d (.lst (xs ++ [y]))) ∧ (upd H4 d (.lst (xs ++ [y]))) d = some (.lst (ys.take (i + 1)))
theorem cpost {n : Nat} {ys : List V} {Pv : Nat → St → Hp → Prop} {d : Addr} {i : Nat} {σ3 : St} {y : V} {H4 : Hp} (hi : i < n) (hn : n ≤ 1000) (hd : H4 d = some (.lst (ys.take i))) (hy : ys[i]? = some y) (hp : Pv (i + 1) σ3 (upd H4 d (.lst (ys.take (i + 1))))) :
    CPost n ys Pv d i σ3 y H4 := by
  have e : ys.take (i + 1) = ys.take i ++ [y] := by rw [List.take_add_one, hy]; rfl
  refine ⟨_, hd, ?_, n - (i + 1), by omega, rfl, hi, by rw [← e]; exact hp, by rw [upd_same, e]⟩
  have : (ys.take i).length ≤ i := by rw [List.length_take]; exact Nat.min_le_left _ _
  exact small1000 (by omega)
theorem comp_by {J : It} {g : TG} {te : TE} {d : Addr} {σ0 : St} {H1 : Hp} {Q : Addr → Hp → Prop} (n : Nat) (ys : List V) (hy : ys.length = n) (Pv : Nat → St → Hp → Prop) (h0 : Pv 0 σ0 (upd H1 d (.lst [])))
    (go : ∀ i σ H, i < n → Pv i σ H → H d = some (.lst (ys.take i)) → J.go i H ∧ ∀ x H2, J.yld i H x H2 → g x σ H2 fun σ3 H3 => te σ3 H3 fun y H4 => CPost n ys Pv d i σ3 y H4)
    (stop : ∀ σ H, Pv n σ H → H d = some (.lst ys) → J.stop n H ∧ Q d H) :
    ∃ W : Nat → Nat → St → Hp → Prop, (∃ m, W 0 m σ0 (upd H1 d (.lst []))) ∧ ∀ i m σ' H', W i m σ' H' →
      (J.stop i H' ∧ Q d H') ∨ (J.go i H' ∧ ∀ x H2, J.yld i H' x H2 → g x σ' H2 fun σ3 H3 => te σ3 H3 fun y H4 => ∃ xs, H4 d = some (.lst xs) ∧ xs.length < sizeLine ∧ ∃ m', m' < m ∧ W (i + 1) m' σ3 (upd H4 d (.lst (xs ++ [y])))) := by
  refine ⟨fun i m σ H => m = n - i ∧ i ≤ n ∧ Pv i σ H ∧ H d = some (.lst (ys.take i)), ⟨n, by simp, Nat.zero_le _, h0, upd_same⟩, ?_⟩
  rintro i m σ H ⟨rfl, hi, p, hd⟩
  by_cases hlt : i < n
  · exact .inr (go i σ H hlt p hd)
  · have e : i = n := by omega
    subst e
    rw [List.take_of_length_le (by omega)] at hd
    exact .inl (stop σ H p hd)
end L2
namespace Sq

theorem sub_len {α : Type} [DecidableEq α] : ∀ (l l' : List α), l.Nodup → (∀ x ∈ l, x ∈ l') → l.length ≤ l'.length
  | [], _, _, _ => Nat.zero_le _
  | a :: l, l', nd, h => by
    have nd' := List.nodup_cons.mp nd
    have ha : a ∈ l' := h a List.mem_cons_self
    have := sub_len l (l'.erase a) nd'.2 fun x hx => by
      have hne : x ≠ a := fun e => nd'.1 (e ▸ hx)
      exact (List.mem_erase_of_ne hne).mpr (h x (List.mem_cons_of_mem _ hx))
    rw [List.length_erase_of_mem ha] at this
    have := List.length_pos_of_mem ha
    simp only [List.length_cons]; omega

theorem full {α : Type} [DecidableEq α] {l l' : List α} (nd : l.Nodup) (h : ∀ x ∈ l, x ∈ l') (hl : l'.length ≤ l.length) : ∀ x ∈ l', x ∈ l := fun x hx => by
  refine Classical.byContradiction fun hn => ?_
  have h1 : (x :: l).Nodup := List.nodup_cons.mpr ⟨hn, nd⟩
  have h2 := sub_len (x :: l) l' h1 fun y hy => by
    rcases List.mem_cons.mp hy with rfl | hy
    · exact hx
    · exact h y hy
  simp only [List.length_cons] at h2; omega

theorem nd_inj {α : Type} {l : List α} (nd : l.Nodup) {i j : Nat} (hi : i < l.length) (hj : j < l.length) (e : l[i] = l[j]) : i = j := by
  have h := List.pairwise_iff_getElem.mp nd
  rcases Nat.lt_trichotomy i j with c | c | c
  · exact absurd e (h i j hi hj c)
  · exact c
  · exact absurd e.symm (h j i hj hi c)

/-- a row of n squares: each stands once -/
structure Row (n : Nat) (r : List Nat) : Prop where
  len : r.length = n
  nd : r.Nodup
  lt : ∀ x ∈ r, x < n

abbrev nx (r : List Nat) (x : Nat) : Nat := r.getD x 0

section
variable {n : Nat} {r : List Nat}
theorem Row.get (h : Row n r) {i : Nat} (hi : i < n) : r[i]? = some (nx r i) := by
  have : i < r.length := by rw [h.len]; exact hi
  simp [nx, List.getD, List.getElem?_eq_getElem this]
theorem Row.mem (h : Row n r) {i : Nat} (hi : i < n) : nx r i ∈ r := List.mem_of_getElem? (h.get hi)
theorem Row.nlt (h : Row n r) {i : Nat} (hi : i < n) : nx r i < n := h.lt _ (h.mem hi)
theorem Row.has (h : Row n r) {x : Nat} (hx : x < n) : x ∈ r := by
  refine full h.nd (l' := List.range n) (fun y hy => List.mem_range.mpr (h.lt y hy)) (by simp [h.len]) x (List.mem_range.mpr hx)
theorem Row.inj (h : Row n r) {i j : Nat} (hi : i < n) (hj : j < n) (e : nx r i = nx r j) : i = j := by
  have h1 : i < r.length := by rw [h.len]; exact hi
  have h2 : j < r.length := by rw [h.len]; exact hj
  have e' : r[i] = r[j] := by simpa [nx, List.getD, List.getElem?_eq_getElem h1, List.getElem?_eq_getElem h2] using e
  exact nd_inj h.nd h1 h2 e'
theorem Row.onto (h : Row n r) {x : Nat} (hx : x < n) : ∃ i, i < n ∧ nx r i = x := by
  obtain ⟨i, hi, e⟩ := List.mem_iff_getElem.mp (h.has hx)
  exact ⟨i, by rw [← h.len]; exact hi, by simp [nx, List.getD, List.getElem?_eq_getElem hi, e]⟩
theorem Row.idx_lt (h : Row n r) {x : Nat} (hx : x < n) : r.idxOf x < n := by
  have := List.idxOf_lt_length_of_mem (h.has hx)
  rwa [h.len] at this
theorem Row.nx_idx (h : Row n r) {x : Nat} (hx : x < n) : nx r (r.idxOf x) = x := by
  have h1 := List.idxOf_lt_length_of_mem (h.has hx)
  simp [nx, List.getD, List.getElem?_eq_getElem h1]
theorem Row.idx_nx (h : Row n r) {i : Nat} (hi : i < n) : r.idxOf (nx r i) = i :=
  h.inj (h.idx_lt (h.nlt hi)) hi (h.nx_idx (h.nlt hi))
theorem Row.of_perm {l : List Nat} (p : l.Perm (List.range n)) : Row n l where
  len := by simpa using p.length_eq
  nd := p.nodup_iff.mpr List.nodup_range
  lt := fun x hx => List.mem_range.mp (p.mem_iff.mp hx)
theorem Row.perm (h : Row n r) : r.Perm (List.range n) := by
  refine (List.perm_ext_iff_of_nodup h.nd List.nodup_range).mpr fun x => ⟨fun hx => List.mem_range.mpr (h.lt x hx), fun hx => h.has (List.mem_range.mp hx)⟩
end

/-- the row turned round -/
def back (r : List Nat) : List Nat := (List.range r.length).map fun x => r.idxOf x
theorem back_len (r : List Nat) : (back r).length = r.length := by simp [back]
theorem back_nx {n : Nat} {r : List Nat} (h : Row n r) {x : Nat} (hx : x < n) : nx (back r) x = r.idxOf x := by
  have : x < r.length := by rw [h.len]; exact hx
  simp [nx, back, List.getD, this]
theorem Row.back {n : Nat} {r : List Nat} (h : Row n r) : Row n (back r) where
  len := by rw [back_len, h.len]
  nd := by
    refine List.pairwise_map.mpr (List.Pairwise.imp_of_mem (fun {a b} ha hb hne e => hne ?_) (List.nodup_range (n := r.length)))
    rw [h.len] at ha hb
    have ha := List.mem_range.mp ha
    have hb := List.mem_range.mp hb
    rw [← h.nx_idx ha, e, h.nx_idx hb]
  lt := fun x hx => by
    obtain ⟨y, hy, rfl⟩ := List.mem_map.mp hx
    rw [h.len] at hy
    exact h.idx_lt (List.mem_range.mp hy)

/-- a set of squares that right and up do not leave -/
def Shut (n : Nat) (r u : List Nat) (T : Nat → Prop) : Prop := ∀ x, x < n → T x → T (nx r x) ∧ T (nx u x)

/-- a sheet -/
structure Sheet (n : Nat) (r u : List Nat) : Prop where
  pos : 1 ≤ n
  most : n ≤ 36
  row : Row n r
  col : Row n u
  conn : ∀ T : Nat → Prop, T 0 → Shut n r u T → ∀ x, x < n → T x

theorem pop_perm {n : Nat} {line left : List Nat} {k : Nat} {y : Nat} (p : (line ++ left).Perm (List.range n)) (e : left[k]? = some y) :
    ((line ++ [y]) ++ left.eraseIdx k).Perm (List.range n) := by
  refine List.Perm.trans ?_ p
  rw [List.append_assoc]
  refine List.Perm.append_left _ ?_
  have hk : k < left.length := (List.getElem?_eq_some_iff.mp e).1
  have hy : left[k] = y := (List.getElem?_eq_some_iff.mp e).2
  have h1 : left = left.take k ++ left[k] :: left.drop (k + 1) := by
    rw [← List.drop_eq_getElem_cons hk, List.take_append_drop]
  rw [List.eraseIdx_eq_take_drop_succ]
  conv => rhs; rw [h1, hy]
  exact (List.perm_middle (a := y) (l₁ := left.take k) (l₂ := left.drop (k + 1))).symm

structure Met (n : Nat) (r u : List Nat) (first : Nat) (M : List Nat) (k : Nat) : Prop where
  nd : M.Nodup
  hd : first ∈ M
  lt : ∀ x ∈ M, x < n
  kle : k ≤ M.length
  shut : ∀ i x, i < k → M[i]? = some x → nx r x ∈ M ∧ nx u x ∈ M
  least : ∀ T : Nat → Prop, T first → Shut n r u T → ∀ x ∈ M, T x
theorem Met.len {n : Nat} {r u : List Nat} {first : Nat} {M : List Nat} {k : Nat} (h : Met n r u first M k) : M.length ≤ n := by
  have := sub_len M (List.range n) h.nd fun x hx => List.mem_range.mpr (h.lt x hx)
  simpa using this
theorem Met.start {n : Nat} {r u : List Nat} {first : Nat} (h : first < n) : Met n r u first [first] 0 where
  nd := by simp
  hd := by simp
  lt := fun x hx => by rw [List.mem_singleton.mp hx]; exact h
  kle := Nat.zero_le _
  shut := fun i x hi => absurd hi (Nat.not_lt_zero _)
  least := fun T h0 _ x hx => by rw [List.mem_singleton.mp hx]; exact h0
/-- put at the end where it is not there yet -/
def put (M : List Nat) (y : Nat) : List Nat := if y ∈ M then M else M ++ [y]
theorem mem_put {M : List Nat} {y x : Nat} : x ∈ put M y ↔ x ∈ M ∨ x = y := by
  unfold put; split
  · rename_i h; exact ⟨.inl, fun q => q.elim id fun e => e ▸ h⟩
  · simp
theorem put_get {M : List Nat} {y x : Nat} {i : Nat} (h : M[i]? = some x) : (put M y)[i]? = some x := by
  unfold put; split
  · exact h
  · rw [List.getElem?_append_left (List.getElem?_eq_some_iff.mp h).1]; exact h
theorem put_len {M : List Nat} {y : Nat} : M.length ≤ (put M y).length := by
  unfold put; split <;> simp
theorem put_nd {M : List Nat} {y : Nat} (h : M.Nodup) : (put M y).Nodup := by
  unfold put; split
  · exact h
  · rename_i hy; exact List.nodup_append.mpr ⟨h, by simp, fun a ha b hb e => hy (by rw [List.mem_singleton.mp hb] at e; exact e ▸ ha)⟩
theorem Met.step {n : Nat} {r u : List Nat} {first : Nat} {M : List Nat} {k x : Nat} (h : Met n r u first M k) (hr : Row n r) (hu : Row n u) (hx : M[k]? = some x) :
    Met n r u first (put (put M (nx r x)) (nx u x)) (k + 1) where
  nd := put_nd (put_nd h.nd)
  hd := mem_put.mpr (.inl (mem_put.mpr (.inl h.hd)))
  lt := fun y hy => by
    have hxn := h.lt x (List.mem_of_getElem? hx)
    rcases mem_put.mp hy with hy | rfl
    · rcases mem_put.mp hy with hy | rfl
      · exact h.lt y hy
      · exact hr.nlt hxn
    · exact hu.nlt hxn
  kle := by
    have := (List.getElem?_eq_some_iff.mp hx).1
    have h1 := put_len (M := M) (y := nx r x)
    have h2 := put_len (M := put M (nx r x)) (y := nx u x)
    omega
  shut := fun i y hi hy => by
    have hk := (List.getElem?_eq_some_iff.mp hx).1
    have hi' : i < M.length := by omega
    have e : M[i]? = some M[i] := List.getElem?_eq_getElem hi'
    have e2 := put_get (y := nx u x) (put_get (y := nx r x) e)
    rw [hy] at e2
    have e3 : y = M[i] := Option.some.inj e2
    rw [← e3] at e
    rcases Nat.lt_or_ge i k with hlt | hge
    · obtain ⟨a, b⟩ := h.shut i y hlt e
      exact ⟨mem_put.mpr (.inl (mem_put.mpr (.inl a))), mem_put.mpr (.inl (mem_put.mpr (.inl b)))⟩
    · have : i = k := by omega
      subst this
      rw [hx] at e
      cases e
      exact ⟨mem_put.mpr (.inl (mem_put.mpr (.inr rfl))), mem_put.mpr (.inr rfl)⟩
  least := fun T h0 hs y hy => by
    have hxM := List.mem_of_getElem? hx
    have hxn := h.lt x hxM
    have hT := h.least T h0 hs x hxM
    rcases mem_put.mp hy with hy | rfl
    · rcases mem_put.mp hy with hy | rfl
      · exact h.least T h0 hs y hy
      · exact (hs x hxn hT).1
    · exact (hs x hxn hT).2
/-- all that is met -/
structure MetAll (n : Nat) (r u : List Nat) (first : Nat) (M : List Nat) : Prop where
  nd : M.Nodup
  hd : first ∈ M
  lt : ∀ x ∈ M, x < n
  shut : ∀ x ∈ M, nx r x ∈ M ∧ nx u x ∈ M
  least : ∀ T : Nat → Prop, T first → Shut n r u T → ∀ x ∈ M, T x
theorem Met.all {n : Nat} {r u : List Nat} {first : Nat} {M : List Nat} {k : Nat} (h : Met n r u first M k) (hk : M.length ≤ k) : MetAll n r u first M where
  nd := h.nd
  hd := h.hd
  lt := h.lt
  shut := fun x hx => by
    obtain ⟨i, hi, e⟩ := List.mem_iff_getElem.mp hx
    exact h.shut i x (by omega) (by rw [List.getElem?_eq_getElem hi, e])
  least := h.least
theorem MetAll.perm {n : Nat} {r u : List Nat} {first : Nat} {M S : List Nat} (h : MetAll n r u first M) (p : S.Perm M) : MetAll n r u first S where
  nd := p.nodup_iff.mpr h.nd
  hd := p.mem_iff.mpr h.hd
  lt := fun x hx => h.lt x (p.mem_iff.mp hx)
  shut := fun x hx => ⟨p.mem_iff.mpr (h.shut x (p.mem_iff.mp hx)).1, p.mem_iff.mpr (h.shut x (p.mem_iff.mp hx)).2⟩
  least := fun T h0 hs x hx => h.least T h0 hs x (p.mem_iff.mp hx)
def among (r S : List Nat) : List Nat := S.map fun x => S.idxOf (nx r x)
theorem among_len (r S : List Nat) : (among r S).length = S.length := by simp [among]
theorem among_nx {r S : List Nat} {i : Nat} {x : Nat} (h : S[i]? = some x) : nx (among r S) i = S.idxOf (nx r x) := by
  simp [nx, among, List.getD, h]
theorem idx_get {S : List Nat} (nd : S.Nodup) {i x : Nat} (h : S[i]? = some x) : S.idxOf x = i := by
  obtain ⟨hi, e⟩ := List.getElem?_eq_some_iff.mp h
  have hm : x ∈ S := List.mem_of_getElem? h
  have h1 := List.idxOf_lt_length_of_mem hm
  have e1 : S[S.idxOf x] = x := List.getElem_idxOf h1
  exact nd_inj nd h1 hi (e1.trans e.symm)
theorem get_idx {S : List Nat} {x : Nat} (h : x ∈ S) : S[S.idxOf x]? = some x := by
  have h1 := List.idxOf_lt_length_of_mem h
  rw [List.getElem?_eq_getElem h1, List.getElem_idxOf h1]
theorem among_row {n : Nat} {r S : List Nat} (hr : Row n r) (nd : S.Nodup) (lt : ∀ x ∈ S, x < n) (cl : ∀ x ∈ S, nx r x ∈ S) : Row S.length (among r S) where
  len := among_len r S
  nd := by
    refine List.pairwise_map.mpr (List.Pairwise.imp_of_mem (fun {a b} ha hb hne e => hne ?_) nd)
    have h1 := get_idx (cl a ha)
    rw [e, get_idx (cl b hb)] at h1
    exact hr.inj (lt a ha) (lt b hb) (Option.some.inj h1).symm
  lt := fun x hx => by
    obtain ⟨y, hy, rfl⟩ := List.mem_map.mp hx
    exact List.idxOf_lt_length_of_mem (cl y hy)
theorem among_sheet {n : Nat} {r u S : List Nat} (hn : n ≤ 36) (hr : Row n r) (hu : Row n u) (h : MetAll n r u 0 S) (so : S.Pairwise (· ≤ ·)) : Sheet S.length (among r S) (among u S) where
  pos := List.length_pos_of_mem h.hd
  most := by
    have := sub_len S (List.range n) h.nd fun x hx => List.mem_range.mpr (h.lt x hx)
    simp only [List.length_range] at this; omega
  row := among_row hr h.nd h.lt fun x hx => (h.shut x hx).1
  col := among_row hu h.nd h.lt fun x hx => (h.shut x hx).2
  conn := fun T h0 hs i hi => by
    have z : S[0]? = some 0 := by
      cases S with
      | nil => exact absurd h.hd (by simp)
      | cons a S =>
        rcases List.mem_cons.mp h.hd with e | hm
        · simp [← e]
        · have := (List.pairwise_cons.mp so).1 0 hm
          have : a = 0 := by omega
          simp [this]
    have key := h.least (fun x => x ∈ S ∧ T (S.idxOf x)) ⟨h.hd, by rw [idx_get h.nd z]; exact h0⟩ fun x _ ⟨hx, t⟩ => by
      have hlt := List.idxOf_lt_length_of_mem hx
      have := hs (S.idxOf x) hlt t
      rw [among_nx (get_idx hx), among_nx (get_idx hx)] at this
      exact ⟨⟨(h.shut x hx).1, this.1⟩, (h.shut x hx).2, this.2⟩
    have e : S[i]? = some S[i] := List.getElem?_eq_getElem hi
    have := (key S[i] (List.getElem_mem hi)).2
    rwa [idx_get h.nd e] at this

theorem sorted_unique : ∀ {l l' : List Nat}, l.Perm l' → l.Pairwise (· ≤ ·) → l'.Pairwise (· ≤ ·) → l = l'
  | [], l', p, _, _ => (List.nil_perm.mp p).symm
  | a :: l, [], p, _, _ => absurd p.length_eq (by simp)
  | a :: l, b :: l', p, h, h' => by
    have ha := List.pairwise_cons.mp h
    have hb := List.pairwise_cons.mp h'
    have e : a = b := by
      have h1 : a ∈ b :: l' := p.mem_iff.mp List.mem_cons_self
      have h2 : b ∈ a :: l := p.mem_iff.mpr List.mem_cons_self
      rcases List.mem_cons.mp h1 with e | h1
      · exact e
      · rcases List.mem_cons.mp h2 with e | h2
        · exact e.symm
        · have := hb.1 a h1
          have := ha.1 b h2
          omega
    subst e
    rw [sorted_unique (List.Perm.cons_inv p) ha.2 hb.2]
theorem range_sorted (n : Nat) : (List.range n).Pairwise (· ≤ ·) := List.Pairwise.imp (fun h => Nat.le_of_lt h) List.pairwise_lt_range
theorem Row.sorted {n : Nat} {r S : List Nat} (h : Row n r) (p : S.Perm r) (so : S.Pairwise (· ≤ ·)) : S = List.range n :=
  sorted_unique (p.trans h.perm) so (range_sorted n)
end Sq
namespace Sq
/-- the four rows: right, left, up, down -/
def rw4 (r u : List Nat) (c : Nat) : List Nat := match c with
  | 0 => r
  | 1 => back r
  | 2 => u
  | _ => back u
theorem rw4_row {n : Nat} {r u : List Nat} (hr : Row n r) (hu : Row n u) (c : Nat) : Row n (rw4 r u c) := by
  unfold rw4; split
  · exact hr
  · exact hr.back
  · exact hu
  · exact hu.back
/-- where a path leads -/
def go (r u : List Nat) (x : Nat) (p : List Nat) : Nat := p.foldl (fun x c => nx (rw4 r u c) x) x
theorem go_snoc (r u : List Nat) (x : Nat) (p : List Nat) (c : Nat) : go r u x (p ++ [c]) = nx (rw4 r u c) (go r u x p) := by simp [go]

/-- F: the squares found; P: their paths; the first k of F are through, of the next one the first j letters -/
structure Pth (n : Nat) (r u : List Nat) (first : Nat) (F : List Nat) (P : List (List Nat)) (k j : Nat) : Prop where
  nd : F.Nodup
  hd : first ∈ F
  lt : ∀ x ∈ F, x < n
  len : P.length = F.length
  kle : k ≤ F.length
  shut : ∀ i x, i < k → F[i]? = some x → ∀ c, c < 4 → nx (rw4 r u c) x ∈ F
  part : ∀ x, F[k]? = some x → ∀ c, c < j → nx (rw4 r u c) x ∈ F
  jz : j = 0 ∨ k < F.length
  ok : ∀ i x p, F[i]? = some x → P[i]? = some p → go r u first p = x ∧ p.length ≤ i ∧ ∀ c ∈ p, c < 4
variable {n : Nat} {r u : List Nat} {first : Nat} {F : List Nat} {P : List (List Nat)} {k j : Nat}
theorem Pth.start (h : first < n) : Pth n r u first [first] [[]] 0 0 where
  nd := by simp
  hd := by simp
  lt := fun x hx => by rw [List.mem_singleton.mp hx]; exact h
  len := rfl
  kle := Nat.zero_le _
  shut := fun i x hi => absurd hi (Nat.not_lt_zero _)
  part := fun x _ c hc => absurd hc (Nat.not_lt_zero _)
  jz := .inl rfl
  ok := fun i x p hx hp => by
    cases i with
    | zero => simp at hx hp; subst hx hp; simp [go]
    | succ i => simp at hx
theorem Pth.flen (h : Pth n r u first F P k j) : F.length ≤ n := by
  have := sub_len F (List.range n) h.nd fun x hx => List.mem_range.mpr (h.lt x hx)
  simpa using this
/-- the letter leads to a square that is there -/
theorem Pth.old {x : Nat} (h : Pth n r u first F P k j) (hx : F[k]? = some x) (hm : nx (rw4 r u j) x ∈ F) : Pth n r u first F P k (j + 1) :=
  { h with
    part := fun y hy c hc => by
      rw [hx] at hy; cases hy
      rcases Nat.lt_or_ge c j with q | q
      · exact h.part x hx c q
      · have : c = j := by omega
        subst this; exact hm
    jz := .inr (List.getElem?_eq_some_iff.mp hx).1 }
/-- the letter leads to a new square -/
theorem Pth.new {x : Nat} {p : List Nat} (h : Pth n r u first F P k j) (hr : Row n r) (hu : Row n u) (hj : j < 4) (hx : F[k]? = some x) (hp : P[k]? = some p) (hm : nx (rw4 r u j) x ∉ F) :
    Pth n r u first (F ++ [nx (rw4 r u j) x]) (P ++ [p ++ [j]]) k (j + 1) := by
  have hk := (List.getElem?_eq_some_iff.mp hx).1
  have old : ∀ i y, i ≤ k → (F ++ [nx (rw4 r u j) x])[i]? = some y → F[i]? = some y := fun i y hi hy => by
    rwa [List.getElem?_append_left (by omega)] at hy
  refine ⟨?_, by simp [h.hd], ?_, by simp [h.len], by simp; omega, ?_, ?_, .inr (by simp; omega), ?_⟩
  · exact List.nodup_append.mpr ⟨h.nd, by simp, fun a ha b hb e => hm (by rw [List.mem_singleton.mp hb] at e; exact e ▸ ha)⟩
  · intro y hy
    rcases List.mem_append.mp hy with hy | hy
    · exact h.lt y hy
    · rw [List.mem_singleton.mp hy]
      exact (rw4_row hr hu j).nlt (h.lt x (List.mem_of_getElem? hx))
  · intro i y hi hy c hc
    exact List.mem_append_left _ (h.shut i y hi (old i y (by omega) hy) c hc)
  · intro y hy c hc
    have hy' := old k y (Nat.le_refl _) hy
    rw [hx] at hy'; cases hy'
    rcases Nat.lt_or_ge c j with q | q
    · exact List.mem_append_left _ (h.part x hx c q)
    · have : c = j := by omega
      subst this; simp
  · intro i y q hy hq
    rcases Nat.lt_trichotomy i F.length with c | c | c
    · rw [List.getElem?_append_left c] at hy
      rw [List.getElem?_append_left (by rw [h.len]; exact c)] at hq
      exact h.ok i y q hy hq
    · subst c
      rw [List.getElem?_append_right (Nat.le_refl _)] at hy
      rw [List.getElem?_append_right (by rw [h.len]; exact Nat.le_refl _)] at hq
      simp [h.len] at hy hq
      subst hy hq
      obtain ⟨a, b, d⟩ := h.ok k x p hx hp
      refine ⟨by rw [go_snoc, a]; simp [nx], by simp; omega, fun c hc => ?_⟩
      rcases List.mem_append.mp hc with hc | hc
      · exact d c hc
      · rw [List.mem_singleton.mp hc]; exact hj
    · rw [List.getElem?_eq_none (by simp; omega)] at hy; cases hy
theorem Pth.next {x : Nat} (h : Pth n r u first F P k 4) (hx : F[k]? = some x) : Pth n r u first F P (k + 1) 0 :=
  { h with
    kle := (List.getElem?_eq_some_iff.mp hx).1
    shut := fun i y hi hy c hc => by
      rcases Nat.lt_or_ge i k with q | q
      · exact h.shut i y q hy c hc
      · have : i = k := by omega
        subst this; exact h.part y hy c hc
    part := fun y _ c hc => absurd hc (Nat.not_lt_zero _)
    jz := .inl rfl }
/-- all squares to which paths lead -/
structure PthAll (n : Nat) (r u : List Nat) (first : Nat) (F : List Nat) (P : List (List Nat)) : Prop where
  nd : F.Nodup
  hd : first ∈ F
  lt : ∀ x ∈ F, x < n
  len : P.length = F.length
  shut : ∀ x ∈ F, ∀ c, c < 4 → nx (rw4 r u c) x ∈ F
  ok : ∀ i x p, F[i]? = some x → P[i]? = some p → go r u first p = x ∧ p.length ≤ i ∧ ∀ c ∈ p, c < 4
theorem Pth.all (h : Pth n r u first F P k j) (hk : F.length ≤ k) : PthAll n r u first F P :=
  { h with
    shut := fun x hx c hc => by
      obtain ⟨i, hi, e⟩ := List.mem_iff_getElem.mp hx
      exact h.shut i x (by omega) (by rw [List.getElem?_eq_getElem hi, e]) c hc }
end Sq
namespace K1
open PySem L2
def top (i : Nat) : Stmt := PySem.Challenge.pw_squaresheet_k07_texts_refused.main.body.getD i (.Pass ⟨0, 0, 0, 0⟩)
abbrev sNottogether : Stmt := top 3
abbrev sSheetOf : Stmt := top 7
abbrev sSize : Stmt := top 8
abbrev sBackRow : Stmt := top 9
abbrev sChecked : Stmt := top 10
abbrev sEach : Stmt := top 11
abbrev sIsWhole : Stmt := top 12
abbrev sIsSq : Stmt := top 13
abbrev sGroups : Stmt := top 14
abbrev sSteps : Stmt := top 15
abbrev sPaths : Stmt := top 16
abbrev sRead : Stmt := top 19
abbrev sIsPair : Stmt := top 20
abbrev sIsWord : Stmt := top 21
abbrev sSquaresOf : Stmt := top 22
abbrev sCell : Stmt := top 24
abbrev sWhole : Stmt := top 25
abbrev sLines : Stmt := top 26
abbrev sMet : Stmt := top 27
abbrev sAmong : Stmt := top 28
abbrev sSheet : Stmt := top 29
abbrev sPicked : Stmt := top 30
abbrev sBeside : Stmt := top 31
abbrev sLSigns : Stmt := top 32
abbrev sText : Stmt := top 33
abbrev sSign : Stmt := top 34
abbrev sLChanged : Stmt := top 35
abbrev sLDue : Stmt := top 36
abbrev sLClasses : Stmt := top 37
abbrev sAsked : Stmt := top 38
abbrev sLaw : Stmt := top 39
end K1
namespace K1
open PySem L2 Sq
/-- the builtins' names are not taken by the text -/
structure Bi (mg : Str → Option Value) : Prop where
  len : mg "len" = none
  range : mg "range" = none
  list : mg "list" = none
  tuple : mg "tuple" = none
  isin : mg "isinstance" = none
  int : mg "int" = none
  bool : mg "bool" = none
  all : mg "all" = none
  set : mg "set" = none
  sorted : mg "sorted" = none
  enum : mg "enumerate" = none
/-- a def of the text -/
structure Fn (K : PySem.W.Frag) (mg : Str → Option Value) (x : Str) (st : Stmt) (ps : List Str) (f : Addr) (fd : FuncData) : Prop where
  F : Fun K x x st f fd
  b : Binds K fd ps []
  m : mg x = some (.ref f)

def RowAt (K : PySem.W.Frag) (H : Hp) (p : Addr) (r : List Nat) : Prop := SqL K H p (nv r) ∨ SqT K H p (nv r)

def spCell (K : PySem.W.Frag) : Sp := fun vs H Q _ => ∃ (a : Addr) (ns : List Int) (j : Int), vs = [.ref a, .int j] ∧ SqL K H a (ns.map V.int) ∧ 0 ≤ j ∧ Q (.int (ns.getD j.toNat 0)) H
def spWhole : Sp := fun vs H Q _ => ∃ i : Int, vs = [.int i] ∧ Q (.bl true) H
def spSize : Sp := fun vs H Q _ => ∃ (a : Addr) (r u : List Nat), vs = [.ref a] ∧ ShAt H a r u ∧ Q (.int (r.length : Int)) H
theorem boot_isin : bootBuiltins "isinstance" = some (.builtin "isinstance") := by decide +kernel
theorem boot_int : bootBuiltins "int" = some (.type "int") := by decide +kernel
theorem boot_bool : bootBuiltins "bool" = some (.type "bool") := by decide +kernel
theorem boot_tuple : bootBuiltins "tuple" = some (.type "tuple") := by decide +kernel
theorem boot_list : bootBuiltins "list" = some (.type "list") := by decide +kernel
theorem boot_set : bootBuiltins "set" = some (.type "set") := by decide +kernel
theorem boot_all : bootBuiltins "all" = some (.builtin "all") := by decide +kernel
theorem boot_sorted : bootBuiltins "sorted" = some (.builtin "sorted") := by decide +kernel
theorem nv_erase (xs : List Nat) (k : Nat) : (nv xs).eraseIdx k = nv (xs.eraseIdx k) := by
  unfold nv
  induction xs generalizing k with
  | nil => rfl
  | cons x xs ih => cases k with
    | zero => rfl
    | succ k => simp only [List.map_cons, List.eraseIdx_cons_succ, ih]
theorem same_upd {H H' : Hp} {l : Addr} {o : HO} (e : Same H H') (h : H l = none) : Same H (upd H' l o) := fun b u q => by
  rw [upd_ne (ne_of_none q h)]; exact e b u q
theorem len2 {α : Type} {l : List α} (h : l.length = 2) : ∃ x y, l = [x, y] := by
  match l, h with
  | [x, y], _ => exact ⟨x, y, rfl⟩
/-- a square is drawn out of those that are left -/
theorem popDraw {H : Hp} {lf : Addr} {left : List Nat} {x : Int} {Q : VK} (h : H lf = some (.lst (nv left))) (h0 : 0 < left.length) (h1 : left.length ≤ 36)
    (q : ∀ (k y : Nat), left[k]? = some y → Q (.int (y : Int)) (upd H lf (.lst (nv (left.eraseIdx k))))) : rPopAt (.ref lf) [.int (x % ((nv left).length : Int))] H Q := by
  have hl := nv_len left
  have a0 : 0 ≤ x % ((nv left).length : Int) := Int.emod_nonneg _ (by omega)
  have a1 : x % ((nv left).length : Int) < ((nv left).length : Int) := Int.emod_lt_of_pos _ (by omega)
  have a2 : (x % ((nv left).length : Int)).toNat < left.length := by omega
  have a3 : left[(x % ((nv left).length : Int)).toNat]? = some left[(x % ((nv left).length : Int)).toNat] := List.getElem?_eq_getElem a2
  refine ⟨lf, _, _, (x % ((nv left).length : Int)).toNat, _, rfl, rfl, h, by omega, by omega, seqIndex_of a0 a1, nv_get a3, ?_⟩
  rw [nv_erase]
  exact q _ _ a3
theorem Same.tseq {K : PySem.W.Frag} {H H' : Hp} {a : Addr} {xs : List V} (e : Same H H') (h : SqT K H a xs) : SqT K H' a xs := by
  rcases h with (h | ⟨o, h⟩) | h
  · exact .inl (.inl (e _ _ h))
  · exact .inl (.inr ⟨o, e _ _ h⟩)
  · exact .inr h
theorem RowAt.same {K : PySem.W.Frag} {H H' : Hp} {p : Addr} {r : List Nat} (e : Same H H') (h : RowAt K H p r) : RowAt K H' p r := h.imp e.seq (Same.tseq e)
theorem rowIx {K : PySem.W.Frag} {H : Hp} {p : Addr} {r : List Nat} {n i : Nat} {Q : VK} (h : RowAt K H p r) (hr : Row n r) (hi : i < n) (q : Q (.int (nx r i : Int)) H) : rIx K (.ref p) (.int (i : Int)) H Q := by
  rcases h with h | h
  · exact .inl ⟨p, _, _, _, rfl, rfl, h, atI_nat (nv_get (hr.get hi)), q⟩
  · exact .inr (.inl ⟨p, _, _, _, rfl, rfl, h, atI_nat (nv_get (hr.get hi)), q⟩)
theorem nv_flat (xs : List Nat) : (nv xs).all flatV = true := by
  rw [List.all_eq_true]
  intro x hx
  obtain ⟨n, _, rfl⟩ := List.mem_map.mp hx
  rfl
theorem inV_nv (x : Nat) (xs : List Nat) : inV (.int (x : Int)) (nv xs) = decide (x ∈ xs) := by
  unfold inV nv
  rw [List.any_map]
  apply Bool.eq_iff_iff.mpr
  rw [List.any_eq_true, decide_eq_true_iff]
  constructor
  · rintro ⟨y, hy, e⟩
    have : (y : Int) = (x : Int) := by simpa [eqV, scal] using e
    have : y = x := by omega
    rw [← this]; exact hy
  · intro h
    exact ⟨x, h, by simp [eqV, scal]⟩
/-- how far the fifth slot is from 100 -/
def mu (j : Nat) (σ : St) : Nat := match σ[j]? with
  | some (some (.int k)) => (100 - k).toNat
  | _ => 0
theorem foldl_put_len : ∀ (l M : List Nat), (l.foldl put M).length ≤ M.length + l.length
  | [], M => Nat.le_refl _
  | x :: l, M => by
    have h1 := foldl_put_len l (put M x)
    have h2 : (put M x).length ≤ M.length + 1 := by unfold put; split <;> simp
    simp only [List.foldl_cons, List.length_cons]; omega
end K1
namespace K1
open PySem L2 Sq
section
variable {P : Program} {w : World} {K : PySem.W.Frag} {mg : Str → Option Value} {base : Heap}
theorem scCell : FnScope ["_law_script", "_law_k"] ["_law_script", "_law_k"] (defScope sCell) := ⟨rfl, rfl, rfl, by decide +kernel, rfl, by decide +kernel, by decide +kernel⟩
theorem ok_cell {f : Addr} {fd : FuncData} (T : Bi mg) (F : Fn K mg "_law_cell" sCell ["_law_script", "_law_k"] f fd) : FnOk P w K mg base CX0 1 f fd ["_law_script", "_law_k"] (spCell K) := by
  refine F.F.ok scCell (fun vs H Q E h => ?_) (fun cdv A outer s H vs Q E hr h => ?_)
  · obtain ⟨a, ns, j, rfl, _⟩ := h; rfl
  · obtain ⟨a, ns, j, rfl, hS, h0, k⟩ := h
    refine ⟨_, pss_cons (ps_if (pt_cmpR op_lt (pv 1) (pe_callB call_len_seq (by rfl) T.len PySem.boot_len (pa_cons (pv 0) pa_nil)) (nomark _)) (pss_one (ps_ret (pe_ix ix_list (pv 0) (pv 1) (fun _ _ => rfl)))) pss_nil)
      (pss_one (ps_ret pe_int)), ?_⟩
    refine ⟨_, rfl, _, rfl, a, _, rfl, .inl hS, _, _, rfl, rfl, _, rfl, ?_⟩
    refine ite2 (fun hlt => ?_) (fun hge => ?_)
    · have hlt : j < ((ns.map V.int).length : Int) := of_decide_eq_true hlt
      rw [List.length_map] at hlt
      have hj : j.toNat < ns.length := by omega
      refine ⟨_, rfl, _, rfl, a, _, j, _, rfl, rfl, hS, ?_, k⟩
      have e : (ns.map V.int)[j.toNat]? = some (.int (ns.getD j.toNat 0)) := by simp [List.getD_eq_getElem?_getD, hj]
      have := atI_nat e
      rwa [Int.toNat_of_nonneg h0] at this
    · have hge : ¬ j < ((ns.map V.int).length : Int) := fun z => hge (decide_eq_true z)
      rw [List.length_map] at hge
      have e : ns.getD j.toNat 0 = 0 := by rw [List.getD_eq_getElem?_getD, List.getElem?_eq_none (by omega)]; rfl
      rw [e] at k
      exact k
end
end K1
namespace K1
open PySem L2 Sq
section
variable {P : Program} {w : World} {K : PySem.W.Frag} {mg : Str → Option Value} {base : Heap}
theorem scWhole : FnScope ["_law_found"] ["_law_found"] (defScope sWhole) := ⟨rfl, rfl, rfl, by decide +kernel, rfl, by decide +kernel, by decide +kernel⟩
end
end K1
namespace K1
open PySem L2 Sq
section
variable {P : Program} {w : World} {K : PySem.W.Frag} {mg : Str → Option Value} {base : Heap}
theorem scSize : FnScope ["sheet"] ["sheet"] (defScope sSize) := ⟨rfl, rfl, rfl, by decide +kernel, rfl, by decide +kernel, by decide +kernel⟩
theorem ok_size {f : Addr} {fd : FuncData} (T : Bi mg) (F : Fn K mg "size" sSize ["sheet"] f fd) : FnOk P w K mg base CX0 1 f fd ["sheet"] spSize := by
  refine F.F.ok scSize (fun vs H Q E h => ?_) (fun cdv A outer s H vs Q E hr h => ?_)
  · obtain ⟨a, r, u, rfl, _⟩ := h; rfl
  · obtain ⟨a, r, u, rfl, ⟨p, q, h1, h2, h3⟩, k⟩ := h
    refine ⟨_, pss_one (ps_ret (pe_callB call_len_seq (by rfl) T.len PySem.boot_len (pa_cons (pe_ix ix_tup (pv 0) pe_int (fun _ _ => rfl)) pa_nil))), ?_⟩
    refine ⟨_, rfl, a, _, 0, _, rfl, rfl, SqT.of h1, atI_nat (j := 0) rfl, p, _, rfl, .inr (SqT.of h2), ?_⟩
    rw [nv_len]; exact k
end
end K1
namespace K1
open PySem L2 Sq
section
variable {P : Program} {w : World} {K : PySem.W.Frag} {mg : Str → Option Value} {base : Heap}
end
end K1

namespace K1
open PySem L2 Sq
def spLines (K : PySem.W.Frag) : Sp := fun vs H Q _ => ∃ (a : Addr) (ns : List Int) (j : Int) (n : Nat), vs = [.ref a, .int j, .int (n : Int)] ∧ SqL K H a (ns.map V.int) ∧ 0 ≤ j ∧ 1 ≤ n ∧ n ≤ 36 ∧
  ∀ (H' : Hp) (l p q : Addr) (r u : List Nat), Same H H' → H' l = some (.lst [.ref p, .ref q]) → H' p = some (.lst (nv r)) → H' q = some (.lst (nv u)) → Row n r → Row n u → Q (.ref l) H'
section
variable {P : Program} {w : World} {K : PySem.W.Frag} {mg : Str → Option Value} {base : Heap}
theorem scLines : FnScope ["_law_script", "_law_at", "_law_many", "_law_number", "_law_told", "_law_turn", "_law_left", "_law_line", "_law_k", "_law_cell_here"] ["_law_script", "_law_at", "_law_many"] (defScope sLines) := ⟨rfl, rfl, rfl, by decide +kernel, rfl, by decide +kernel, by decide +kernel⟩
theorem ok_lines {f fc : Addr} {fd fdc : FuncData} (T : Bi mg) (F : Fn K mg "_law_lines" sLines ["_law_script", "_law_at", "_law_many"] f fd) (FC : Fn K mg "_law_cell" sCell ["_law_script", "_law_k"] fc fdc) :
    FnOk P w K mg base CX0 2 f fd ["_law_script", "_law_at", "_law_many"] (spLines K) := by
  have GC : FnOk P w K mg base CX0 1 fc fdc ["_law_script", "_law_k"] (spCell K) := ok_cell T FC
  refine F.F.ok scLines (fun vs H Q E h => ?_) (fun cdv A outer s H vs Q E hr h => ?_)
  · obtain ⟨a, ns, j, n, rfl, _⟩ := h; rfl
  · obtain ⟨a, ns, j, n, rfl, hS, h0, hn1, hn, k⟩ := h
    refine ⟨_, pss_cons (ps_set (i := 3) scLines.nd rfl (Or.inl rfl) (pe_op op_add pe_int (pe_op op_mod (pe_call GC hr rfl FC.m FC.F.kp FC.b .nil pass0 (pa_cons (pv 0) (pa_cons (pv 1) pa_nil))) pe_int)))
      (pss_cons (ps_set (i := 4) scLines.nd rfl (Or.inl rfl) (pe_lst pa_nil))
      (pss_cons (ps_for PassesOwn.never rfl (pi_range1 rfl T.range (pa_cons pe_int pa_nil)) (pg_name (i := 5) scLines.nd rfl (Or.inl rfl))
        (pss_cons (ps_set (i := 6) scLines.nd rfl (Or.inl rfl) (pe_callTy (call_list_rng rfl) rfl T.list boot_list (pa_cons (pe_callTy call_range1 rfl T.range PyProof.Rows.boot_range (pa_cons (pv 2) pa_nil)) pa_nil)))
        (pss_cons (ps_set (i := 7) scLines.nd rfl (Or.inl rfl) (pe_lst pa_nil))
        (pss_cons (ps_for PassesOwn.never rfl (pi_range1 rfl T.range (pa_cons (pv 2) pa_nil)) (pg_name (i := 8) scLines.nd rfl (Or.inl rfl))
          (pss_cons (ps_set (i := 9) scLines.nd rfl (Or.inl rfl) (pe_call GC hr rfl FC.m FC.F.kp FC.b .nil pass0 (pa_cons (pv 0) (pa_cons (pe_op op_add (pe_op op_add (pe_op op_add (pv 1) pe_int) (pe_op op_mul (pv 5) (pv 2))) (pv 8)) pa_nil))))
          (pss_cons (ps_set (i := 3) scLines.nd rfl (Or.inl rfl) (pe_op op_mod (pe_op op_add (pe_op op_mul (pv 3) pe_int) (pv 9)) pe_int))
          (pss_one (ps_expr (pe_bm PySem.F.plainAttrs_list PySem.F.slot_list_append PySem.F.type_list_append mt_append (pv 7) (pa_cons
            (pe_bm PySem.F.plainAttrs_list PySem.F.slot_list_pop PySem.F.type_list_pop mt_popAt (pv 6) (pa_cons (pe_op op_mod (pe_op op_fdiv (pv 3) pe_int) (pe_callB call_len_seq (by rfl) T.len PySem.boot_len (pa_cons (pv 6) pa_nil))) pa_nil)) pa_nil)))))))
        (pss_one (ps_expr (pe_bm PySem.F.plainAttrs_list PySem.F.slot_list_append PySem.F.type_list_append mt_append (pv 4) (pa_cons (pv 7) pa_nil))))))))
      (pss_one (ps_ret (pv 4))))), ?_⟩
    -- number, told
    refine ⟨_, rfl, _, rfl, a, ns, j, rfl, hS, h0, _, _, rfl, rfl, (by show (0 : Int) < 2147483646; decide), _, _, rfl, rfl, ?_⟩
    refine ⟨Nat.zero_le _, fun l hl => ?_⟩
    refine ⟨2, rfl, by decide, by decide, for_range (n := 2) (fun t σ H2 => ∃ (num : Int) (o5 o6 o7 o8 o9 : Option V) (ps : List (Addr × List Nat)), σ = [some (.ref a), some (.int j), some (.int (n : Int)), some (.int num), some (.ref l), o5, o6, o7, o8, o9] ∧ Same H H2 ∧ ps.length = t ∧
      H2 l = some (.lst (ps.map fun p => .ref p.1)) ∧ ∀ p ∈ ps, p.1 ≠ l ∧ H2 p.1 = some (.lst (nv p.2)) ∧ Row n p.2) ?_ ?_ ?_⟩
    · exact ⟨_, _, _, _, _, _, [], rfl, same_upd (Same.refl H) hl, rfl, upd_same, fun p hp => nomatch hp⟩
    · rintro t σ H2 ht ⟨num, o5, o6, o7, o8, o9, ps, rfl, s2, hps, h2l, hall⟩
      -- left, line
      refine ⟨_, rfl, (n : Int), rfl, fun r0 hr0 => ⟨r0, n, rfl, upd_same, by omega, fun lf hlf => ?_⟩⟩
      refine ⟨Nat.zero_le _, fun ln hln => ?_⟩
      have nr0l : l ≠ r0 := ne_of_none h2l hr0
      have hH : ∀ b, H2 b = none → H b = none := fun b q => s2.free q
      have f0 : H2 lf = none := by
        by_cases e : lf = r0
        · rw [e]; exact hr0
        · rwa [upd_ne e] at hlf
      have nlfr : lf ≠ r0 := fun e => by rw [e, upd_same] at hlf; cases hlf
      have nlnl : ln ≠ lf := fun e => by rw [e, upd_same] at hln; cases hln
      have g0 : (upd H2 r0 (.rng 0 (n : Int))) ln = none := by rwa [upd_ne nlnl] at hln
      have nlnr : ln ≠ r0 := fun e => by rw [e, upd_same] at g0; cases g0
      have g1 : H2 ln = none := by rwa [upd_ne nlnr] at g0
      have llf : l ≠ lf := ne_of_none h2l f0
      have lln : l ≠ ln := ne_of_none h2l g1
      refine ⟨_, rfl, (n : Int), rfl, by omega, by omega, ?_⟩
      rw [Int.toNat_natCast]
      refine for_range (n := n) (fun i σ H3 => ∃ (num : Int) (o8 o9 : Option V) (line left : List Nat), σ = [some (.ref a), some (.int j), some (.int (n : Int)), some (.int num), some (.ref l), some (.int (0 + (t : Int))), some (.ref lf), some (.ref ln), o8, o9] ∧
        (∀ b, b ≠ r0 → b ≠ lf → b ≠ ln → H3 b = H2 b) ∧ H3 lf = some (.lst (nv left)) ∧ H3 ln = some (.lst (nv line)) ∧ line.length = i ∧ (line ++ left).Perm (List.range n)) ?_ ?_ ?_
      · refine ⟨_, _, _, [], List.range n, rfl, fun b c1 c2 c3 => by rw [upd_ne c3, upd_ne c2, upd_ne c1], by rw [upd_ne nlnl.symm, upd_same], upd_same, rfl, List.Perm.refl _⟩
      · rintro i σ H3 hi ⟨num, o8, o9, line, left, rfl, same3, hlf3, hln3, hlen, hp⟩
        have hS3 : SqL K H3 a (ns.map V.int) := by
          have hS2 := s2.seq hS
          rcases hS2 with (q | ⟨o, q⟩) | q
          · exact .inl (.inl (by rw [same3 a (ne_of_none q hr0) (ne_of_none q f0) (ne_of_none q g1)]; exact q))
          · exact .inl (.inr ⟨o, by rw [same3 a (ne_of_none q hr0) (ne_of_none q f0) (ne_of_none q g1)]; exact q⟩)
          · exact .inr q
        have hleft : left.length = n - i := by
          have := hp.length_eq
          simp only [List.length_append, List.length_range] at this
          omega
        have hpos : 0 < left.length := by omega
        refine ⟨_, rfl, _, rfl, _, _, rfl, rfl, _, rfl, _, rfl, _, _, rfl, rfl, .inr ⟨by omega, by omega⟩, _, _, rfl, rfl, _, rfl, _, _, rfl, rfl, a, ns, _, rfl, hS3, ?_, ?_⟩
        · have : (0 : Int) ≤ (0 + (t : Int)) * (n : Int) := Int.mul_nonneg (by omega) (by omega)
          omega
        refine ⟨_, rfl, _, _, rfl, rfl, .inr ⟨by decide, by decide⟩, _, rfl, _, _, rfl, rfl, _, _, rfl, rfl, (by show (0 : Int) < 2147483647; decide), ?_⟩
        refine ⟨_, rfl, .inl ⟨rfl, _, SqL.of hln3⟩, _, rfl, .inl ⟨rfl, _, SqL.of hlf3⟩, _, rfl, _, _, rfl, rfl, ⟨by decide, by decide⟩, _, rfl, lf, _, rfl, .inl (SqL.of hlf3), _, _, rfl, rfl, ?_, ?_⟩
        · rw [nv_len]; omega
        refine popDraw hlf3 hpos (by omega) fun kx y hy => ?_
        have e3 : (upd H3 lf (.lst (nv (left.eraseIdx kx)))) ln = some (.lst (nv line)) := by rw [upd_ne nlnl]; exact hln3
        refine ⟨ln, _, _, rfl, rfl, e3, ?_, ?_⟩
        · rw [nv_len]; exact small1000 (by omega)
        refine ⟨_, _, _, line ++ [y], left.eraseIdx kx, rfl, fun b c1 c2 c3 => ?_, ?_, ?_, ?_, pop_perm hp hy⟩
        · rw [upd_ne c3, upd_ne c2]; exact same3 b c1 c2 c3
        · rw [upd_ne nlnl.symm, upd_same]
        · rw [upd_same, nv_snoc]
        · rw [List.length_append, hlen]; rfl
      · rintro σ H3 ⟨num, o8, o9, line, left, rfl, same3, hlf3, hln3, hlen, hp⟩
        have hl0 : left = [] := by
          have := hp.length_eq
          simp only [List.length_append, List.length_range] at this
          exact List.length_eq_zero_iff.mp (by omega)
        have hrow : Row n line := Row.of_perm (by rw [hl0, List.append_nil] at hp; exact hp)
        have hl3 : H3 l = some (.lst (ps.map fun p => .ref p.1)) := by rw [same3 l nr0l llf lln]; exact h2l
        refine ⟨_, rfl, .inl ⟨rfl, _, SqL.of hl3⟩, _, rfl, l, _, _, rfl, rfl, hl3, ?_, ?_⟩
        · rw [List.length_map]; exact small1000 (by omega)
        refine ⟨_, _, _, _, _, _, ps ++ [(ln, line)], rfl, fun b o q => ?_, by rw [List.length_append, hps]; rfl, by rw [upd_same, List.map_append]; rfl, fun p hp' => ?_⟩
        · have q2 := s2 b o q
          rw [upd_ne (fun e => by rw [e, hl] at q; cases q), same3 b (ne_of_none q2 hr0) (ne_of_none q2 f0) (ne_of_none q2 g1)]
          exact q2
        · rcases List.mem_append.mp hp' with hp' | hp'
          · obtain ⟨c1, c2, c3⟩ := hall p hp'
            refine ⟨c1, ?_, c3⟩
            rw [upd_ne c1, same3 p.1 (ne_of_none c2 hr0) (ne_of_none c2 f0) (ne_of_none c2 g1)]
            exact c2
          · rw [List.mem_singleton.mp hp']
            exact ⟨lln.symm, by rw [upd_ne lln.symm]; exact hln3, hrow⟩
    · rintro σ H2 ⟨num, o5, o6, o7, o8, o9, ps, rfl, s2, hps, h2l, hall⟩
      obtain ⟨⟨p, r⟩, ⟨q, u⟩, rfl⟩ := len2 hps
      have a1 := hall (p, r) (by simp)
      have a2 := hall (q, u) (by simp)
      exact ⟨_, rfl, k H2 l p q r u s2 h2l a1.2.1 a2.2.1 a1.2.2 a2.2.2⟩
end
end K1
namespace K1
open PySem L2 Sq
def spMet (K : PySem.W.Frag) : Sp := fun vs H Q _ => ∃ (pr pu : Addr) (n : Nat) (r u : List Nat) (f : Nat), vs = [.ref pr, .ref pu, .int (f : Int)] ∧ RowAt K H pr r ∧ RowAt K H pu u ∧ Row n r ∧ Row n u ∧ f < n ∧ n ≤ 36 ∧
  ∀ (H' : Hp) (l : Addr) (M : List Nat), Same H H' → H l = none → H' l = some (.lst (nv M)) → MetAll n r u f M → Q (.ref l) H'
section
variable {P : Program} {w : World} {K : PySem.W.Frag} {mg : Str → Option Value} {base : Heap}
theorem scMet : FnScope ["_law_right", "_law_up", "_law_first", "_law_met_here", "_law_at", "_law_square"] ["_law_right", "_law_up", "_law_first"] (defScope sMet) := ⟨rfl, rfl, rfl, by decide +kernel, rfl, by decide +kernel, by decide +kernel⟩
theorem ok_met {f : Addr} {fd : FuncData} (T : Bi mg) (F : Fn K mg "_law_met" sMet ["_law_right", "_law_up", "_law_first"] f fd) : FnOk P w K mg base CX0 1 f fd ["_law_right", "_law_up", "_law_first"] (spMet K) := by
  refine F.F.ok scMet (fun vs H Q E h => ?_) (fun cdv A outer s H vs Q E hr h => ?_)
  · obtain ⟨pr, pu, n, r, u, f, rfl, _⟩ := h; rfl
  · obtain ⟨pr, pu, n, r, u, f, rfl, hR, hU, rr, ru, hf, hn, k⟩ := h
    refine ⟨_, pss_cons (ps_set (i := 3) scMet.nd rfl (Or.inl rfl) (pe_lst (pa_cons (pv 2) pa_nil)))
      (pss_cons (ps_set (i := 4) scMet.nd rfl (Or.inl rfl) pe_int)
      (pss_cons (ps_while PassesOwn.never (pt_cmpR op_lt (pv 4) (pe_callB call_len_seq (by rfl) T.len PySem.boot_len (pa_cons (pv 3) pa_nil)) (nomark _))
        (pss_cons (ps_for PassesOwn.never rfl (pi_tup (pe_tup (pa_cons (pe_ix ix_seq (pv 0) (pe_ix ix_list (pv 3) (pv 4) (fun _ _ => rfl)) (fun _ _ => rfl)) (pa_cons (pe_ix ix_seq (pv 1) (pe_ix ix_list (pv 3) (pv 4) (fun _ _ => rfl)) (fun _ _ => rfl)) pa_nil)))) (pg_name (i := 5) scMet.nd rfl (Or.inl rfl))
          (pss_one (ps_if (pt_cmpR op_notIn_seq (pv 5) (pv 3) rfl) (pss_one (ps_expr (pe_bm PySem.F.plainAttrs_list PySem.F.slot_list_append PySem.F.type_list_append mt_append (pv 3) (pa_cons (pv 5) pa_nil)))) pss_nil)))
        (pss_one (ps_set (i := 4) scMet.nd rfl (Or.inl rfl) (pe_op op_add (pv 4) pe_int)))))
      (pss_one (ps_ret (pv 3))))), ?_⟩
    refine ⟨_, rfl, (by show 1 ≤ sizeLine; decide), fun l hl => ?_⟩
    refine while_by (fun σ H2 => ∃ (M : List Nat) (k : Nat) (o5 : Option V), σ = [some (.ref pr), some (.ref pu), some (.int (f : Int)), some (.ref l), some (.int (k : Int)), o5] ∧ Same H H2 ∧ H2 l = some (.lst (nv M)) ∧ Met n r u f M k) (fun σ _ => mu 4 σ) ?_ ?_ ?_
    · exact ⟨[f], 0, _, rfl, same_upd (Same.refl H) hl, upd_same, Met.start hf⟩
    · rintro σ H2 ⟨M, kk, o5, rfl, s2, h2l, hM⟩
      refine ⟨_, rfl, _, rfl, l, _, rfl, .inl (SqL.of h2l), _, _, rfl, rfl, _, rfl, ?_⟩
      rw [nv_len]
      refine ite2 (fun hlt => ?_) (fun hge => ?_)
      · have hlt : (kk : Int) < (M.length : Int) := of_decide_eq_true hlt
        have hk : kk < M.length := by omega
        have hx : M[kk]? = some M[kk] := List.getElem?_eq_getElem hk
        have hxn : M[kk] < n := hM.lt _ (List.getElem_mem hk)
        have hMl := hM.len
        -- for square in (right[..], up[..])
        refine ⟨_, rfl, _, rfl, _, rfl, l, _, _, _, rfl, rfl, SqL.of h2l, atI_nat (nv_get hx), rowIx (hR.same s2) rr hxn ?_⟩
        refine ⟨_, rfl, _, rfl, _, rfl, l, _, _, _, rfl, rfl, SqL.of h2l, atI_nat (nv_get hx), rowIx (hU.same s2) ru hxn ?_⟩
        refine ⟨(by show 2 ≤ sizeLine; decide), fun tp htp => ⟨tp, rfl, ⟨_, SqT.of upd_same⟩, ?_⟩⟩
        have nlt : l ≠ tp := ne_of_none h2l htp
        refine for_tup (K := K) (a := tp) (xs := [.int (nx r M[kk] : Int), .int (nx u M[kk] : Int)]) (fun i σ H3 => ∃ (o5 : Option V), σ = [some (.ref pr), some (.ref pu), some (.int (f : Int)), some (.ref l), some (.int (kk : Int)), o5] ∧ Same H H3 ∧ H3 tp = some (.tup [.int (nx r M[kk] : Int), .int (nx u M[kk] : Int)]) ∧
          H3 l = some (.lst (nv (([nx r M[kk], nx u M[kk]].take i).foldl put M)))) ?_ ?_ ?_ ?_
        · refine ⟨_, rfl, same_upd s2 (s2.free htp), upd_same, by rw [upd_ne nlt]; exact h2l⟩
        · rintro i σ H3 hi ⟨_, _, _, h3, _⟩
          exact SqT.of h3
        · rintro i x σ H3 hi ⟨o5, rfl, s3, h3, h3l⟩
          obtain ⟨y, ey, rfl⟩ := nv_get' (xs := [nx r M[kk], nx u M[kk]]) hi
          have hi2 : i < 2 := (List.getElem?_eq_some_iff.mp ey).1
          have hlen := foldl_put_len ([nx r M[kk], nx u M[kk]].take i) M
          have htk : ([nx r M[kk], nx u M[kk]].take i).length ≤ 2 := by rw [List.length_take]; exact Nat.min_le_right _ _
          have hfold : ([nx r M[kk], nx u M[kk]].take (i + 1)).foldl put M = put (([nx r M[kk], nx u M[kk]].take i).foldl put M) y := by
            rw [List.take_add_one, ey, List.foldl_append]; rfl
          rw [hfold]
          generalize hM' : ([nx r M[kk], nx u M[kk]].take i).foldl put M = M' at h3l hlen
          refine ⟨_, rfl, _, rfl, l, _, rfl, .inl (SqL.of h3l), rfl, nv_flat _, _, rfl, ?_⟩
          show (if (!inV (.int (y : Int)) (nv M')) = true then _ else _)
          rw [inV_nv]
          by_cases hy : y ∈ M'
          · rw [decide_eq_true hy]
            refine iteF ?_
            refine ⟨_, rfl, s3, h3, ?_⟩
            unfold put; rw [if_pos hy]; exact h3l
          · rw [decide_eq_false hy]
            refine iteT ?_
            refine ⟨_, rfl, .inl ⟨rfl, _, SqL.of h3l⟩, _, rfl, l, _, _, rfl, rfl, h3l, ?_, ?_⟩
            · rw [nv_len]; exact small1000 (by omega)
            refine ⟨_, rfl, same_upd s3 hl, by rw [upd_ne nlt.symm]; exact h3, ?_⟩
            unfold put; rw [if_neg hy, upd_same, nv_snoc]
        · rintro σ H3 ⟨o5, rfl, s3, h3, h3l⟩
          refine ⟨_, rfl, _, _, rfl, rfl, ⟨_, kk + 1, _, rfl, s3, h3l, hM.step rr ru hx⟩, ?_⟩
          show (100 - ((kk : Int) + 1)).toNat < (100 - (kk : Int)).toNat
          omega
      · have hge : ¬ (kk : Int) < (M.length : Int) := fun z => hge (decide_eq_true z)
        exact ⟨_, rfl, k H2 l M s2 hl h2l (hM.all (by omega))⟩
    · rintro σ H Q Q' h ⟨v, e1, v', e2, p, ys, e3, sq, i, j, e4, e5, k, e6, q⟩
      exact ⟨v, e1, v', e2, p, ys, e3, sq, i, j, e4, e5, k, e6, h _ _ q⟩
end
end K1
namespace K1
open PySem L2 Sq
def spAmong (K : PySem.W.Frag) : Sp := fun vs H Q _ => ∃ (pr pu pm : Addr) (n : Nat) (r u S : List Nat), vs = [.ref pr, .ref pu, .ref pm] ∧ RowAt K H pr r ∧ RowAt K H pu u ∧ SqL K H pm (nv S) ∧ Row n r ∧ Row n u ∧ n ≤ 36 ∧ S.Nodup ∧
  (∀ x ∈ S, x < n ∧ nx r x ∈ S ∧ nx u x ∈ S) ∧ ∀ (H' : Hp) (a : Addr), Same H H' → ShAt H' a (among r S) (among u S) → Q (.ref a) H'
/-- the places of the first i of S -/
def plc (S : List Nat) (i : Nat) : List (Key × V) := (List.range i).map fun k => (Sum.inl ((S.getD k 0 : Nat) : Int), V.int (k : Int))
theorem plc_succ (S : List Nat) (i : Nat) : plc S (i + 1) = plc S i ++ [(Sum.inl ((S.getD i 0 : Nat) : Int), V.int (i : Int))] := by
  unfold plc; rw [List.range_succ, List.map_append]; rfl
theorem plc_len (S : List Nat) (i : Nat) : (plc S i).length = i := by simp [plc]
theorem plc_val {S : List Nat} (nd : S.Nodup) : ∀ {i : Nat}, i ≤ S.length → ∀ {x : Nat}, x ∈ S → valV (plc S i) (Sum.inl (x : Int) : Key) = if S.idxOf x < i then some (.int (S.idxOf x : Int)) else none
  | 0, _, x, hx => rfl
  | i + 1, hi, x, hx => by
    have hlt : i < S.length := hi
    have e0 : S.getD i 0 = S[i] := by simp [List.getD_eq_getElem?_getD, hlt]
    have hidx : S.idxOf S[i] = i := idx_get nd (List.getElem?_eq_getElem hlt)
    have hnone : valV (plc S i) (Sum.inl ((S[i] : Nat) : Int) : Key) = none := by
      rw [plc_val nd (by omega) (List.getElem_mem hlt), hidx, if_neg (Nat.lt_irrefl _)]
    rw [plc_succ, e0, valV_snoc _ _ _ _ hnone]
    by_cases e : x = S[i]
    · subst e
      rw [if_pos rfl, hidx, if_pos (Nat.lt_succ_self _)]
    · have e' : ¬ (Sum.inl (x : Int) : Key) = Sum.inl ((S[i] : Nat) : Int) := fun z => e (by have := Sum.inl.inj z; omega)
      rw [if_neg e', plc_val nd (by omega) hx]
      have hne : S.idxOf x ≠ i := fun z => e (by
        have := get_idx hx
        rw [z, List.getElem?_eq_getElem hlt] at this
        exact (Option.some.inj this).symm)
      by_cases h : S.idxOf x < i
      · rw [if_pos h, if_pos (by omega)]
      · rw [if_neg h, if_neg (by omega)]
section
variable {P : Program} {w : World} {K : PySem.W.Frag} {mg : Str → Option Value} {base : Heap}
theorem scAmong : FnScope ["_law_right", "_law_up", "_law_met_here", "_law_place", "_law_k", "_law_square", "_law_one"] ["_law_right", "_law_up", "_law_met_here"] (defScope sAmong) := ⟨rfl, rfl, rfl, by decide +kernel, rfl, by decide +kernel, by decide +kernel⟩
theorem ndA1 : (["_law_square", "_law_place", "_law_right"] : List Str).Nodup := by decide +kernel
theorem ndA2 : (["_law_square", "_law_place", "_law_up"] : List Str).Nodup := by decide +kernel
/-- the comprehension's list: each square's neighbour, by its place -/
theorem compAmong {K : PySem.W.Frag} {Hc : Hp} {pm dp px : Addr} {x S : List Nat} {n : Nat} {Q : VK} {σ : St} {pull : List Nat} (h2 : σ[2]? = some (some (.ref pm))) (hb : bst 1 pull σ = [none, some (.ref dp), some (.ref px)])
    (hp : Hc dp = some (.dK (plc S S.length))) (hx : RowAt K Hc px x) (hS : SqL K Hc pm (nv S)) (rx : Row n x) (nd : S.Nodup) (hn : S.length ≤ 36) (hc : ∀ y ∈ S, y < n ∧ nx x y ∈ S)
    (k : ∀ (H' : Hp) (d : Addr), Same Hc H' → H' d = some (.lst (nv (among x S))) → Q (.ref d) H') :
    tComp (iList K (tVar 2)) 1 pull (gName 0) (tDGet (tVar 1) (tOp (rIx K) (tVar 2) (tVar 0))) σ Hc Q := by
  refine ⟨_, h2, pm, rfl, ⟨_, hS⟩, fun d hd => ?_⟩
  rw [hb]
  refine comp_by (Q := fun d H' => Q (.ref d) H') S.length (nv (among x S)) (by rw [nv_len, among_len]) (fun i σ H3 => ∃ o, σ = [o, some (.ref dp), some (.ref px)] ∧ Same Hc H3) ⟨_, rfl, same_upd (Same.refl _) hd⟩ ?_ ?_
  · rintro i σ H3 hi ⟨o, rfl, s3⟩ hd3
    have hS3 := s3.seq hS
    refine ⟨⟨_, _, hS3, nv_get (List.getElem?_eq_getElem hi)⟩, fun y H4 ⟨e, hy⟩ => ?_⟩
    subst e
    have hy := hy _ hS3
    rw [nv_get (List.getElem?_eq_getElem hi)] at hy
    cases hy
    have hm : S[i] ∈ S := List.getElem_mem hi
    refine ⟨_, rfl, _, rfl, _, rfl, rowIx (hx.same s3) rx (hc _ hm).1 ?_⟩
    have hv : valV (plc S S.length) (Sum.inl ((nx x S[i] : Nat) : Int) : Key) = some (.int (S.idxOf (nx x S[i]) : Int)) := by
      rw [plc_val nd (Nat.le_refl _) (hc _ hm).2, if_pos (List.idxOf_lt_length_of_mem (hc _ hm).2)]
    have hg := DGet.k (k := (Sum.inl ((nx x S[i] : Nat) : Int) : Key)) (s3 _ _ hp)
    rw [hv] at hg
    refine ⟨dp, _, rfl, hg, cpost hi (by omega) hd3 (nv_get ?_) ⟨_, rfl, same_upd s3 hd⟩⟩
    unfold among
    rw [List.getElem?_map, List.getElem?_eq_getElem hi]
    rfl
  · rintro σ H3 ⟨o, rfl, s3⟩ hd3
    exact ⟨⟨_, s3.seq hS, by rw [nv_len]; exact Nat.le_refl _⟩, k H3 d s3 hd3⟩
theorem ok_among {f : Addr} {fd : FuncData} (T : Bi mg) (F : Fn K mg "_law_among" sAmong ["_law_right", "_law_up", "_law_met_here"] f fd) : FnOk P w K mg base CX0 1 f fd ["_law_right", "_law_up", "_law_met_here"] (spAmong K) := by
  refine F.F.ok scAmong (fun vs H Q E h => ?_) (fun cdv A outer s H vs Q E hr h => ?_)
  · obtain ⟨pr, pu, pm, n, r, u, S, rfl, _⟩ := h; rfl
  · obtain ⟨pr, pu, pm, n, r, u, S, rfl, hR, hU, hS, rr, ru, hn, nd, hcl, k⟩ := h
    have hu := hu_of hr
    refine ⟨_, pss_cons (ps_set (i := 3) scAmong.nd rfl (Or.inr rfl) pe_dnewK)
      (pss_cons (ps_for PassesOwn.never rfl (pi_enumL rfl T.enum (pa_cons (pv 2) pa_nil)) (pg_tupE rfl (pgs_cons (pg_name (i := 4) scAmong.nd rfl (Or.inl rfl)) (pgs_cons (pg_name (i := 5) scAmong.nd rfl (Or.inl rfl)) pgs_nil)))
        (pss_one (ps_dput hu (pv 3) (pv 5) (pv 4) rfl)))
      (pss_cons (ps_set (i := 6) scAmong.nd rfl (Or.inl rfl) (pe_callTy call_tuple_of rfl T.tuple boot_tuple (pa_cons
        (pe_comp (N := ["_law_right", "_law_up", "_law_met_here", "_law_place", "_law_k", "_law_square", "_law_one"]) (names := (defScope sAmong).names) (N' := ["_law_square", "_law_place", "_law_right"]) (k := 1) (pull := [3, 0]) (te := tDGet (tVar 1) (tOp (rIx K) (tVar 2) (tVar 0))) rfl
          ⟨by rfl, by decide +kernel, by decide +kernel, by rfl, by decide +kernel, by decide +kernel⟩ rfl rfl (pi_list (pv 2)) (fun _ _ _ _ _ _ => pg_name (i := 0) ndA1 rfl (Or.inl rfl)) (fun _ _ _ _ _ _ => pe_dget hu (pv 1) (pe_ix ix_seq (pv 2) (pv 0) (fun _ _ => rfl)) (fun _ _ => rfl))) pa_nil)))
      (pss_one (ps_ret (pe_tup (pa_cons (pv 6) (pa_cons (pe_callTy call_tuple_of rfl T.tuple boot_tuple (pa_cons
        (pe_comp (N := ["_law_right", "_law_up", "_law_met_here", "_law_place", "_law_k", "_law_square", "_law_one"]) (names := (defScope sAmong).names) (N' := ["_law_square", "_law_place", "_law_up"]) (k := 1) (pull := [3, 1]) (te := tDGet (tVar 1) (tOp (rIx K) (tVar 2) (tVar 0))) rfl
          ⟨by rfl, by decide +kernel, by decide +kernel, by rfl, by decide +kernel, by decide +kernel⟩ rfl rfl (pi_list (pv 2)) (fun _ _ _ _ _ _ => pg_name (i := 0) ndA2 rfl (Or.inl rfl)) (fun _ _ _ _ _ _ => pe_dget hu (pv 1) (pe_ix ix_seq (pv 2) (pv 0) (fun _ _ => rfl)) (fun _ _ => rfl))) pa_nil)) pa_nil))))))), ?_⟩
    have hSl : S.length ≤ n := by
      have := sub_len S (List.range n) nd fun x hx => List.mem_range.mpr (hcl x hx).1
      simpa using this
    intro dp hdp
    have s1 : Same H (upd H dp (.dK [])) := same_upd (Same.refl H) hdp
    refine ⟨_, rfl, pm, rfl, ⟨_, s1.seq hS⟩, for_en (xs := nv S) (fun i σ H2 => ∃ o4 o5 o6, σ = [some (.ref pr), some (.ref pu), some (.ref pm), some (.ref dp), o4, o5, o6] ∧ Same H H2 ∧ H2 dp = some (.dK (plc S i))) ⟨_, _, _, rfl, s1, upd_same⟩ (fun i σ H2 _ ⟨_, _, _, _, s2, _⟩ => s2.seq hS) ?_ ?_⟩
    · rintro i x σ H2 T hx hT ⟨o4, o5, o6, rfl, s2, h2⟩
      obtain ⟨y, hy, rfl⟩ := nv_get' hx
      have hi : i < S.length := (List.getElem?_eq_some_iff.mp hy).1
      have ey : S[i] = y := (List.getElem?_eq_some_iff.mp hy).2
      have ndp : dp ≠ T := ne_of_none h2 hT
      have h2' : (upd H2 T (tupE T [.int (i : Int), .int (y : Int)])) dp = some (.dK (plc S i)) := by rw [upd_ne ndp]; exact h2
      refine ⟨T, _, rfl, upd_same, rfl, _, _, rfl, _, _, rfl, rfl, ?_⟩
      refine ⟨_, rfl, _, rfl, _, rfl, dp, _, rfl, DPut.k (k := (Sum.inl (y : Int) : Key)) h2' (by rw [plc_len]; exact small1000 (by omega)), ?_⟩
      refine ⟨_, _, _, rfl, same_upd (same_upd s2 (s2.free hT)) hdp, ?_⟩
      have hnone : valV (plc S i) (Sum.inl (y : Int) : Key) = none := by
        rw [plc_val nd (by omega) (by rw [← ey]; exact List.getElem_mem hi), idx_get nd hy, if_neg (Nat.lt_irrefl _)]
      have e0 : S.getD i 0 = y := by simp [List.getD_eq_getElem?_getD, hi, ey]
      rw [upd_same, putK_new _ hnone, plc_succ, e0]
    · rintro σ H2 ⟨o4, o5, o6, rfl, s2, h2⟩
      rw [nv_len] at h2
      -- one
      dsimp only [tSeq, tAsg, tCB, tCons]
      refine compAmong rfl rfl h2 (hR.same s2) (s2.seq hS) rr nd (by omega) (fun y hy => ⟨(hcl y hy).1, (hcl y hy).2.1⟩) ?_
      intro H3 d3 s3 h3
      refine ⟨d3, _, rfl, .inl ⟨SqL.of h3, fun t1 ht1 => ?_⟩⟩
      have s3' : Same H2 (upd H3 t1 (.tup (nv (among r S)))) := same_upd s3 (s3.free ht1)
      have s4 : Same H (upd H3 t1 (.tup (nv (among r S)))) := s2.trans s3'
      refine ⟨_, rfl, ?_⟩
      dsimp only [tSeq, tAsg, tCB, tCons]
      refine compAmong rfl rfl (s3' _ _ h2) (hU.same s4) (s4.seq hS) ru nd (by omega) (fun y hy => ⟨(hcl y hy).1, (hcl y hy).2.2⟩) ?_
      intro H5 d5 s5 h5
      refine ⟨d5, _, rfl, .inl ⟨SqL.of h5, fun t2 ht2 => ?_⟩⟩
      have s6 : Same (upd H3 t1 (.tup (nv (among r S)))) (upd H5 t2 (.tup (nv (among u S)))) := same_upd s5 (s5.free ht2)
      refine ⟨by show 2 ≤ sizeLine; decide, fun a ha => k _ a ?_ ⟨t1, t2, upd_same, ?_, ?_⟩⟩
      · exact same_upd (s4.trans s6) ((s4.trans s6).free ha)
      · have e1 := s6 t1 _ upd_same
        rw [upd_ne (ne_of_none e1 ha)]; exact e1
      · have e2 : (upd H5 t2 (.tup (nv (among u S)))) t2 = some (.tup (nv (among u S))) := upd_same
        rw [upd_ne (ne_of_none e2 ha)]; exact e2
end
end K1
namespace L2
open PySem PySem.Spec PyProof.Rows
section
variable {X : Cx} {o i value : Expr} {pos pos' : Pos} {to ti tv : TE}
/-- xs[i] = v -/
def sLPut (to ti tv : TE) : TS := fun D σ H => tv σ H fun v H1 => to σ H1 fun x H2 => ti σ H2 fun y H3 => rSetL x y v H3 fun H4 => D.nx σ H4
theorem ps_lput (ho : PE X o to) (hi : PE X i ti) (hv : PE X value tv) (hs : swapsWith value (some (.Subscript o i pos')) pos.line X.env = pure false) : PS X (.Assign [.Subscript o i pos'] value pos) (sLPut to ti tv) := by
  intro pins s σ H D I h
  refine wpAny_Assign_Subscript (thn (hv pins s σ H _ I h) fun r s1 ⟨v, H1, I1, rv, q1⟩ => thn (ho pins s1 σ H1 _ I1 q1) fun u s2 ⟨x, H2, I2, rx, q2⟩ => thn (hi pins s2 σ H2 _ I2 q2) fun iv s3 ⟨y, H3, I3, ry, q3⟩ => ?_) hs
  exact thn (set_list pins s3 σ H3 x y v u iv r _ I3 rx ry rv q3) fun _ s4 ⟨H4, I4, q4⟩ => ⟨σ, H4, I4, q4⟩
theorem PI.or {tg iter : Expr} {w1 w2 : TI} (h1 : PI X tg iter w1) (h2 : PI X tg iter w2) : PI X tg iter (fun σ H R => w1 σ H R ∨ w2 σ H R) := by
  intro pins s σ H R I h
  rcases h with h | h
  · exact h1 pins s σ H R I h
  · exact h2 pins s σ H R I h
end
end L2
namespace K1
open PySem L2 Sq
theorem nv_set (xs : List Nat) (j x : Nat) : (nv xs).set j (.int (x : Int)) = nv (xs.set j x) := by
  unfold nv
  rw [List.map_set]
theorem back_fill {n : Nat} {r bl : List Nat} (rr : Row n r) (hl : bl.length = n) (h : ∀ k, k < n → bl[nx r k]? = some k) : bl = back r := by
  refine List.ext_getElem? fun x => ?_
  by_cases hx : x < n
  · have e := h (r.idxOf x) (rr.idx_lt hx)
    rw [rr.nx_idx hx] at e
    rw [e, rr.back.get hx, back_nx rr hx]
  · rw [List.getElem?_eq_none (by omega), List.getElem?_eq_none (by rw [back_len, rr.len]; omega)]
end K1
namespace K1
open PySem L2 Sq
def spSheet2 (K : PySem.W.Frag) : Sp := fun vs H Q _ => ∃ (a : Addr) (ns : List Int) (j : Int) (n : Nat), vs = [.ref a, .int j, .int (n : Int)] ∧ SqL K H a (ns.map V.int) ∧ 0 ≤ j ∧ 1 ≤ n ∧ n ≤ 36 ∧
  ∀ (H' : Hp) (b : Addr) (m : Nat) (r u : List Nat), Same H H' → ShAt H' b r u → Sheet m r u → m ≤ n → Q (.ref b) H'
section
variable {P : Program} {w : World} {K : PySem.W.Frag} {mg : Str → Option Value} {base : Heap}
theorem scSheet2 : FnScope ["_law_script", "_law_at", "_law_many", "_law_right", "_law_up"] ["_law_script", "_law_at", "_law_many"] (defScope sSheet) := ⟨rfl, rfl, rfl, by decide +kernel, rfl, by decide +kernel, by decide +kernel⟩
theorem ok_sheet2 {f fl fm fa : Addr} {fd fdl fdm fda : FuncData} (T : Bi mg) (F : Fn K mg "_law_sheet" sSheet ["_law_script", "_law_at", "_law_many"] f fd)
    (FL : Fn K mg "_law_lines" sLines ["_law_script", "_law_at", "_law_many"] fl fdl) (GL : FnOk P w K mg base CX0 2 fl fdl ["_law_script", "_law_at", "_law_many"] (spLines K))
    (FM : Fn K mg "_law_met" sMet ["_law_right", "_law_up", "_law_first"] fm fdm) (GM : FnOk P w K mg base CX0 1 fm fdm ["_law_right", "_law_up", "_law_first"] (spMet K))
    (FA : Fn K mg "_law_among" sAmong ["_law_right", "_law_up", "_law_met_here"] fa fda) (GA : FnOk P w K mg base CX0 1 fa fda ["_law_right", "_law_up", "_law_met_here"] (spAmong K)) :
    FnOk P w K mg base CX0 3 f fd ["_law_script", "_law_at", "_law_many"] (spSheet2 K) := by
  refine F.F.ok scSheet2 (fun vs H Q E h => ?_) (fun cdv A outer s H vs Q E hr h => ?_)
  · obtain ⟨a, ns, j, n, rfl, _⟩ := h; rfl
  · obtain ⟨a, ns, j, n, rfl, hS, h0, h1, hn, k⟩ := h
    have hr1 : Room 1 _ := hr.mono (by decide)
    refine ⟨_, pss_cons (ps_asg (pe_call GL hr rfl FL.m FL.F.kp FL.b .nil pass0 (pa_cons (pv 0) (pa_cons (pv 1) (pa_cons (pv 2) pa_nil)))) (pg_lst2 rfl (pgs_cons (pg_name (i := 3) scSheet2.nd rfl (Or.inl rfl)) (pgs_cons (pg_name (i := 4) scSheet2.nd rfl (Or.inl rfl)) pgs_nil))))
      (pss_one (ps_ret (pe_call GA hr1 rfl FA.m FA.F.kp FA.b .nil pass0 (pa_cons (pv 3) (pa_cons (pv 4) (pa_cons (pe_callB (call_sorted rfl) rfl T.sorted boot_sorted (pa_cons (pe_call GM hr1 rfl FM.m FM.F.kp FM.b .nil pass0 (pa_cons (pv 3) (pa_cons (pv 4) (pa_cons pe_int pa_nil)))) pa_nil)) pa_nil)))))), ?_⟩
    refine ⟨_, rfl, _, rfl, _, rfl, a, ns, j, n, rfl, hS, h0, h1, hn, fun H1 l p q r u s1 hl hp hq rr ru => ?_⟩
    refine ⟨l, _, _, rfl, SqL.of hl, _, _, rfl, _, _, rfl, rfl, ?_⟩
    refine ⟨_, rfl, _, rfl, _, rfl, _, rfl, p, q, n, r, u, 0, rfl, .inl (SqL.of hp), .inl (SqL.of hq), rr, ru, h1, hn, fun H2 lm M s2 _ hm hM => ?_⟩
    have hMl : M.length ≤ n := by
      have := sub_len M (List.range n) hM.nd fun x hx => List.mem_range.mpr (hM.lt x hx)
      simpa using this
    refine ⟨lm, M, rfl, .inl (SqL.of hm), by omega, fun l2 S hl2 pS sS => ?_⟩
    have s3 : Same H1 (upd H2 l2 (.lst (nv S))) := same_upd s2 (s2.free hl2)
    have hS' := hM.perm pS
    refine ⟨p, q, l2, n, r, u, S, rfl, .inl (SqL.of (s3 _ _ hp)), .inl (SqL.of (s3 _ _ hq)), SqL.of upd_same, rr, ru, hn, hS'.nd, fun x hx => ⟨hS'.lt x hx, hS'.shut x hx⟩, fun H4 b s4 hb => ?_⟩
    exact k H4 b S.length _ _ (s1.trans (s3.trans s4)) hb (among_sheet hn rr ru hS' sS) (by rw [pS.length_eq]; exact hMl)
end
end K1
namespace L2
open PySem PySem.Spec PyProof.Rows
/-- the signs of a text, one by one -/
def Its (z : Str) : It := ⟨fun i _ => i < z.length, fun i H x H' => H' = H ∧ ∃ c, z.cps[i]? = some c ∧ x = .str ⟨#[c]⟩, fun i _ => z.length = i⟩
theorem turn_str {P : Program} {w : World} {K : PySem.W.Frag} {tg : Expr} (it : Addr) (z : Str) (t : Tok) : Turn P w K tg (Its z) [it] it (fun i h => h.IsStrIter it (strIterType z) z t i) := by
  have W : ∀ {A : Around}, A.handled = none → Walks P w A it [it] [it] z.cps.size (SignAt z) (fun i h => h.IsStrIter it (strIterType z) z t i) := by
    intro A hh
    unfold strIterType
    split
    · exact Walks.strAscii hh it z t
    · exact Walks.strWide hh it z t
  have hty : ["enumerate", "zip", "dict_itemiterator", "dict_reverseitemiterator", "odict_iterator", "itertools.zip_longest", "itertools.pairwise"].contains (strIterType z) = false := by
    unfold strIterType; split <;> decide
  exact {
    mem := by simp
    obj := fun i h st b hb => by
      have e : b = it := by simpa using hb
      subst e
      obtain ⟨o, e, c, d⟩ := st
      exact ⟨o, e, fun v z => by rw [d] at z; cases z⟩
    keep := fun i h h' st k => let ⟨o, ho, r⟩ := st; ⟨o, k it (by simp) o ho, r⟩
    item := by
      intro X hP hw hK hc i pins s σ H E I hf st hg
      subst hP hw hK
      obtain ⟨f0, f1, f2, f3, f4, f5⟩ := hf it (by simp)
      refine (W (I.ok.hd hc)).item i s _ _ hg st fun v h' tk hv st' kk => ?_
      obtain ⟨c, u, hc', rfl⟩ := hv
      have I1 : Inv X pins σ H { s with heap := h', toks := tk } := I.turned (fun b o hb e => kk b o (by simpa using hb) e) f0 f1 f3 f4 f5
      obtain ⟨o, e, c1, d⟩ := id st'
      exact ⟨_, rfl, go_of (s := { s with heap := h', toks := tk }) e c1 d hty ⟨.str ⟨#[c]⟩, H, I1, ⟨_, rfl⟩, ⟨rfl, c, hc', rfl⟩, st', fun b hb => (hf b hb).1⟩⟩
    done := by
      intro X hP hw hK hc i pins s σ H E I hf st hg
      subst hP hw hK
      obtain ⟨f0, f1, f2, f3, f4, f5⟩ := hf it (by simp)
      have hg : z.cps.size = i := hg
      subst hg
      exact (W (I.ok.hd hc)).done s _ _ st fun h' tk kk => ⟨rfl, I.turned (fun b o hb e => kk b o (by simpa using hb) e) f0 f1 f3 f4 f5⟩
    self := fun A i s Q E st h => by
      obtain ⟨o, e, c, d⟩ := id st
      unfold strIterType at st
      split at st
      · exact wpAny_pyIter_striter_ascii st h
      · exact wpAny_pyIter_striter_wide st h }
section
variable {X : Cx} {tg : Expr}
def iStr (tl : TE) : TI := fun σ H R => tl σ H fun x H1 => ∃ z, x = .str z ∧ R (Its z) H1
theorem pi_str {l : Expr} {tl : TE} (hl : PE X l tl) : PI X tg l (iStr tl) := by
  intro pins s σ H R I h
  refine thn (hl pins s σ H _ I h) fun v s1 ⟨x, H1, I1, r1, q1⟩ => ?_
  obtain ⟨z, e, q⟩ := q1
  subst e
  obtain ⟨t, rfl⟩ := r1
  refine wpAny_pyIter_strU ?_
  refine ⟨s1.heap.objs.size, [s1.heap.objs.size], _, _, H1, rfl, I1.kept (t' := s1.toks) fun b o e => Heap.get?_push_of_some _ e, turn_str _ z t, ⟨_, Heap.get?_push_size _ rfl, rfl, rfl⟩, fun b hb => ?_, q⟩
  have e : b = s1.heap.objs.size := by simpa using hb
  subst e
  exact I1.fpOk (Nat.le_refl _) (I1.hok.fresh (Nat.le_refl _))
/-- over the signs of a text -/
theorem for_str {z : Str} {g : TG} {tb : TS} {D : Ends} {σ : St} {H : Hp} (Pv : Nat → St → Hp → Prop) (h0 : Pv 0 σ H)
    (hs : ∀ i c σ H, z.cps[i]? = some c → Pv i σ H → g (.str ⟨#[c]⟩) σ H fun σ2 H2 => tb { D with nx := Pv (i + 1), ct := Pv (i + 1), bk := D.nx } σ2 H2) (hd : ∀ σ H, Pv z.length σ H → D.nx σ H) :
    ∃ W : Nat → Nat → St → Hp → Prop, (∃ m, W 0 m σ H) ∧ ∀ i m σ H, W i m σ H →
      ((Its z).stop i H ∧ D.nx σ H) ∨ ((Its z).go i H ∧ ∃ N : St → Hp → Prop, (∀ σ' H', N σ' H' → ∃ m', m' < m ∧ W (i + 1) m' σ' H') ∧ ∀ x H', (Its z).yld i H x H' → g x σ H' fun σ2 H2 => tb { D with nx := N, ct := N, bk := D.nx } σ2 H2) := by
  refine ⟨fun i m σ H => m = z.length - i ∧ i ≤ z.length ∧ Pv i σ H, ⟨z.length, by simp, Nat.zero_le _, h0⟩, ?_⟩
  rintro i m σ H ⟨rfl, hi, hp⟩
  rcases Nat.lt_or_ge i z.length with c | c
  · refine .inr ⟨c, Pv (i + 1), fun σ' H' q => ⟨z.length - (i + 1), by omega, rfl, c, q⟩, ?_⟩
    rintro x H' ⟨rfl, ch, hc, rfl⟩
    exact hs i ch σ _ hc hp
  · have e : i = z.length := Nat.le_antisymm hi c
    subst e
    exact .inl ⟨rfl, hd σ H hp⟩
theorem strs_of : ∀ {zs : List Str} {us : List Value}, Vals (zs.map V.str) us → StrsAre us zs
  | [], _, .nil => .nil
  | z :: zs, _, .cons ⟨t, e⟩ r => by subst e; exact .cons z t (strs_of r)
theorem vals_of_strs : ∀ {l : List (Str × Tok)} , Vals ((l.map (·.1)).map V.str) (strValues l)
  | [] => .nil
  | (x, t) :: l => .cons ⟨t, rfl⟩ vals_of_strs
/-- sep.join(xs) of a list or a tuple of texts -/
def rJoin (K : PySem.W.Frag) : V → List V → Hp → VK → Prop := fun x vs H Q => ∃ z p zs, x = .str z ∧ vs = [.ref p] ∧ (SqL K H p (zs.map V.str) ∨ SqT K H p (zs.map V.str)) ∧ (zs.map (·.length)).sum + zs.length * z.length ≤ 16777216 ∧ Q (.str (Txt.join z zs)) H
theorem mt_join : MtM X "str.join" (rJoin X.K) := by
  intro pins s σ H x vs v us Q I rx rv h
  obtain ⟨z, p, zs, rfl, rfl, hS, hz, q⟩ := h
  obtain ⟨t, rfl⟩ := rx
  obtain ⟨u, rfl, ru⟩ := rv.one
  cases ru
  rcases hS with hS | hS
  · obtain ⟨its, rv, pl, _⟩ := I.list hS
    exact join_list pl.isList (by simpa using strs_of rv) hz fun t' k => ⟨.str (Txt.join z zs), H, I.tok k, ⟨_, rfl⟩, q⟩
  · obtain ⟨its, rv, pl, _⟩ := I.tuple hS
    exact join_tuple pl (by simpa using strs_of rv) hz fun t' k => ⟨.str (Txt.join z zs), H, I.tok k, ⟨_, rfl⟩, q⟩
/-- x.split(y) -/
def rSplit : V → List V → Hp → VK → Prop := fun x vs H Q => ∃ z y, x = .str z ∧ vs = [.str y] ∧ 0 < y.length ∧ z.length ≤ 1000000 ∧ ∀ l, H l = none → Q (.ref l) (upd H l (.lst ((Txt.split z y).map V.str)))
theorem mt_split : MtM X "str.split" rSplit := by
  intro pins s σ H x vs v us Q I rx rv h
  obtain ⟨z, y, rfl, rfl, hy, hz, q⟩ := h
  obtain ⟨t, rfl⟩ := rx
  obtain ⟨u, rfl, t', rfl⟩ := rv.one
  have hline : 1000002 ≤ sizeLine := by decide
  have hocc : (Builtin.Str.partsBetween z (Builtin.Str.occurrences z y 0 z.length (z.length + 1)) y.length).length ≤ sizeLine := by
    rw [len_partsBetween]
    have := StrLaws.occ_length_le z y 0 z.length (z.length + 1)
    omega
  have hne : (y.length == 0) = false := by
    apply Bool.eq_false_iff.mpr
    intro e
    have := beq_iff_eq.mp e
    omega
  have fin : ∀ (l : List (Str × Tok)) (k : Nat), l.map (·.1) = Txt.split z y → l.length ≤ sizeLine → EP X pins σ Q (.ref s.heap.objs.size) { s with heap := s.heap.push { cls := .type "list", data := .seq (strValues l).toArray }, toks := k } := fun l k e hl => by
    have hv : Vals ((Txt.split z y).map V.str) (strValues l) := by rw [← e]; exact vals_of_strs
    exact ⟨.ref s.heap.objs.size, _, I.lnew hv (by rw [← e]; simpa using hl), rfl, q _ I.fresh⟩
  cases h1 : (decide (z.length < y.length) || decide (Builtin.Str.strKind z < Builtin.Str.strKind y))
  · cases hf : (Builtin.Str.occurrences z y 0 z.length (z.length + 1)).isEmpty
    · refine call_meets F.slot_str_split (typeIs_str _ _ _) F.entry_str_split (F.args_str_split_2 _ _) (meets_str_split_sep z y t t' h1 hne hf (by omega) hocc) ?_
      show wants _ _ _ { s with toks := _, heap := s.heap.push { cls := .type "list", data := .seq (strsFrom s.toks (Builtin.Str.partsBetween z (Builtin.Str.occurrences z y 0 z.length (z.length + 1)) y.length)).toArray } }
      rw [strsFrom_eq]
      refine fin (numbered s.toks _) _ ((numbered_texts _ _).trans ((if_neg (ne_true_of_eq_false h1)).trans (if_neg (ne_true_of_eq_false hf))).symm) ?_
      have e := congrArg List.length (numbered_texts s.toks (Builtin.Str.partsBetween z (Builtin.Str.occurrences z y 0 z.length (z.length + 1)) y.length))
      rw [List.length_map] at e
      rw [e]; exact hocc
    · exact call_meets F.slot_str_split (typeIs_str _ _ _) F.entry_str_split (F.args_str_split_2 _ _) (meets_str_split_not_found z y t t' h1 hne hf) (fin [(z, t)] s.toks ((if_neg (ne_true_of_eq_false h1)).trans (if_pos hf)).symm (by show 1 ≤ sizeLine; decide))
  · exact call_meets F.slot_str_split (typeIs_str _ _ _) F.entry_str_split (F.args_str_split_2 _ _) (meets_str_split_cannot_occur z y t t' h1) (fin [(z, t)] s.toks (if_pos h1).symm (by show 1 ≤ sizeLine; decide))
/-- x.index(y), y in x -/
def rIndexS : V → List V → Hp → VK → Prop := fun x vs H Q => ∃ z y i rest, x = .str z ∧ vs = [.str y] ∧ Builtin.Str.occurrences z y 0 z.length 1 = i :: rest ∧ Q (.int (i : Nat)) H
theorem mt_indexS : MtM X "str.index" rIndexS := by
  intro pins s σ H x vs v us Q I rx rv h
  obtain ⟨z, y, i, rest, rfl, rfl, ho, q⟩ := h
  obtain ⟨t, rfl⟩ := rx
  obtain ⟨u, rfl, t', rfl⟩ := rv.one
  exact SC.index ho ⟨.int (i : Nat), H, I.tok _, ⟨_, rfl⟩, q⟩
/-- x.find(y) -/
def rFindS : V → List V → Hp → VK → Prop := fun x vs H Q => ∃ z y, x = .str z ∧ vs = [.str y] ∧ Q (.int (match Builtin.Str.occurrences z y 0 z.length 1 with | i :: _ => (i : Int) | [] => -1)) H
/-- {e}, e a whole number -/
def tFmtI (te : TE) : TE := fun σ H Q => te σ H fun x H1 => ∃ i : Int, x = .int i ∧ i.natAbs.log2 < 1920 ∧ Q (.str (toString i)) H1
theorem pe_fmtI {e : Expr} {te : TE} {pos : Pos} (he : PE X e te) : PE X (.FormattedValue e (-1) none pos) (tFmtI te) := by
  intro pins s σ H Q I h
  refine wpAny_FormattedValue_plain (thn (he pins s σ H _ I h) fun v s1 ⟨x, H1, I1, r1, i, e, hz, q⟩ => ?_)
  subst e
  obtain ⟨t, rfl⟩ := r1
  exact wpAny_formatField_int hz ⟨.str (toString i), H1, I1.tok _, ⟨_, rfl⟩, q⟩
/-- the parts of an f-string, from the left -/
def tParts : List TE → Str → TE
  | [], acc => fun _ H Q => Q (.str acc) H
  | t :: ts, acc => fun σ H Q => t σ H fun x H1 => ∃ y, x = .str y ∧ (acc ++ y).length ≤ sizeLine ∧ tParts ts (acc ++ y) σ H1 Q
inductive PParts (X : Cx) : List Expr → List TE → Prop
  | nil : PParts X [] []
  | cons {e : Expr} {t : TE} {es : List Expr} {ts : List TE} : PE X e t → PParts X es ts → PParts X (e :: es) (t :: ts)
theorem evalEach_map (env : Env) : ∀ es : List Expr, evalEach es env = es.map fun e => eval e env
  | [] => rfl
  | e :: es => by
    show eval e env :: evalEach es env = _
    rw [evalEach_map env es]; rfl
theorem joins_of {pins : List (Addr × Obj)} : ∀ {es : List Expr} {ts : List TE} {acc : Str} {s : Shared} {σ : St} {H : Hp} {Q : VK}, PParts X es ts → Inv X pins σ H s → acc.length ≤ sizeLine → tParts ts acc σ H Q →
    Joins (model X.prog X.w) X.A X.xe (es.map fun e => eval e X.env) acc (fun out s₁ => out.length ≤ sizeLine ∧ EP X pins σ Q (.str out s₁.toks) { s₁ with toks := s₁.toks + 1 }) s
  | [], _, acc, s, σ, H, Q, .nil, I, hz, h => ⟨hz, .str acc, H, I.tok _, ⟨_, rfl⟩, h⟩
  | e :: es, _, acc, s, σ, H, Q, .cons h1 hr, I, hz, h => by
    refine thn (h1 pins s σ H _ I h) fun v s1 ⟨x, H1, I1, r1, y, ex, hy, q⟩ => ?_
    subst ex
    obtain ⟨t, rfl⟩ := r1
    exact ⟨y, t, rfl, hy, joins_of hr I1 hy q⟩
theorem pe_fstr {e1 e2 : Expr} {es : List Expr} {ts : List TE} {pos : Pos} (h : PParts X (e1 :: e2 :: es) ts) : PE X (.JoinedStr (e1 :: e2 :: es) pos) (tParts ts Str.empty) := by
  intro pins s σ H Q I hw
  refine wpAny_JoinedStr ?_
  rw [evalEach_map]
  exact joins_of h I (by decide) hw
end
end L2
namespace L2
open PySem PySem.Spec PyProof.Rows
/-- e: an exception of the class C with the dict d; B: what stays whatever the flight does; told: it has a traceback, whose flight mark is fl -/
def ExAt (B : Heap) (e : Addr) (C : Value) (d : Option Addr) (h : Heap) : Prop :=
  ∃ oe vs, h.get? e = some oe ∧ oe.cls = C ∧ oe.dict = d ∧ oe.data = .fields vs ∧ vs[2]? = some .none ∧ (vs[1]? = some .none ∨ ∃ T oT ts fl, vs[1]? = some (.ref T) ∧ B.get? T = none ∧ T ≠ e ∧ h.get? T = some oT ∧ oT.data = .fields ts ∧ ts[3]? = some fl)
def ExOn (B : Heap) (e : Addr) (C : Value) (d : Option Addr) (fl : Value) (h : Heap) : Prop :=
  ∃ oe vs T oT ts, h.get? e = some oe ∧ oe.cls = C ∧ oe.dict = d ∧ (oe.data = .fields vs ∧ vs[2]? = some .none) ∧ vs[1]? = some (.ref T) ∧ B.get? T = none ∧ T ≠ e ∧ h.get? T = some oT ∧ oT.data = .fields ts ∧ ts[3]? = some fl
theorem ExOn.at {B h : Heap} {e : Addr} {C fl : Value} {d : Option Addr} (x : ExOn B e C d fl h) : ExAt B e C d h := by
  obtain ⟨oe, vs, T, oT, ts, h1, h2, h3, h4, h5, h6, h7, h8, h9, h10⟩ := x
  exact ⟨oe, vs, h1, h2, h3, h4.1, h4.2, .inr ⟨T, oT, ts, fl, h5, h6, h7, h8, h9, h10⟩⟩
/-- what a station asks and gives -/
structure Air (B : Heap) (l : List Env) (e : Addr) (h : Heap) : Prop where
  stays : B.StaysIn h
  new : B.get? e = none
  frames : h.FunFrames B l
section
variable {M : Model} {A : Around} {E : Value → Shared → Prop} {s : Shared}
theorem dict_mapFields (o : Obj) (f : Array Value → Array Value) : (o.mapFields f).dict = o.dict := by
  obtain ⟨c, d, dt, sl⟩ := o
  cases dt <;> rfl
/-- an entry of the traceback is laid -/
theorem air_entry {B : Heap} {env : Env} {outer : List Env} {L e : Addr} {oe : Obj} {vs : Array Value} {head : Value} {had : Bool} {Q : Unit → Shared → Prop}
    (fr : A.frames = some (env :: outer)) (fl : env.frame = some L) (a : Air B (env :: outer) e s.heap) (he : s.heap.get? e = some oe) (hd : oe.data = .fields vs) (hcx : vs[2]? = some .none)
    (q : ∀ h', Air B (env :: outer) e h' → ExOn B e oe.cls oe.dict (rawInt L) h' → s.heap.UpToSlots h' → Q () { s with heap := h' }) :
    wpAny M A (do let f ← frameOf env; let pl ← entryPlaceOf L had; let b ← EntryCells.newEntry head f .none (rawInt L) .none pl; setField (.ref e) 1 b) Q E s := by
  have hz2 : 2 < vs.size := (Array.getElem?_eq_some_iff.mp hcx).1
  have hz : 1 < vs.size := by omega
  have nfr : e ∉ (env :: outer).filterMap (·.frame) := fun z => by
    obtain ⟨_, o, ho, hn⟩ := a.frames.mem z
    rw [he] at ho
    cases ho
    exact hn vs hd
  refine wpAny_bind (wpAny_frameOf_fun fr a.frames fl fun h1 so => ?_)
  refine wpAny_bind (wpAny_entryPlaceOf fun pl hpl => ?_)
  unfold EntryCells.newEntry newFields
  refine wpAny_bind (wpAny_newObj_type ?_ (hpl.sizeOk5 _ _ _ _ _))
  have he1 : h1.get? e = some oe := by rw [so.2.1 e nfr]; exact he
  have st1 : B.StaysIn h1 := fun b o hb => by
    rw [so.2.1 b fun z => by rw [(a.frames.mem z).1] at hb; cases hb]
    exact a.stays b o hb
  generalize hrec : ({ cls := .type "traceback", dict := none, data := .fields ([head, .ref L, .none, rawInt L, .none] ++ (if pl.isEmpty then List.replicate 6 Value.none else pl)).toArray } : Obj) = rec
  have rdat : ∃ ts : Array Value, rec.data = .fields ts ∧ ts[3]? = some (rawInt L) := by
    refine ⟨([head, .ref L, .none, rawInt L, .none] ++ (if pl.isEmpty then List.replicate 6 Value.none else pl)).toArray, by rw [← hrec], ?_⟩
    simp
  obtain ⟨ts, rd, r3⟩ := rdat
  have he2 := Heap.get?_push_of_some (h := h1) rec he1
  refine wpAny_setField he2 hd hz ?_
  have nT : h1.objs.size ≠ e := Nat.ne_of_gt (Heap.lt_size he1)
  have dat3 := Obj.data_mapFields hd (·.setIfInBounds 1 (Value.ref h1.objs.size))
  have he3 := Heap.get?_update_self (Obj.mapFields (·.setIfInBounds 1 (Value.ref h1.objs.size))) he2 (Obj.isFreed_of_fields dat3)
  have rnf : rec.isFreed = false := Obj.isFreed_of_fields rd
  have hT3 : ((h1.push rec).update e (Obj.mapFields (·.setIfInBounds 1 (Value.ref h1.objs.size)))).get? h1.objs.size = some rec := by
    rw [Heap.get?_update_other _ _ (Ne.symm nT)]; exact Heap.get?_push_size h1 rnf
  have keep : ∀ b o, b ≠ e → h1.get? b = some o → ((h1.push rec).update e (Obj.mapFields (·.setIfInBounds 1 (Value.ref h1.objs.size)))).get? b = some o := fun b o nb hb => by
    rw [Heap.get?_update_other _ _ (Ne.symm nb)]; exact Heap.get?_push_of_some _ hb
  have nrec : ∀ b o, s.heap.get? b = some o → (∀ ws, o.data ≠ .fields ws) → b ≠ e := fun b o hb hn z => by
    rw [z, he] at hb
    cases hb
    exact hn vs hd
  refine q _ ⟨fun b o hb => keep b o (fun z => by rw [z, a.new] at hb; cases hb) (st1 b o hb), a.new, a.frames.of_keeps fun b o hb hn => ?_⟩ ?_ fun b o hb hn => ?_
  · obtain ⟨sl, e1⟩ := so.2.2 b o hb
    exact ⟨_, keep b _ (nrec b o hb hn) e1, rfl⟩
  · refine ⟨_, _, h1.objs.size, rec, ts, he3, Obj.cls_mapFields _ _, dict_mapFields _ _, ⟨dat3, by rw [Array.getElem?_setIfInBounds_ne (by decide)]; exact hcx⟩, by simp [hz], st1.fresh, nT, hT3, rd, r3⟩
  · obtain ⟨sl, e1⟩ := so.2.2 b o hb
    exact ⟨sl, keep b _ (nrec b o hb hn) e1⟩
/-- a traceback's mark is set -/
theorem air_mark {B : Heap} {l : List Env} {e T : Addr} {oe oT : Obj} {vs ts : Array Value} {fl v : Value} (a : Air B l e s.heap) (he : s.heap.get? e = some oe) (hd : oe.data = .fields vs) (hcx : vs[2]? = some .none) (h1 : vs[1]? = some (.ref T)) (nT : B.get? T = none) (nTe : T ≠ e)
    (hT : s.heap.get? T = some oT) (hdT : oT.data = .fields ts) (h3 : ts[3]? = some fl) {Q : Unit → Shared → Prop}
    (q : ∀ h', Air B l e h' → h'.get? e = some oe → ExOn B e oe.cls oe.dict v h' → s.heap.UpToSlots h' → Q () { s with heap := h' }) : wpAny M A (setField (.ref T) 3 v) Q E s := by
  have z3 : 3 < ts.size := (Array.getElem?_eq_some_iff.mp h3).1
  have other : ∀ b, b ≠ T → (s.heap.update T (Obj.mapFields (·.setIfInBounds 3 v))).get? b = s.heap.get? b := fun b nb => Heap.get?_update_other _ _ (Ne.symm nb)
  have nrec : ∀ b o, s.heap.get? b = some o → (∀ ws, o.data ≠ .fields ws) → b ≠ T := fun b o hb hn z => by
    rw [z, hT] at hb
    cases hb
    exact hn ts hdT
  have he' := (other e (Ne.symm nTe)).trans he
  refine wpAny_setField hT hdT z3 (q _ ⟨fun b o hb => ?_, a.new, a.frames.of_keeps fun b o hb hn => ⟨o, (other b (nrec b o hb hn)).trans hb, rfl⟩⟩ he' ?_ fun b o hb hn => ⟨o.slots, (other b (nrec b o hb hn)).trans hb⟩)
  · exact (other b fun z => by rw [z, nT] at hb; cases hb).trans (a.stays b o hb)
  · exact ⟨oe, vs, T, _, _, he', rfl, rfl, ⟨hd, hcx⟩, h1, nT, nTe, Heap.get?_update_self _ hT (Obj.isFreed_of_fields (Obj.data_mapFields hdT _)), Obj.data_mapFields hdT _, by simp [z3]⟩
/-- the frame is noted -/
theorem air_note {B : Heap} {env : Env} {outer : List Env} {L e : Addr} {C : Value} {d : Option Addr} {Q : Unit → Shared → Prop} (fr : A.frames = some (env :: outer)) (fl : env.frame = some L) (a : Air B (env :: outer) e s.heap) (x : ExAt B e C d s.heap)
    (q : ∀ h', Air B (env :: outer) e h' → ExOn B e C d (rawInt L) h' → s.heap.UpToSlots h' → Q () { s with heap := h' }) : wpAny M A (noteFrame (.ref e) env) Q E s := by
  obtain ⟨oe, vs, he, rfl, rfl, hd, hz, hv⟩ := x
  unfold noteFrame
  simp only [fl]
  rcases hv with hv | ⟨T, oT, ts, f0, hv, nT, nTe, hT, hdT, h3⟩
  · refine wpAny_bind (wpAny_field he hd hv ?_)
    rw [if_neg (by decide)]
    exact air_entry fr fl a he hd hz q
  · refine wpAny_bind (wpAny_field he hd hv ?_)
    rw [if_pos (show (Value.ref T != Value.none) = true from by simp)]
    refine wpAny_bind (wpAny_field hT hdT h3 ?_)
    by_cases e0 : (f0 == rawInt L) = true
    · rw [if_pos e0]
      have e1 : f0 = rawInt L := by simpa using e0
      subst e1
      exact wpAny_pure (q s.heap a ⟨oe, vs, T, oT, ts, he, rfl, rfl, ⟨hd, hz⟩, hv, nT, nTe, hT, hdT, h3⟩ (Heap.UpToSlots.refl _))
    · rw [if_neg e0]
      refine wpAny_bind (air_mark a he hd hz hv nT nTe hT hdT h3 fun h1 a1 he1 _ u1 => ?_)
      exact air_entry (s := { s with heap := h1 }) fr fl a1 he1 hd hz fun h2 a2 x2 u2 => q h2 a2 x2 (u1.trans u2)
/-- the flight's mark -/
theorem air_flight {B : Heap} {l : List Env} {e : Addr} {C f0 : Value} {d : Option Addr} {o : Option Addr} {Q : Unit → Shared → Prop} (a : Air B l e s.heap) (x : ExOn B e C d f0 s.heap)
    (q : ∀ h', Air B l e h' → ExOn B e C d (o.elim .none fun f => rawInt f) h' → s.heap.UpToSlots h' → Q () { s with heap := h' }) : wpAny M A (setFlight (.ref e) o) Q E s := by
  obtain ⟨oe, vs, T, oT, ts, he, rfl, rfl, ⟨hd, hcx⟩, hv, nT, nTe, hT, hdT, h3⟩ := x
  unfold setFlight
  refine wpAny_bind (wpAny_field he hd hv ?_)
  rw [if_pos (show (Value.ref T != Value.none) = true from by simp)]
  exact air_mark a he hd hcx hv nT nTe hT hdT h3 fun h' a' _ x' u' => q h' a' x' u'
theorem Air.tail {B : Heap} {env : Env} {outer : List Env} {e : Addr} {h : Heap} (a : Air B (env :: outer) e h) : Air B outer e h := ⟨a.stays, a.new, a.frames.2.2⟩
/-- the frame is left -/
theorem air_leave {B : Heap} {env : Env} {outer : List Env} {L e : Addr} {C : Value} {d : Option Addr} {Q : Unit → Shared → Prop} (fr : A.frames = some (env :: outer)) (fl : env.frame = some L) (a : Air B (env :: outer) e s.heap) (x : ExAt B e C d s.heap)
    (q : ∀ h', Air B outer e h' → ExAt B e C d h' → s.heap.UpToSlots h' → Q () { s with heap := h' }) : wpAny M A (leaving env (.ref e)) Q E s := by
  unfold leaving
  refine wpAny_bind (air_note fr fl a x fun h1 a1 x1 u1 => ?_)
  exact air_flight (s := { s with heap := h1 }) a1 x1 fun h2 a2 x2 u2 => q h2 a2.tail x2.at (u1.trans u2)
end
/-- what was there ahead, and is kept in B; the frames up to their slots -/
structure UnB (fs : List Addr) (H H' : Hp) (h B h' : Heap) : Prop where
  keep : ∀ b o, h.get? b = some o → H b = none → b ∉ fs → B.get? b = some o
  slot : ∀ b o, h.get? b = some o → H b = none → b ∈ fs → ∃ sl, h'.get? b = some { o with slots := sl }
  free : ∀ b o, h.get? b = some o → H b = none → H' b = none
  there : ∀ b o, h.get? b = some o → b ∉ fs → ∃ o', B.get? b = some o'
  tups : ∀ b xs, H b = some (.tup xs) → H' b = some (.tup xs)
  frzs : ∀ b o u, H b = some (.frz o u) → H' b = some (.frz o u)
  tbls : ∀ b ps, H b = some (.tbl ps) → ∃ more, H' b = some (.tbl (ps ++ more))
/-- the exception e flies, over the frames at outer; H, s: ahead of the call; H': what is tracked now -/
structure Fly (P : Program) (w : World) (outer : List Env) (H : Hp) (s : Shared) (C : Value) (d : Option Addr) (H' : Hp) (e : Addr) (s' : Shared) : Prop where
  os : s'.os = s.os
  bare : AllBare s'.gens
  ex : ∃ B, Air B outer e s'.heap ∧ ExAt B e C d s'.heap ∧ HOk P w H' B ∧ UnB (frs outer) H H' s.heap B s'.heap
def CX1 (P : Program) (w : World) : CXT := fun outer H s E ev s' => ∃ e C d H', ev = .ref e ∧ Fly P w outer H s C d H' e s' ∧ E C d H'
end L2
namespace L2
open PySem PySem.Spec PyProof.Rows
abbrev vE : List Value := [.type "ValueError", .type "Exception", .type "BaseException", .type "object"]
/-- a class of the text under ValueError, without an __init__ of its own -/
def ExCls (K : PySem.W.Frag) (C : Addr) : Prop := PySem.W.excIn K C vE "ValueError.__new__" = true
theorem ExCls.obj {K : PySem.W.Frag} {C : Addr} {h : Heap} (q : ExCls K C) (k : K.In h) :
    ∃ bm N nm qn bs hd sn sub ab col dd k0 k1 k2 k3 k5 mN, h.get? C = some (excClassObj nm qn C N bs bm hd sn sub ab col dd k0 k1 k2 k3 k5 "ValueError.__new__") ∧ h.Ns N mN ∧ mN "__init__" = none ∧ OwnTail h vE bm := by
  unfold ExCls PySem.W.excIn at q
  split at q
  · rename_i dd cd sl ho
    split at q
    · rename_i C1 bm k0 k1 k2 k3 n k5 hm hs
      simp only [Bool.and_eq_true, beq_iff_eq, Bool.not_eq_true'] at q
      obtain ⟨⟨⟨⟨⟨e1, e2⟩, hdel⟩, ht⟩, hok⟩, hni⟩ := q
      subst e1 e2
      cases cd
      dsimp only at hm hdel hok hni
      subst hm hdel
      have esl : sl = #[k0, k1, k2, k3, some (.builtin "ValueError.__new__"), k5] := by
        cases sl
        simp only at hs
        rw [hs]
      subst esl
      exact ⟨bm, _, _, _, _, _, _, _, _, _, dd, k0, k1, k2, k3, k5, _, k _ _ ho, .of_isNs (PySem.W.isNs_of_in k hok), PySem.W.nsMap_none_of_in k hok hni, PySem.W.tail_of_in k ht⟩
    · cases q
  · cases q
/-- an exception just made here reaches what is wanted of exceptions -/
def Throws (X : Cx) (E : XK) : Prop := ∀ (pins : List (Addr × Obj)) (σ : St) (H : Hp) (s : Shared) (h' : Heap) (e : Addr) (C : Value) (args : List Value), Inv X pins σ H s → Heap.MadeExcOf s.heap h' e C args → E C none H → X.xe (.ref e) { s with heap := h' }
def tRaise (ta : TA) (C : Addr) (E : XK) : TS := fun _ σ H => ta σ H fun vs H1 => vs.length ≤ sizeLine ∧ E (.ref C) none H1
section
variable {X : Cx} {x : Str} {C : Addr} {e₀ : Expr} {rest : List Expr} {ta : TA} {E : XK} {np cpos pos : Pos}
theorem ps_raise (hc : X.calm = true) (hC : ExCls X.K C) (hg : Gl X x) (hm : X.mg x = some (.ref C)) (ht : Throws X E) (ha : PA X (e₀ :: rest) ta) (hdb : (x == ("__debug__" : Str)) = false := by decide)
    (he : starEach (e₀ :: rest) X.env = (false, eval e₀ X.env) :: starEach rest X.env := by rfl) (hpl : (backTo cpos (starEach rest X.env)).any (·.1) = false := by rfl) :
    PS X (.Raise (some (.Call (.Name x np) (e₀ :: rest) [] cpos)) none pos) (tRaise ta C E) := by
  intro pins s σ H D I h
  obtain ⟨bm, N, nm, qn, bs, hd, sn, sub, ab, col, dd, k0, k1, k2, k3, k5, mN, oC, nN, ni, TL⟩ := hC.obj I.mod.kin
  have FB := PySem.F.excBase_ValueError
  refine wpAny_Raise_call_subT (C := C) (nm := nm) (q := qn) (N := N) (bs := bs) (bm := bm) (hdct := hd) (sn := sn) (sub := sub) (ab := ab) (col := col) (dd := dd) (k0 := k0) (k1 := k1) (k2 := k2) (k3 := k3) (k5 := k5)
    FB (mN := mN) (TL.hasType FB.hasBase) (I.ok.hd hc) (by rw [he]; show (false || (backTo cpos (starEach rest X.env)).any (·.1)) = false; rw [hpl]; rfl) ni (ld_glob I hg hm ⟨rfl, ?_⟩ hdb)
  have hA := ha cpos pins s σ H _ I h
  rw [he] at hA ⊢
  refine Calls.evalArgs_plain (thn hA fun us s2 ⟨vs, H2, I2, r2, hz, q2⟩ => ⟨rfl, by rw [← r2.length]; exact hz, I2.bk _ _ oC, nN.keeps I2.bk, TL.keeps I2.bk, fun h' e hm => ht pins σ H2 s2 h' e _ _ I2 hm q2⟩)
end
/-- the tracked things lie in B -/
theorem hok_hide {P : Program} {w : World} {H : Hp} {h : Heap} {l : List Addr} (x : HOk P w H h) (fr : ∀ b ∈ l, H b = none) : HOk P w H (PySem.W.hideAll h l) := fun b u e => by
  refine (x b u e).stay (fun c v hc q => PySem.W.hideAll_get _ q fun z => ?_) (fun _ q => q) fun _ _ q => q
  rcases hc with hc | hc
  · rw [hc] at z
    rw [fr b z] at e; cases e
  · rw [fr c z] at hc; cases hc
theorem UnB.un {fs : List Addr} {H H' : Hp} {h B h' : Heap} (u : UnB fs H H' h B h') (st : B.StaysIn h') (fr : ∀ b ∈ fs, H b = none) : Un fs [] H H' h h' where
  keep := fun b o q n hb _ => st _ _ (u.keep b o q n hb)
  slot := fun b o q n hb _ => u.slot b o q n hb
  free := fun b o q n _ => u.free b o q n
  there := fun b o q _ => by
    by_cases hb : b ∈ fs
    · obtain ⟨sl, e⟩ := u.slot b o q (fr b hb) hb
      exact ⟨_, e⟩
    · obtain ⟨o', e⟩ := u.there b o q hb
      exact ⟨o', st _ _ e⟩
  tups := u.tups
  frzs := u.frzs
  tbls := u.tbls
section
variable {P : Program} {w : World} {K : PySem.W.Frag} {mg : Str → Option Value} {base : Heap} {N : List Str} {qual : Str} {scope : Scope} {f : Addr} {cd : Value} {A : Around} {outer : List Env} {s : Shared} {H : Hp} {E E' : XK}
/-- the frames of a def's body -/
theorem frs_cons {env : Env} {l : List Env} {L : Addr} (h : env.frame = some L) : frs (env :: l) = L :: frs l := by unfold frs; rw [List.filterMap_cons, h]
/-- behind the callee: what was ahead of the def is in B -/
theorem UnB.after {X : Cx} {pins : List (Addr × Obj)} {σ : St} {Hc H' : Hp} {sc : Shared} {B h' h2 : Heap} {e : Addr} (I : Inv X pins σ Hc sc) (hex : X.ex = []) (hst : X.stack = X.env :: X.outer) (hfr : X.env.frame = some X.env.locals)
    (a : Air B X.stack e h') (u : UnB (frs X.stack) Hc H' sc.heap B h') (up : h'.UpToSlots h2) : UnB (frs X.outer) X.H₀ H' X.s₀.heap B h2 := by
  have nex : ∀ b : Addr, b ∉ X.ex := fun b z => by rw [hex] at z; cases z
  have efr : frs X.stack = X.env.locals :: frs X.outer := by rw [hst, frs_cons hfr]
  have old : ∀ b o, X.s₀.heap.get? b = some o → b ∉ frs X.outer → b ∉ frs X.stack := fun b o q hb z => by
    rw [efr] at z
    rcases List.mem_cons.mp z with z | z
    · have l1 := Heap.lt_size q
      rw [z] at l1
      exact absurd (Nat.lt_of_lt_of_le l1 I.ok.above) (Nat.lt_irrefl _)
    · exact hb z
  have inn : ∀ b, b ∈ frs X.outer → b ∈ frs X.stack := fun b hb => by rw [efr]; exact List.mem_cons_of_mem _ hb
  exact {
    keep := fun b o q n hb => u.keep b o (I.base.keep b o q n hb (nex b)) (I.base.free b o q n (nex b)) (old b o q hb)
    slot := fun b o q n hb => by
      obtain ⟨sl, e1⟩ := I.base.slot b o q n hb (nex b)
      obtain ⟨sl2, e2⟩ := u.slot b _ e1 (I.base.free b o q n (nex b)) (inn b hb)
      obtain ⟨_, o3, e3, nf⟩ := a.frames.mem (inn b hb)
      have : o3 = { ({ o with slots := sl } : Obj) with slots := sl2 } := by rw [e2] at e3; exact (Option.some.inj e3).symm
      subst this
      obtain ⟨sl3, e4⟩ := up b _ e2 nf
      exact ⟨sl3, e4⟩
    free := fun b o q n => by
      obtain ⟨o1, e1⟩ := I.base.there b o q (nex b)
      exact u.free b o1 e1 (I.base.free b o q n (nex b))
    there := fun b o q hb => by
      obtain ⟨o1, e1⟩ := I.base.there b o q (nex b)
      exact u.there b o1 e1 (old b o q hb)
    tups := fun b xs q => u.tups b xs (I.base.tups b xs q)
    frzs := fun b o v q => u.frzs b o v (I.base.frzs b o v q)
    tbls := fun b ps q => by
      obtain ⟨m1, e1⟩ := I.base.tbls b ps q
      obtain ⟨m2, e2⟩ := u.tbls b _ e1
      exact ⟨m1 ++ m2, by rw [e2, Array.append_assoc]⟩ }
theorem pass1 (hE : ∀ C d H', E' C d H' → E C d H') : Passes (CX1 P w) (cxOf (CX1 P w) P w K mg base N qual scope f cd A outer s H E) E' := by
  rintro pins σ Hc sc ev s' I ⟨e, C, d, H', rfl, fly, hq⟩
  obtain ⟨B, a, x, hok, u⟩ := fly.ex
  refine air_leave (B := B) (L := s.heap.objs.size) I.ok.frames rfl a x fun h2 a2 x2 up => ?_
  exact ⟨e, C, d, H', rfl, ⟨fly.os.trans I.os, fly.bare, B, a2, x2, hok, UnB.after I rfl rfl rfl a u up⟩, hE _ _ _ hq⟩
/-- a raise: the frames hidden, all stays -/
theorem fly_made {X : Cx} {pins : List (Addr × Obj)} {σ : St} {Hc : Hp} {sc : Shared} {h' : Heap} {e : Addr} {C : Value} {args : List Value} (I : Inv X pins σ Hc sc) (m : Heap.MadeExcOf sc.heap h' e C args) :
    ∃ B, Air B X.stack e h' ∧ ExAt B e C none h' ∧ HOk X.prog X.w Hc B ∧ UnB (frs X.stack) Hc Hc sc.heap B h' := by
  have fr := I.stkFree
  refine ⟨PySem.W.hideAll sc.heap (frs X.stack), ⟨fun b o q => m.keeps _ _ (PySem.W.of_hideAll _ q), ?_, ?_⟩, ?_, hok_hide I.hok fr, ?_⟩
  · cases q : (PySem.W.hideAll sc.heap (frs X.stack)).get? e with
    | none => rfl
    | some o =>
      have := PySem.W.of_hideAll _ q
      rw [m.new] at this; cases this
  · refine (PySem.W.funFrames_hide I.stack fun env he a ha => List.mem_filterMap.mpr ⟨env, he, ha⟩).of_keeps fun b o q _ => ⟨o, m.keeps _ _ q, rfl⟩
  · obtain ⟨t, he, _, _⟩ := m.there
    exact ⟨_, _, he, rfl, rfl, rfl, by simp, .inl rfl⟩
  · exact ⟨fun b o q _ hb => PySem.W.hideAll_get _ q hb, fun b o q _ _ => ⟨o.slots, m.keeps _ _ q⟩, fun _ _ _ n => n, fun b o q hb => ⟨o, PySem.W.hideAll_get _ q hb⟩, fun _ _ q => q, fun _ _ _ q => q, fun _ ps q => ⟨#[], by simpa using q⟩⟩
theorem throw1 : Throws (cxOf (CX1 P w) P w K mg base N qual scope f cd A outer s H E) E := by
  intro pins σ Hc sc h' e C args I m hq
  obtain ⟨B, a, x, hok, u⟩ := fly_made I m
  refine air_leave (s := { sc with heap := h' }) (B := B) (L := s.heap.objs.size) I.ok.frames rfl a x fun h2 a2 x2 up => ?_
  exact ⟨e, C, none, Hc, rfl, ⟨I.os, I.bare, B, a2, x2, hok, UnB.after I rfl rfl rfl a u up⟩, hq⟩
end
/-- THE RULE for a def that may raise -/
theorem Fun.ok1 {P : Program} {w : World} {K : PySem.W.Frag} {mg : Str → Option Value} {base : Heap} {x qual : Str} {st : Stmt} {f : Addr} {fd : FuncData} {N ps : List Str} {k : Nat} {sp : Sp} (F : Fun K x qual st f fd) (S : FnScope N ps (defScope st)) (len : ∀ vs H Q E, sp vs H Q E → vs.length = ps.length)
    (hbody : ∀ (cdv : Value) (A : Around) (outer : List Env) (s : Shared) (H : Hp) (vs : List V) (Q : VK) (E : XK), Room k (A.deeper (envOfC qual (defScope st) s.heap.objs.size f cdv)) → sp vs H Q E →
      ∃ t, PSs (cxOf (CX1 P w) P w K mg base N qual (defScope st) f cdv A outer s H E) (defBody st) t ∧ t { nx := fun _ H' => Q .non H', rt := Q } (start N vs) H) : FnOk P w K mg base (CX1 P w) (k + 1) f fd ps sp := by
  obtain ⟨oc, od, kV, doc, pm, an, cdv, ct, osl, rfl, lk, hcd⟩ := F.ex
  exact fn_of lk hcd S len fun A outer s H vs Q E hr hsp => hbody cdv A outer s H vs Q E hr hsp
end L2
namespace L2
open PySem PySem.Spec PyProof.Rows
/-- the context of a try's body -/
abbrev Cx.tr (X : Cx) (pn : List (Addr × Obj)) (W : Value → Shared → Prop) : Cx := { X with pn := pn, xe := W }
/-- the context of a clause's suite -/
abbrev Cx.su (X : Cx) (pn : List (Addr × Obj)) (e : Addr) : Cx := { X with A := X.A.mark (some (.ref e)), calm := false, pn := pn, xe := fun _ _ => False }
section
variable {X : Cx} {pins : List (Addr × Obj)} {σ : St} {H : Hp} {s : Shared} {W : Value → Shared → Prop} {e : Addr}
theorem Inv.tr (I : Inv X pins σ H s) : Inv (X.tr (X.pn ++ pins) W) [] σ H s :=
  ⟨⟨I.ok.mod, I.ok.kind, I.ok.glob, I.ok.blt, I.ok.above, I.ok.inj, I.ok.has, I.ok.cab, I.ok.hd, I.ok.frames, I.ok.stk, I.ok.exf, I.ok.bs, I.ok.bsz, I.ok.noex, I.ok.exfs, I.ok.funs, I.ok.frf⟩, I.os, I.bare, I.base, I.loc, I.cell, I.free, I.freeC, fun p hp => I.pin p (by simpa using hp), I.hok, I.len⟩
theorem Inv.untr {pins' : List (Addr × Obj)} (I : Inv (X.tr (X.pn ++ pins) W) pins' σ H s) : Inv X pins σ H s :=
  ⟨⟨I.ok.mod, I.ok.kind, I.ok.glob, I.ok.blt, I.ok.above, I.ok.inj, I.ok.has, I.ok.cab, I.ok.hd, I.ok.frames, I.ok.stk, I.ok.exf, I.ok.bs, I.ok.bsz, I.ok.noex, I.ok.exfs, I.ok.funs, I.ok.frf⟩, I.os, I.bare, I.base, I.loc, I.cell, I.free, I.freeC, fun p hp => I.pin p (List.mem_append_left _ hp), I.hok, I.len⟩
theorem Inv.su (I : Inv X pins σ H s) : Inv (X.su (X.pn ++ pins) e) [] σ H s :=
  ⟨⟨I.ok.mod, I.ok.kind, I.ok.glob, I.ok.blt, I.ok.above, I.ok.inj, I.ok.has, I.ok.cab, fun z => (nomatch z), I.ok.frames, I.ok.stk, I.ok.exf, I.ok.bs, I.ok.bsz, I.ok.noex, I.ok.exfs, I.ok.funs, I.ok.frf⟩, I.os, I.bare, I.base, I.loc, I.cell, I.free, I.freeC, fun p hp => I.pin p (by simpa using hp), I.hok, I.len⟩
theorem Inv.unsu (hc : X.calm = true) (hd : X.A.handled = none) {pins' : List (Addr × Obj)} (I : Inv (X.su (X.pn ++ pins) e) pins' σ H s) : Inv X pins σ H s :=
  ⟨⟨I.ok.mod, I.ok.kind, I.ok.glob, I.ok.blt, I.ok.above, I.ok.inj, I.ok.has, I.ok.cab, fun _ => hd, I.ok.frames, I.ok.stk, I.ok.exf, I.ok.bs, I.ok.bsz, I.ok.noex, I.ok.exfs, I.ok.funs, I.ok.frf⟩, I.os, I.bare, I.base, I.loc, I.cell, I.free, I.freeC, fun p hp => I.pin p (List.mem_append_left _ hp), I.hok, I.len⟩
/-- a name goes -/
theorem gone_ok {M : Model} {A : Around} {E : Value → Shared → Prop} {j : Nat} {n : Str} {pos : Pos} {Q : Unit → Shared → Prop} (I : Inv X pins σ H s) (hN : X.N.Nodup) (hj : X.N[j]? = some n) (hx : X.env.scope.names.lookup n = some .local)
    (q : ∀ s', Inv X pins (σ.set j none) H s' → Q () s') : wpAny M A (do bindName X.env n .none; unbindBehindTheSuite X.env n pos) Q E s := by
  obtain ⟨m, hn, hl⟩ := id I.loc
  have hcls : (X.env.scope.kind == .class || (X.env.scope.kind == .module && X.env.locals != X.env.globals)) = false := by rw [I.ok.kind]; rfl
  refine wpAny_nameGoes_keeps hx hn hcls fun h' v hn' hs => ?_
  obtain ⟨oL, _, _, hoL, _⟩ := id hn
  have ne : ∀ b o, X.s₀.heap.get? b = some o → b ≠ X.env.locals := fun b o e => Nat.ne_of_lt (Nat.lt_of_lt_of_le (Heap.lt_size e) I.ok.above)
  refine q _ ⟨I.ok, I.os, I.bare, ⟨fun b o e n hb hx => ?_, fun b o e n hb hx => ?_, I.base.free, fun b o e hx => ?_, I.base.tups, I.base.frzs, I.base.tbls⟩, ⟨_, hn', fun i y v' e1 e2 e3 => ?_⟩, fun y c e => ?_, I.free, I.freeC, fun p hp => ?_, fun b ob e => ?_, by simpa using I.len⟩
  · rw [hs.2 b (ne b o e)]; exact I.base.keep b o e n hb hx
  · obtain ⟨sl, e1⟩ := I.base.slot b o e n hb hx
    exact ⟨sl, by rw [hs.2 b (ne b o e)]; exact e1⟩
  · obtain ⟨o', e1⟩ := I.base.there b o e hx
    exact ⟨o', by rw [hs.2 b (ne b o e)]; exact e1⟩
  · have hij : i ≠ j := fun z => by
      rw [z] at e2
      by_cases hlt : j < σ.length
      · rw [List.getElem?_set_self hlt] at e2; cases e2
      · rw [List.getElem?_eq_none (by simpa using hlt)] at e2; cases e2
    rw [List.getElem?_set_ne (Ne.symm hij)] at e2
    obtain ⟨u', r', l'⟩ := hl i y v' e1 e2 e3
    refine ⟨u', r', ?_⟩
    rcases l' with ⟨k, e⟩ | ⟨k, c, e, z⟩
    · have : y ≠ n := fun z => hij (nodup_ix hN e1 (z ▸ hj))
      exact .inl ⟨k, by simp [this, e]⟩
    · exact .inr ⟨k, c, e, z.sameBut hs (I.cne y c e)⟩
  · obtain ⟨w', z⟩ := I.cell y c e
    exact ⟨w', z.sameBut hs (I.cne y c e)⟩
  · obtain ⟨e, n, ne', nf, d⟩ := I.pin p hp
    exact ⟨by rw [hs.2 p.1 ne']; exact e, n, ne', nf, d⟩
  · refine (I.hok b ob e).stay (fun c w' hc q => (hs.2 c ?_).trans q) (fun _ q => q) fun _ _ q => q
    intro z
    rcases hc with hc | hc
    · rw [← hc, z, I.free] at e; cases e
    · rw [z, I.free] at hc; cases hc
/-- an exception that was caught, as it is tracked -/
def exO (e : Addr) (C : Value) (d : Option Addr) : HO := .ext fun h => ∃ o vs, h.get? e = some o ∧ o.cls = C ∧ o.dict = d ∧ o.data = .fields vs ∧ vs[2]? = some .none
theorem exO_ok {P : Program} {w : World} {H : Hp} {h : Heap} {C : Value} {d : Option Addr} (x : ∃ o vs, h.get? e = some o ∧ o.cls = C ∧ o.dict = d ∧ o.data = .fields vs ∧ vs[2]? = some .none) : ObjOk P w H h e (exO e C d) := by
  obtain ⟨o, vs, h1, h2, h3, h4⟩ := id x
  exact ⟨x, ⟨o, h1⟩, fun g1 g2 ⟨o', vs', q1, q2⟩ k => ⟨o', vs', k _ q1, q2⟩⟩
end
/-- does the class match -/
theorem matches_ok {M : Model} {A : Around} {E : Value → Shared → Prop} {s : Shared} {K : PySem.W.Frag} {e D : Addr} {o : Obj} {C : Value} {b : Bool} {Q : Bool → Shared → Prop} (k : K.In s.heap) (he : s.heap.get? e = some o) (hc : o.cls = C)
    (h1 : PySem.W.typeIn K (.ref D) = some (.type "type")) (h2 : (PySem.W.clsIn K D).isSome = true) (h3 : PySem.W.subIn K (.ref D) (.type "BaseException") = some true) (h4 : PySem.W.subIn K C (.ref D) = some b) (q : Q b s) : wpAny M A (excMatches (.ref e) (.ref D)) Q E s := by
  have L1 : PySem.W.Looks M s.heap (typeOf (.ref D)) (.type "type") := PySem.W.looks_typeIn k h1
  have L2 : PySem.W.Looks M s.heap (isType (.ref D)) true := by
    unfold PySem.W.clsIn at h2
    split at h2
    · rename_i ho
      intro A' Q' E' s' kk z
      unfold isType loadHead
      exact wpAny_bind (wpAny_loadPart (kk _ _ (k _ _ ho)) (wpAny_pure z))
    · cases h2
  have L3 : PySem.W.Looks M s.heap (isSubtype (.ref D) (.type "BaseException")) true := PySem.W.looks_subIn k h3
  have L4 : PySem.W.Looks M s.heap (isSubtype C (.ref D)) b := PySem.W.looks_subIn k h4
  have L5 : PySem.W.Looks M s.heap (typeOf (.ref e)) C := hc ▸ (PySem.W.Looks.ld he).andThen .now
  have nt := tc_notTuple
  unfold excMatches isInstance
  refine wpAny_bind (wpAny_bind (L1.at ?_))
  rw [nt]
  refine wpAny_pure ?_
  refine wpAny_bind (wpAny_pure ?_)
  dsimp only
  refine wpAny_bind ?_
  rw [List.forIn_cons]
  unfold isExcClass
  refine wpAny_bind (wpAny_bind (wpAny_bind (L2.at ?_)))
  rw [if_pos rfl]
  refine L3.at ?_
  refine wpAny_pure ?_
  dsimp only
  rw [List.forIn_nil]
  refine wpAny_pure ?_
  refine wpAny_bind (L5.at ?_)
  refine wpAny_bind ?_
  rw [List.forIn_cons]
  refine wpAny_bind (wpAny_bind (L4.at ?_))
  cases b with
  | true => exact wpAny_pure (wpAny_pure (wpAny_pure q))
  | false =>
    refine wpAny_pure ?_
    dsimp only
    rw [List.forIn_nil]
    exact wpAny_pure (wpAny_pure q)
end L2
namespace L2
open PySem PySem.Spec PyProof.Rows
theorem ObjOk.obj {P : Program} {w : World} {H : Hp} {h : Heap} {a : Addr} {o : HO} (x : ObjOk P w H h a o) : ∃ ob, h.get? a = some ob := by
  cases o with
  | lst xs => obtain ⟨_, _, _, _, e⟩ := x; exact ⟨_, e⟩
  | tup xs => obtain ⟨_, _, _, ob, e, _⟩ := x; exact ⟨_, e⟩
  | dK kvs => obtain ⟨_, _, _, _, o, _, _, e, _⟩ := x; exact ⟨_, e⟩
  | dT kvs => obtain ⟨_, _, _, _, o, _, _, e, _⟩ := x; exact ⟨_, e⟩
  | set S n => obtain ⟨o, _, _, _, e, _⟩ := x; exact ⟨_, e⟩
  | ins C dx fs => obtain ⟨_, _, _, e, _⟩ := x; exact ⟨_, e⟩
  | own y => obtain ⟨_, e⟩ := x; exact ⟨_, e⟩
  | xd fs => obtain ⟨_, ⟨_, _, _, e, _⟩, _⟩ := x; exact ⟨_, e⟩
  | rng lo hi => obtain ⟨_, _, _, e⟩ := x; exact ⟨_, e⟩
  | frz ob u => obtain ⟨e, _⟩ := x; exact ⟨_, e⟩
  | tbl ps => exact ⟨_, (show h.get? a = some _ from x)⟩
  | met f y => exact ⟨_, (show h.get? a = some _ from x)⟩
  | ext φ => obtain ⟨_, ⟨_, e⟩, _⟩ := x; exact ⟨_, e⟩
/-- an exception held in this frame -/
structure Held (X : Cx) (pins : List (Addr × Obj)) (σ : St) (H : Hp) (C : Value) (d : Option Addr) (e : Addr) (s : Shared) : Prop where
  ex : ∃ Hc sc B fl, Inv X pins σ Hc sc ∧ s.os = sc.os ∧ AllBare s.gens ∧ Air B X.stack e s.heap ∧ ExOn B e C d fl s.heap ∧ HOk X.prog X.w H B ∧ UnB (frs X.stack) Hc H sc.heap B s.heap
section
variable {X : Cx} {pins : List (Addr × Obj)} {σ : St} {H : Hp} {C : Value} {d : Option Addr} {e : Addr} {s : Shared}
theorem UnB.up {fs : List Addr} {H H' : Hp} {h B h1 h2 : Heap} {l : List Env} {e : Addr} (u : UnB fs H H' h B h1) (a : Air B l e h1) (hl : frs l = fs) (up : h1.UpToSlots h2) : UnB fs H H' h B h2 :=
  ⟨u.keep, fun b o q n hb => by
    obtain ⟨sl, e1⟩ := u.slot b o q n hb
    obtain ⟨_, o3, e3, nf⟩ := a.frames.mem (show b ∈ frs l by rw [hl]; exact hb)
    rw [e1] at e3
    cases e3
    obtain ⟨sl2, e4⟩ := up b _ e1 nf
    exact ⟨sl2, e4⟩, u.free, u.there, u.tups, u.frzs, u.tbls⟩
theorem Held.inv (x : Held X pins σ H C d e s) : Inv X pins σ H s := by
  obtain ⟨Hc, sc, B, fl, I, ho, hb, a, _, hok, u⟩ := x.ex
  exact I.call' (ch := []) ho (u.un a.stays I.stkFree) (hok.kept a.stays) hb fun b z => absurd z (by simp)
/-- the exception's object is none of ours -/
theorem Held.apart (x : Held X pins σ H C d e s) : H e = none ∧ (∀ o, X.s₀.heap.get? e = some o → e ∈ X.ex) ∧ e ≠ X.env.locals ∧ (∀ y c, X.env.cells.lookup y = some c → c ≠ e) ∧ (∀ p ∈ X.pn ++ pins, p.1 ≠ e) := by
  obtain ⟨Hc, sc, B, fl, I, ho, hb, a, ⟨oe, vs, T, oT, ts, he, _, _, ⟨hd, _⟩, _⟩, hok, u⟩ := x.ex
  have nfr : e ∉ frs X.stack := fun z => by
    obtain ⟨_, o, q, nf⟩ := a.frames.mem z
    rw [he] at q
    cases q
    exact nf _ hd
  have nsc : sc.heap.get? e = none := by
    cases q : sc.heap.get? e with
    | none => rfl
    | some o =>
      obtain ⟨o', z⟩ := u.there e o q nfr
      rw [a.new] at z; cases z
  refine ⟨?_, fun o q => ?_, fun z => ?_, fun y c q z => ?_, fun p hp z => ?_⟩
  · cases q : H e with
    | none => rfl
    | some o =>
      obtain ⟨ob, z⟩ := (hok e o q).obj
      rw [a.new] at z; cases z
  · by_cases hx : e ∈ X.ex
    · exact hx
    · obtain ⟨o', z⟩ := I.base.there e o q hx
      rw [nsc] at z; cases z
  · obtain ⟨m, ⟨o, _, _, q, _⟩, _⟩ := I.loc
    rw [← z, nsc] at q; cases q
  · obtain ⟨v, o, q2, _⟩ := I.cell y c q
    rw [z, nsc] at q2; cases q2
  · obtain ⟨q, _⟩ := I.pin p hp
    rw [z, nsc] at q; cases q
/-- the caught exception is tracked -/
theorem Held.track (x : Held X pins σ H C d e s) : Inv X pins σ (upd H e (exO e C d)) s := by
  have I := x.inv
  obtain ⟨n, old, nl, nc, np⟩ := x.apart
  have ob : ∃ o vs, s.heap.get? e = some o ∧ o.cls = C ∧ o.dict = d ∧ o.data = .fields vs ∧ vs[2]? = some .none := by
    obtain ⟨_, _, _, _, _, _, _, _, ⟨oe, vs, T, oT, ts, h1, h2, h3, ⟨h4, h5⟩, _⟩, _⟩ := x.ex
    exact ⟨oe, vs, h1, h2, h3, h4, h5⟩
  refine ⟨I.ok, I.os, I.bare, ⟨I.base.keep, I.base.slot, fun b o q nb hx => ?_, I.base.there, fun b xs q => ?_, fun b o v q => ?_, fun b ps q => ?_⟩, I.loc, I.cell, ?_, fun y c q => ?_, fun p hp => ?_, fun b o q => ?_, I.len⟩
  · have hbe : b ≠ e := fun z => by
      subst z
      exact hx (old o q)
    rw [upd_ne hbe]; exact I.base.free b o q nb hx
  · have q2 := I.base.tups b xs q
    rw [upd_ne (ne_of_none q2 n)]; exact q2
  · have q2 := I.base.frzs b o v q
    rw [upd_ne (ne_of_none q2 n)]; exact q2
  · obtain ⟨m, q2⟩ := I.base.tbls b ps q
    exact ⟨m, by rw [upd_ne (ne_of_none q2 n)]; exact q2⟩
  · rw [upd_ne (Ne.symm nl)]; exact I.free
  · rw [upd_ne (nc y c q)]; exact I.freeC y c q
  · obtain ⟨q1, q2, q3⟩ := I.pin p hp
    exact ⟨q1, by rw [upd_ne (np p hp)]; exact q2, q3⟩
  · by_cases hb : b = e
    · subst hb
      rw [upd_same] at q
      cases q
      exact exO_ok ob
    · rw [upd_ne hb] at q
      exact (I.hok b o q).stay (fun _ _ _ z => z) (fun c z => by rw [upd_ne (ne_of_none z n)]; exact z) fun c xs z => by rw [upd_ne (ne_of_none z n)]; exact z
end
abbrev TH := Value → Option Addr → Ends → St → Hp → Prop
def PH (X : Cx) (hs : List ExceptHandler) (t : TH) : Prop := ∀ (pins : List (Addr × Obj)) (s : Shared) (σ : St) (H : Hp) (D : Ends) (C : Value) (d : Option Addr) (e : Addr), Held X pins σ H C d e s → t C d D σ H →
  wpAny (model X.prog X.w) X.A (handleBy (.ref e) X.env hs) (SP X pins D) X.xe s
/-- a class that clauses name -/
structure HCls (K : PySem.W.Frag) (D : Addr) : Prop where
  ty : PySem.W.typeIn K (.ref D) = some (.type "type")
  cl : (PySem.W.clsIn K D).isSome = true
  ex : PySem.W.subIn K (.ref D) (.type "BaseException") = some true
def hNil : TH := fun _ _ _ _ _ => False
/-- behind the suite the name is gone -/
def Ends.go (D : Ends) (j : Nat) : Ends := { nx := fun σ H => D.nx (σ.set j none) H, rt := D.rt, bk := fun σ H => D.bk (σ.set j none) H, ct := fun σ H => D.ct (σ.set j none) H }
def hAs (K : PySem.W.Frag) (A : Addr) (j : Nat) (ts : Addr → TS) (tr : TH) : TH := fun C d D σ H => ∃ b, PySem.W.subIn K C (.ref A) = some b ∧ if b = true then ∀ e, H e = none → ts e (D.go j) (σ.set j (some (.ref e))) (upd H e (exO e C d)) else tr C d D σ H
section
variable {X : Cx} {x n : Str} {DA : Addr} {j : Nat} {b₀ : Stmt} {suite : List Stmt} {ts : Addr → TS} {tr : TH} {np hpos pos : Pos} {rest : List ExceptHandler}
theorem ph_nil : PH X [] hNil := fun _ _ _ _ _ _ _ _ _ h => h.elim
theorem ph_as (hc : X.calm = true) (hC : HCls X.K DA) (hg : Gl X x) (hm : X.mg x = some (.ref DA)) (hN : X.N.Nodup) (hj : X.N[j]? = some n) (hx : X.env.scope.names.lookup n = some .local) (hs : ∀ pn e, PSs (X.su pn e) (b₀ :: suite) (ts e)) (hr : PH X rest tr)
    (hdb : (x == ("__debug__" : Str)) = false := by decide) : PH X (.ExceptHandler (some (.Name x np)) (some n) (b₀ :: suite) hpos :: rest) (hAs X.K DA j ts tr) := by
  intro pins s σ H D C d e hl h
  obtain ⟨b, hb, h⟩ := h
  have I := hl.inv
  have Is : Inv (X.su (X.pn ++ pins) e) [] σ H s := I.su
  obtain ⟨oe, vs, h1, h2, _⟩ : ∃ o vs, s.heap.get? e = some o ∧ o.cls = C ∧ o.dict = d ∧ o.data = .fields vs ∧ vs[2]? = some .none := by
    obtain ⟨_, _, _, _, _, _, _, _, ⟨oe, vs, T, oT, ts, h1, h2, h3, ⟨h4, h5⟩, _⟩, _⟩ := hl.ex
    exact ⟨oe, vs, h1, h2, h3, h4, h5⟩
  refine wpAny_handleBy_cons (codeAny_handlers_test (ld_glob Is hg hm ?_ hdb)) (by intro q; cases q)
  refine matches_ok I.kIn h1 h2 hC.ty hC.cl hC.ex hb ?_
  cases b with
  | false => exact hr pins s σ H D C d e hl (by simpa using h)
  | true =>
    have h : ∀ e, H e = none → ts e (D.go j) (σ.set j (some (.ref e))) (upd H e (exO e C d)) := by simpa using h
    refine codeAny_handlers_suite_as ?_
    obtain ⟨Hc, sc, B, f0, I0, ho, hbr, a, xo, hok, u⟩ := hl.ex
    refine air_flight (o := none) a xo fun h2 a2 x2 up => ?_
    have hl2 : Held X pins σ H C d e { s with heap := h2 } := ⟨Hc, sc, B, _, I0, ho, hbr, a2, x2, hok, u.up a rfl up⟩
    have I2 : Inv (X.su (X.pn ++ pins) e) [] σ (upd H e (exO e C d)) { s with heap := h2 } := hl2.track.su
    refine store_ok (X := X.su (X.pn ++ pins) e) I2 hN hj (.inl hx) (v := .ref e) rfl (fun s3 I3 => ?_) (.inr hx)
    refine wpAny_mono (hs (X.pn ++ pins) e [] s3 _ _ (D.go j) I3 (h e hl.apart.1)) (fun f s4 hf => ?_) fun _ _ z => z.elim
    have hd := I.ok.hd hc
    cases f with
    | next =>
      obtain ⟨σ4, H4, I4, q⟩ := hf
      exact gone_ok (Inv.unsu hc hd I4) hN hj hx fun s5 I5 => ⟨_, H4, I5, q⟩
    | brk =>
      obtain ⟨σ4, H4, I4, q⟩ := hf
      exact gone_ok (Inv.unsu hc hd I4) hN hj hx fun s5 I5 => ⟨_, H4, I5, q⟩
    | cont =>
      obtain ⟨σ4, H4, I4, q⟩ := hf
      exact gone_ok (Inv.unsu hc hd I4) hN hj hx fun s5 I5 => ⟨_, H4, I5, q⟩
    | ret uv =>
      obtain ⟨v, σ4, H4, I4, rv, q⟩ := hf
      exact gone_ok (Inv.unsu hc hd I4) hN hj hx fun s5 I5 => ⟨v, _, H4, I5, rv, q⟩
end
def PassesAt (CX : CXT) (X : Cx) (E : XK) (σ : St) : Prop := ∀ (pins : List (Addr × Obj)) (H : Hp) (s : Shared) (e : Value) (s' : Shared), Inv X pins σ H s → CX X.stack H s E e s' → X.xe e s'
def PE1 (X : Cx) (σ : St) (e : Expr) (t : TE) : Prop := ∀ (pins : List (Addr × Obj)) (s : Shared) (H : Hp) (Q : VK), Inv X pins σ H s → t σ H Q → wpAny (model X.prog X.w) X.A (eval e X.env) (EP X pins σ Q) X.xe s
def PS1 (X : Cx) (σ : St) (st : Stmt) (t : TS) : Prop := ∀ (pins : List (Addr × Obj)) (s : Shared) (H : Hp) (D : Ends), Inv X pins σ H s → t D σ H → wpAny (model X.prog X.w) X.A (exec st X.env) (SP X pins D) X.xe s
section
variable {X : Cx} {CX : CXT} {k : Nat} {f : Addr} {fd : FuncData} {ps : List Str} {sp : Sp} {dvs : List V} {ds : List Value} {E : XK} {x : Str} {p pos : Pos} {e : Expr} {es : List Expr} {t : TA} {te : TE} {σ : St}
theorem pe1_call (F : FnOk X.prog X.w X.K X.mg X.base CX k f fd ps sp) (hr : Room k X.A) (hg : Gl X x) (hm : X.mg x = some (.ref f)) (hk : PySem.W.keepIn X.K (.ref f) = true) (hb : Binds X.K fd ps ds) (hd : Vals dvs ds) (hx : PassesAt CX X E σ)
    (ha : PA X (e :: es) t) (hdb : (x == ("__debug__" : Str)) = false := by decide) (he : starEach (e :: es) X.env = (false, eval e X.env) :: starEach es X.env := by rfl) (hpl : (backTo pos (starEach es X.env)).any (·.1) = false := by rfl) :
    PE1 X σ (.Call (.Name x p) (e :: es) [] pos) (tCall sp dvs E t) := by
  intro pins s H Q I h
  refine wpAny_Call_Name_kw (ld_glob I hg hm ?_ hdb)
  refine PySem.W.callWith_K (h₀ := X.base) I.ok.mod.kin hk (thn (ha pos pins s σ H _ I h) fun us s1 ⟨vs, H1, I1, r, q⟩ => ⟨I1.kIn, ?_⟩) he hpl
  have r2 : Vals (vs ++ dvs) (us ++ ds) := r.append hd
  have hl : (us ++ ds).length = ps.length := by rw [← r2.length]; exact F.len _ _ _ _ q
  refine wpAny_call (codeAny_mono (F.run X.A X.stack s1 H1 ⟨us, []⟩ (us ++ ds) (vs ++ dvs) Q E hr I1.env0 (hb s1 us I1.kIn hl) r2 q) fun r s' hq => ?_)
  cases r with
  | error ev => exact hx pins H1 s1 ev s' I1 hq
  | ok fl =>
    cases fl with
    | ret u => exact I1.after hq
    | next => exact False.elim hq
    | brk => exact False.elim hq
    | cont => exact False.elim hq
theorem ps1_set {i : Nat} {pos' : Pos} (hN : X.N.Nodup) (hi : X.N[i]? = some x) (hx : Loc X.env.scope x) (he : PE1 X σ e te) (hs : swapsWith e (some (.Name x pos')) pos.line X.env = pure false := by rfl)
    (hf : X.fn x = true ∨ X.env.scope.names.lookup x = some .local := by first | exact .inl rfl | exact .inr rfl | assumption) : PS1 X σ (.Assign [.Name x pos'] e pos) (tAsg te (gName i)) := by
  intro pins s H D I h
  refine wpAny_Assign_Name (thn (he pins s H _ I h) fun v s1 ⟨y, H1, I1, r1, q1⟩ => ?_) hs
  exact store_ok I1 hN hi hx r1 (fun s2 I2 => ⟨_, H1, I2, q1⟩) hf
end
def tTry (tb : XK → TS) (th : TH) : TS := fun D σ H => ∃ E : XK, tb E D σ H ∧ ∀ C d H', E C d H' → th C d D σ H'
theorem SP.untr {X : Cx} {pins : List (Addr × Obj)} {W : Value → Shared → Prop} {D : Ends} {f : Flow} {s : Shared} (h : SP (X.tr (X.pn ++ pins) W) [] D f s) : SP X pins D f s := by
  cases f with
  | next => obtain ⟨σ, H, I, q⟩ := h; exact ⟨σ, H, I.untr, q⟩
  | brk => obtain ⟨σ, H, I, q⟩ := h; exact ⟨σ, H, I.untr, q⟩
  | cont => obtain ⟨σ, H, I, q⟩ := h; exact ⟨σ, H, I.untr, q⟩
  | ret u => obtain ⟨v, σ, H, I, r, q⟩ := h; exact ⟨v, σ, H, I.untr, r, q⟩
theorem ps_try {X : Cx} {st : Stmt} {h₀ : ExceptHandler} {hs : List ExceptHandler} {tb : XK → TS} {th : TH} {pos : Pos} (hst : X.stack = X.env :: X.outer) (hfr : X.env.frame = some X.env.locals)
    (hb : ∀ E σ pn W, PassesAt (CX1 X.prog X.w) (X.tr pn W) E σ → PS1 (X.tr pn W) σ st (tb E)) (hh : PH X (h₀ :: hs) th) : PS X (.Try [st] (h₀ :: hs) [] [] pos) (tTry tb th) := by
  intro pins s σ H D I h
  obtain ⟨E, hB, hH⟩ := h
  refine wpAny_Try_except ?_
  have pass : PassesAt (CX1 X.prog X.w) (X.tr (X.pn ++ pins) (fun ev s₁ => wpAny (model X.prog X.w) X.A (noteFrame ev X.env) (fun _ s₂ => wpAny (model X.prog X.w) X.A (setFlight ev none) (fun _ s₃ => wpAny (model X.prog X.w) X.A (handleBy ev X.env (h₀ :: hs)) (SP X pins D) X.xe s₃) X.xe s₂) X.xe s₁)) E σ := by
    rintro pins' Hc sc ev s' Ic ⟨e, C, d, H', rfl, fly, hq⟩
    obtain ⟨B, a, x, hok, u⟩ := fly.ex
    have hfrm : X.A.frames = some (X.env :: X.outer) := by rw [I.ok.frames, hst]
    have a' : Air B (X.env :: X.outer) e s'.heap := by rw [← hst]; exact a
    refine air_note hfrm hfr a' x fun h1 a1 x1 u1 => ?_
    refine air_flight (s := { s' with heap := h1 }) (o := none) a1 x1 fun h2 a2 x2 u2 => ?_
    have up := u1.trans u2
    have hl : Held X pins σ H' C d e { s' with heap := h2 } := ⟨Hc, sc, B, _, Ic.untr, fly.os, fly.bare, by rw [hst]; exact a2, x2, hok, u.up a rfl up⟩
    exact hh pins _ σ H' D C d e hl (hH C d H' hq)
  refine wpAny_execs_cons (wpAny_mono (hb E σ _ _ pass [] s H D I.tr hB) (fun f s1 hf => ?_) fun _ _ z => z)
  cases f with
  | next => exact wpAny_execs_nil (wpAny_execs_nil (SP.untr hf))
  | brk => exact SP.untr hf
  | cont => exact SP.untr hf
  | ret u => exact SP.untr hf
end L2
namespace L2
open PySem PySem.Spec PyProof.Rows
/-- what an exception's class has of lookups -/
structure XCls (K : PySem.W.Frag) (D : Addr) : Prop where
  ga : PySem.W.findIn K (.ref D) "__getattribute__" = some (some (.builtin "BaseException.__getattribute__"))
  gt : PySem.W.findIn K (.ref D) "__getattr__" = some none
  cl : (PySem.W.clsIn K D).isSome = true
  be : PySem.W.subIn K (.ref D) (.type "BaseException") = some true
  ac : PySem.W.findIn K (.ref D) "__class__" = some (some (.builtin "object.__class__"))
  sp : PySem.W.specialIn K (.builtin "object.__class__") "__get__" = some (some (.builtin "getset_descriptor.__get__"))
  tk : PySem.W.takesIn K (.builtin "object.__class__") = some true
  mo : PySem.W.mroIn K D (.type "object") = some true
section
variable {prog : Program} {w : World} {A : Around} {E : Value → Shared → Prop} {s : Shared} {K : PySem.W.Frag} {x D : Addr} {ox : Obj} {od : Option Obj} {name : Str}
theorem bga_canon : (Value.builtin "BaseException.__getattribute__" == Value.builtin "object.__getattribute__") = false := by decide +kernel
theorem bga_check {tv : Value} {M : Model} {Q : Unit → Shared → Prop} (k : K.In s.heap) (c : XCls K D) (I : PySem.W.InstAt s.heap x ox D od) (q : Q () s) : wpAny M A (checkBuiltinCall "BaseException.__getattribute__" ⟨[.ref x, tv], []⟩) Q E s := by
  obtain ⟨hh, g, dr, t, os⟩ := s
  have L0 := I.type (M := M)
  have L1 := PySem.W.looks_subIn (M := M) k c.be
  have hk : builtinKind "BaseException.__getattribute__" = some .slot := by decide +kernel
  have hsp : splitId "BaseException.__getattribute__" = some ("BaseException", "__getattribute__") := by decide +kernel
  have ha := PySem.F.args_bexc_ga (.ref x) tv
  simp only [checkBuiltinCall, hk, hsp]
  refine wpAny_bind ?_
  unfold isInstance
  refine wpAny_bind (L0.at ?_)
  refine L1.at ?_
  repeat (any_goals (first | assumption | wp_step))
theorem bga_body {tk : Tok} {r : Builtin.ObjectAttr.Found} {Q : Fin → Shared → Prop} (k : K.In s.heap) (I : PySem.W.InstAt s.heap x ox D od) (hf : PySem.W.findObj K D od name = some r)
    (h : match r with
      | .value v => Q (.done (.ret v)) s
      | .bind g a => wpAny (model prog w) A (call g [a, .ref x, .ref D]) (fun v s' => Q (.done (.ret v)) s') E s
      | .missing => False) : wpAny (model prog w) A (Builtin.«object.__getattribute__» ⟨[.ref x, .str name tk], []⟩) Q E s := by
  obtain ⟨hh, g, dr, t, os⟩ := s
  have L0 := I.type (M := model prog w)
  have L1 := PySem.W.looks_find (M := model prog w) k I hf
  unfold Builtin.«object.__getattribute__»
  refine wpAny_bind (m := slotArgs _ _ _) (wpAny_pure ?_)
  refine wpAny_bind (m := Builtin.ObjectAttr.attrName _) (wpAny_pure ?_)
  refine wpAny_bind (L0.at (wpAny_bind (L1.at ?_)))
  cases r with
  | value v => exact wpAny_pure h
  | missing => exact h.elim
  | bind g a =>
    show wpAny _ _ (holding [a] (call g [a, .ref x, .ref D]) >>= ret) _ _ _
    exact wpAny_bind (wpAny_holding (wpAny_mono h (fun v s' z => wpAny_pure z) fun _ _ z => z))
/-- what the lookup leaves, handed out -/
theorem exc_by {tk : Tok} {fill expr : Bool} {r : Builtin.ObjectAttr.Found} {Q : Value → Shared → Prop} (k : K.In s.heap) (c : XCls K D) (I : PySem.W.InstAt s.heap x ox D od) (hf : PySem.W.findObj K D od name = some r)
    (h : match r with
      | .value v => PySem.W.handedIn v = true ∧ Q v s
      | .bind g a => wpAny (model prog w) A.in1 (call g [a, .ref x, .ref D]) (fun v s' => PySem.W.handedIn v = true ∧ Q v s') (fun _ _ => False) s
      | .missing => False) : wpAny (model prog w) A (getAttrBy (.ref x) (.str name tk) fill expr) Q E s := by
  obtain ⟨hh, g, dr, t, os⟩ := s
  have L0 := I.type (M := model prog w)
  have L1 := PySem.W.looks_findIn (M := model prog w) k c.ga
  have L2 := PySem.W.looks_findIn (M := model prog w) k c.gt
  have fb := PySem.F.attr_ValueError.ga.bind (.ref x)
  unfold getAttrBy
  refine wpAny_holding (wpAny_bind (L0.at (wpAny_bind (L1.at ?_))))
  show wpAny _ _ (if (onTheHeap (.ref D) && Value.builtin "BaseException.__getattribute__" == Value.builtin "object.__getattribute__") = true then _ else _) _ _ _
  rw [bga_canon, Bool.and_false, if_neg (by decide)]
  unfold getAttrByItsOwn hookBefore
  refine wpAny_bind (L2.at ?_)
  have hx0 : (expr && onTheHeap (Value.builtin "BaseException.__getattribute__")) = false := by cases expr <;> rfl
  unfold callGetattribute
  rw [hx0, if_neg (by decide)]
  unfold boundAndCalled
  refine wpAny_bind (wpAny_attempt (wpAny_holding (wpAny_bind ?_)))
  rw [fb]
  refine wpAny_pure ?_
  refine wpAny_call (codeAny_call_builtin PySem.F.attr_ValueError.ga.plain PySem.F.entry_bexc_ga (bga_check k c I ?_))
  refine bga_body k I hf ?_
  cases r with
  | value v => exact PySem.W.handed_on h.1 h.2
  | missing => exact h
  | bind g a => exact wpAny_mono h (fun v s' z => PySem.W.handed_on z.1 z.2) fun _ _ z => z.elim
theorem findObj_data' {a g : Value} (hc : (PySem.W.clsIn K D).isSome = true) (ha : PySem.W.findIn K (.ref D) name = some (some a)) (hg : PySem.W.specialIn K a "__get__" = some (some g)) (ht : PySem.W.takesIn K a = some true) : PySem.W.findObj K D od name = some (.bind g a) := by
  obtain ⟨cd, hcd⟩ := Option.isSome_iff_exists.mp hc
  unfold PySem.W.findObj
  rw [hcd, Option.bind_some, ha, Option.bind_some]
  dsimp only
  rw [hg, Option.bind_some]
  dsimp only
  rw [ht, Option.bind_some]
theorem exc_class {Q : Option Value → Shared → Prop} (k : K.In s.heap) (c : XCls K D) (I : PySem.W.InstAt s.heap x ox D od) (q : Q (some (.ref D)) { s with toks := s.toks + 1 }) : wpAny (model prog w) A (getAttr? (.ref x) "__class__") Q E s := by
  unfold getAttr? getAttrBy?
  refine wpAny_bind (wpAny_mkText (wpAny_bind (wpAny_attempt ?_)))
  refine exc_by (s := { s with toks := s.toks + 1 }) k c I (findObj_data' c.cl c.ac c.sp c.tk) ?_
  exact wpAny_call (PySem.W.class_get (s := { s with toks := s.toks + 1 }) k I c.mo ⟨rfl, wpAny_pure q⟩)
/-- the exception as it lies there -/
def ExIs (e : Addr) (D : Addr) (h : Heap) : Prop := ∃ ox od, PySem.W.InstAt h e ox D od
theorem kitx_exc {e : Addr} (c : XCls K D) : PySem.W.KitX K (.ref e) (.ref D) (ExIs e D) where
  ty := fun M h _ ⟨_, _, I⟩ => I.type
  it := fun M h k _ => by
    obtain ⟨cd, hcd⟩ := Option.isSome_iff_exists.mp c.cl
    unfold PySem.W.clsIn at hcd
    split at hcd
    · rename_i ho
      intro A' Q' E' s' kk z
      unfold isType loadHead
      exact wpAny_bind (wpAny_loadPart (kk _ _ (k _ _ ho)) (wpAny_pure z))
    · cases hcd
  ne := fun h tp dd its n sl k htp => by
    obtain ⟨cd, hcd⟩ := Option.isSome_iff_exists.mp c.cl
    refine Bool.eq_false_iff.mpr fun q => ?_
    have e1 : D = tp := Value.ref.inj (beq_iff_eq.mp q)
    subst e1
    unfold PySem.W.clsIn at hcd
    split at hcd
    · rename_i ho
      have z := (k _ _ ho).symm.trans htp
      cases z
    · cases hcd
  ca := fun k ⟨_, _, I⟩ q => exc_class k c I q
end
section
variable {X : Cx}
/-- a class handed to isinstance: a builtin type, or a class of the text -/
def clsV : V → Option Value
  | .ty n => some (.type n)
  | .ref a => some (.ref a)
  | _ => none
end
end L2
namespace L2
open PySem PySem.Spec PyProof.Rows
section
variable {X : Cx} {o e : Expr} {es : List Expr} {to : TE} {t : TA} {name : Str} {id : String} {r : V → List V → Hp → VK → Prop} {apos cpos : Pos}
end
end L2
namespace L2
open PySem PySem.Spec PyProof.Rows
structure ClsF (K : PySem.W.Frag) (D : Addr) : Prop where
  ty : PySem.W.typeIn K (.ref D) = some (.type "type")
  cl : PySem.W.isClsIn K D = true
  be : PySem.W.subIn K (.ref D) (.type "BaseException") = some true
  ga : PySem.W.findIn K (.ref D) "__getattribute__" = some (some (.builtin "BaseException.__getattribute__"))
  gt : PySem.W.findIn K (.ref D) "__getattr__" = some none
  ac : PySem.W.findIn K (.ref D) "__class__" = some (some (.builtin "object.__class__"))
  sp : PySem.W.specialIn K (.builtin "object.__class__") "__get__" = some (some (.builtin "getset_descriptor.__get__"))
  tk : PySem.W.takesIn K (.builtin "object.__class__") = some true
  mo : PySem.W.mroIn K D (.type "object") = some true
theorem ClsF.isCl {K : PySem.W.Frag} {D : Addr} (f : ClsF K D) : (PySem.W.clsIn K D).isSome = true := f.cl
theorem ClsF.h {K : PySem.W.Frag} {D : Addr} (f : ClsF K D) : HCls K D := ⟨f.ty, f.isCl, f.be⟩
theorem ClsF.x {K : PySem.W.Frag} {D : Addr} (f : ClsF K D) : XCls K D := ⟨f.ga, f.gt, f.isCl, f.be, f.ac, f.sp, f.tk, f.mo⟩
theorem kit_ref {K : PySem.W.Frag} {D A : Addr} {b : Bool} (f : ClsF K A) (h : PySem.W.subIn K (.ref D) (.ref A) = some b) (n : b = true ∨ D ≠ A) : PySem.W.kitOne K (.ref D) (.ref A) = some b := by
  unfold PySem.W.kitOne
  by_cases e : D = A
  · subst e
    rw [if_pos (by simp)]
    rcases n with n | n
    · rw [n]
    · exact absurd rfl n
  · rw [if_neg (by simpa using e)]
    unfold PySem.W.kitCls
    dsimp only
    rw [if_pos (by rw [f.isCl, f.ty]; decide)]
    exact h
end L2
namespace L2
open PySem PySem.Spec PyProof.Rows
/-- a class under ValueError whose __init__ stands at f -/
def exiIn (K : PySem.W.Frag) (C f : Addr) : Bool := match K.lookup C with
  | some ⟨.type "type", _, .cls kl, z⟩ => (match kl.mro, z.toList with
    | .ref C2 :: tl, [_, _, _, _, some (.builtin made), _] => (C2 == C && made == "ValueError.__new__") && (!kl.hasDel && kl.hasDict) && PySem.W.tailIn K vE tl && PySem.W.nsOkIn K kl.ns && PySem.W.nsIn K kl.ns "__init__" == some (some (.ref f))
    | _, _ => false)
  | _ => false
theorem ns_some_of {K : PySem.W.Frag} {h : Heap} {N : Addr} {n : Str} {v : Value} (X : K.In h) (ok : PySem.W.nsOkIn K N = true) (e : PySem.W.nsIn K N n = some (some v)) : h.nsMap N n = some v := by
  have G : h.Ns N (h.nsMap N) := .of_isNs (PySem.W.isNs_of_in X ok)
  obtain ⟨o, es, ep, ho, hd, _, hf⟩ := G
  unfold PySem.W.nsIn at e
  split at e
  · rename_i q
    have z := X _ _ q
    rw [ho] at z
    cases z
    cases hd
    split at e
    · rename_i he
      cases e
      rw [← hf]
      unfold nsFind findBy
      rw [← Array.find?_toList, he]
      rfl
    · split at e <;> cases e
  · cases e
theorem exi_obj {K : PySem.W.Frag} {C f : Addr} {h : Heap} (q : exiIn K C f = true) (k : K.In h) :
    ∃ bm N nm qn bs sn sub ab col dd k0 k1 k2 k3 k5 mN, h.get? C = some (excClassObj nm qn C N bs bm true sn sub ab col dd k0 k1 k2 k3 k5 "ValueError.__new__") ∧ h.Ns N mN ∧ mN "__init__" = some (.ref f) ∧ OwnTail h vE bm := by
  unfold exiIn at q
  split at q
  · rename_i dd cd sl ho
    split at q
    · rename_i C1 bm k0 k1 k2 k3 n k5 hm hs
      simp only [Bool.and_eq_true, beq_iff_eq, Bool.not_eq_true'] at q
      obtain ⟨⟨⟨⟨⟨e1, e2⟩, hdel, hdi⟩, ht⟩, hok⟩, hni⟩ := q
      subst e1 e2
      cases cd
      dsimp only at hm hdel hdi hok hni
      subst hm hdel hdi
      have esl : sl = #[k0, k1, k2, k3, some (.builtin "ValueError.__new__"), k5] := by
        cases sl
        simp only at hs
        rw [hs]
      subst esl
      exact ⟨bm, _, _, _, _, _, _, _, _, dd, k0, k1, k2, k3, k5, _, k _ _ ho, .of_isNs (PySem.W.isNs_of_in k hok), ns_some_of k hok hni, PySem.W.tail_of_in k ht⟩
    · cases q
  · cases q
theorem refuse_tail {h : Heap} {self : Value} {what : Str} {bmB tl : List Value} (T : OwnTail h bmB tl) : refuseLoop self what tl = refuseLoop self what bmB := by
  induction T with
  | base => rfl
  | own _ _ _ _ ih => rw [refuseLoop_ref, ih]
section
variable {prog : Program} {w : World} {A : Around} {E : Value → Shared → Prop} {s : Shared} {K : PySem.W.Frag} {C f e : Addr}
/-- an attribute is laid on an exception that has no dict yet -/
theorem xset_ok {o : Obj} {vs : Array Value} {name : Str} {v : Value} {Q : Unit → Shared → Prop} (X : K.In s.heap) (q : exiIn K C f = true) (he : s.heap.get? e = some o) (hc : o.cls = .ref C) (hd : o.dict = none) (hf : o.data = .fields vs)
    (hs : PySem.W.findIn K (.ref C) "__setattr__" = some (some (.builtin "object.__setattr__"))) (hm : PySem.W.mroIn K C (.type "object") = some true) (hn : PySem.W.findIn K (.ref C) name = some none)
    (h : ∀ h' tk, h'.Ns1 s.heap.objs.size (fun y => if y = name then some v else none) → h'.get? e = some { o with dict := some s.heap.objs.size } → (∀ b ob, b ≠ e → s.heap.get? b = some ob → h'.get? b = some ob) → Q () { s with heap := h', toks := tk }) :
    wpAny (model prog w) A (setAttr (.ref e) name v) Q E s := by
  obtain ⟨bm, N, nm, qn, bs, sn, sub, ab, col, dd, k0, k1, k2, k3, k5, mN, oC, nN, ni, TL⟩ := exi_obj q X
  have I : PySem.W.InstAt s.heap e o C none := ⟨he, hc, by unfold PySem.W.notCls; rw [hf], by rw [hd]; trivial⟩
  have SF := PySem.F.store_object
  refine PySem.W.set_plain X I hs ?_
  have sub : PySem.W.Looks (model prog w) s.heap (isInstance (.ref e) (.type "object")) true := I.type.andThen (PySem.W.looks_mroIn X hm)
  refine codeAny_call_builtin SF.slot.plain SF.entry (@PySem.W.check_slot (model prog w) _ _ _ "object.__setattr__" "object" "__setattr__" (.ref e) [.str name s.toks, v] [] _ SF.kind SF.split sub (SF.args (.ref e) (.str name s.toks) v) ?_)
  rw [PySem.W.osa_eq, refuse_eq]
  have I1 := I.type (M := model prog w)
  have I2 := PySem.W.looks_findIn (M := model prog w) X hn
  obtain ⟨hp, g, dr, tk, os⟩ := s
  dsimp only at *
  refine wpAny_bind (wpAny_bind (I1.at (wpAny_bind (wpAny_mroOf_exc oC ?_))))
  rw [refuseLoop_ref, refuse_tail TL, PySem.F.store_ValueError.passes]
  refine wpAny_pure (wpAny_bind (I1.at (wpAny_bind (I2.at ?_))))
  refine wpAny_bind (m := Builtin.ObjectAttr.storeTaker? none) (wpAny_pure ?_)
  dsimp only
  unfold Builtin.ObjectAttr.storeInOwnDict
  refine wpAny_bind (m := ownStreamTells _ _) (wpAny_pure ?_)
  rw [if_neg (show ¬ (Value.ref C == Value.type "module") = true by intro z; cases beq_iff_eq.mp z)]
  refine wpAny_bind ?_
  show wpAny _ _ (instanceDict e true) _ _ _
  unfold instanceDict
  refine wpAny_bind (wpAny_loadPart_at he ?_)
  obtain ⟨oc, od, odt, osl⟩ := o
  dsimp only at hc hd hf
  subst hc hd hf
  dsimp only
  unfold classData
  refine wpAny_bind (wpAny_bind (wpAny_loadPart_at oC (wpAny_pure ?_)))
  rw [if_neg (by simp), if_neg (by simp [typeHasDict])]
  have hx1 := Heap.get?_push_of_some (h := hp) { cls := .type "dict", data := .dict #[] } he
  have hxs : e ≠ hp.objs.size := Nat.ne_of_lt (Heap.lt_size he)
  refine wpAny_bind (wpAny_alloc (wpAny_bind (wpAny_update hx1 (wpAny_pure ?_))))
  dsimp only
  have hx2 := Heap.get?_update_self (fun o : Obj => { cls := o.cls, dict := some hp.objs.size, data := o.data, slots := o.slots }) hx1 rfl
  have hgd : ((hp.push { cls := .type "dict", data := .dict #[] }).update e fun o => { cls := o.cls, dict := some hp.objs.size, data := o.data, slots := o.slots }).get? hp.objs.size = some { cls := .type "dict", data := .dict #[] } :=
    (Heap.get?_update_ne _ _ _ _ hxs.symm).trans (Heap.get?_push_at rfl rfl)
  unfold Builtin.ObjectAttr.storeInDict Builtin.ObjectAttr.newKeyGuard
  refine wpAny_bind (wpAny_pure (wpAny_bind (wpAny_nsSet1 (Heap.Ns1.of_empty ⟨_, #[], _, hgd, rfl, fun y hy => absurd hy (by simp), fun _ => rfl⟩) fun h2 hn2 hs2 => ?_)))
  obtain ⟨oD, esD, epD, hoD, hdD, hcD⟩ := hn2.count (Within.cons name v Within.nil)
  refine wpAny_bind (wpAny_lookBehind hoD (by rw [hdD]; exact pastItsLine_dict (Nat.le_trans hcD (by rw [List.length_cons, List.length_nil, sizeLine_eq]; omega))) ?_)
  refine wpAny_pure (h _ _ hn2 ((hs2.2 e hxs).trans hx2) fun b ob nb hb => ?_)
  exact (hs2.2 b (Nat.ne_of_lt (Heap.lt_size hb))).trans ((Heap.get?_update_ne _ _ _ _ nb).trans (Heap.get?_push_of_some _ hb))
/-- ValueError.__init__(e, v) -/
theorem xini_ok {o : Obj} {vs : Array Value} {v v0 : Value} {Q : Value → Shared → Prop} (X : K.In s.heap) (q : exiIn K C f = true) (he : s.heap.get? e = some o) (hc : o.cls = .ref C) (hf : o.data = .fields vs) (hz : vs[0]? = some v0)
    (h : ∀ h' t, h'.get? e = some { o with data := .fields (vs.setIfInBounds 0 (.ref t)) } → (∀ b ob, b ≠ e → s.heap.get? b = some ob → h'.get? b = some ob) → Q .none { s with heap := h' }) :
    wpAny (model prog w) A (call (.builtin "ValueError.__init__") [.ref e, v]) Q E s := by
  obtain ⟨bm, N, nm, qn, bs, sn, sub, ab, col, dd, k0, k1, k2, k3, k5, mN, oC, nN, ni, TL⟩ := exi_obj q X
  have FB := PySem.F.excBase_ValueError
  obtain ⟨hp, g, dr, tk, os⟩ := s
  dsimp only at *
  refine wpAny_call (codeAny_call_builtin FB.init.plain FB.initEntry (wpAny_check_init_subT FB TL oC he hc ?_))
  have hlt : 0 < vs.size := (Array.getElem?_eq_some_iff.mp hz).1
  have he1 := Heap.get?_push_of_some (h := hp) { cls := .type "tuple", data := .seq [v].toArray } he
  unfold Builtin.«BaseException.__init__»
  dsimp only
  rw [if_neg (by decide)]
  refine wpAny_bind (wpAny_newTuple ?_)
  refine wpAny_bind ?_
  show wpAny _ _ (field (.ref e) 0 >>= _) _ _ _
  refine wpAny_bind (wpAny_field he1 hf hz (wpAny_bind (wpAny_setField he1 hf hlt ?_)))
  have he2 := Heap.get?_update_self (Obj.mapFields (·.setIfInBounds 0 (Value.ref hp.objs.size))) he1 (Obj.isFreed_of_fields (Obj.data_mapFields hf _))
  have fin : ∀ {x : Shared}, x = ⟨(hp.push { cls := .type "tuple", data := .seq [v].toArray }).update e (Obj.mapFields (·.setIfInBounds 0 (Value.ref hp.objs.size))), g, dr, tk, os⟩ → Q .none x := by
    rintro _ rfl
    refine h _ hp.objs.size ?_ fun b ob nb hb => ?_
    · rw [he2]
      obtain ⟨oc, od, odt, osl⟩ := o
      cases hf
      rfl
    · exact (Heap.get?_update_other _ _ (Ne.symm nb)).trans (Heap.get?_push_of_some _ hb)
  cases v0 with
  | ref t0 => exact wpAny_letGo (wpAny_pure (fin rfl))
  | _ => exact wpAny_pure (wpAny_pure (fin rfl))
/-- C(..) of such a class: made, then its __init__ -/
theorem xcall_ok {rest : List Value} {Q : Value → Shared → Prop} {bm bs : List Value} {N : Addr} {nm qn : Str} {sn : List Str} {sub : List Value} {ab : Bool} {col : Option Bool} {dd : Option Addr} {k0 k1 k2 k3 k5 : Option Value} {mN : Str → Option Value} {fo : Obj}
    (oC : s.heap.get? C = some (excClassObj nm qn C N bs bm true sn sub ab col dd k0 k1 k2 k3 k5 "ValueError.__new__")) (nN : s.heap.Ns N mN) (ni : mN "__init__" = some (.ref f)) (TL : OwnTail s.heap vE bm) (hfo : s.heap.get? f = some fo) (hfc : fo.cls = .type "function") (hl : rest.length ≤ sizeLine)
    (h : ∀ h' x, Heap.MadeExcOf s.heap h' x (.ref C) rest → wpAny (model prog w) (A.under (.builtin "type.__call__" ⟨.ref C :: rest, []⟩)) (call (.ref f) (.ref x :: rest)) (fun r s2 => r = .none ∧ Q (.ref x) s2) E { s with heap := h' }) :
    wpAny (model prog w) A (call (.ref C) rest) Q E s := by
  have FB := PySem.F.excBase_ValueError
  obtain ⟨hp, g, dr, tk, os⟩ := s
  dsimp only at *
  have f1 := tc_lookup
  have f2 := tc_bind (.ref C)
  have hT : (⟨hp, g, dr, tk, os⟩ : Shared).TypeIs (.ref C) "type" := ⟨_, oC, rfl⟩
  refine wpAny_call (codeAny_of_tree ?_)
  show wpAny _ _ (callAny (.ref C) _) _ _ _
  repeat (any_goals (first | assumption | with_reducible refine wpAny_loadPart_at oC ?_ | wp_step))
  refine ⟨rfl, codeAny_call_builtin_at (Code.quiet_builtin _ (by decide +kernel)) entry_typeCall (wpAny_check_type_call_sub oC ?_)⟩
  repeat (first | with_reducible refine wpAny_loadPart_at oC ?_ | with_reducible refine wpAny_madeBy_exc oC ?_ | wp_step)
  refine codeAny_call_builtin_code (Code.quiet_builtin _ FB.quiet) (wpAny_check_new_subT FB TL oC (codeAny_exc_new_subT FB TL oC ?_ hl))
  show wpAny _ _ _ _ _ (⟨(hp.push { cls := .type "tuple", data := .seq rest.toArray }).push { cls := .ref C, data := .fields #[.ref hp.objs.size, .none, .none, .none, .bool false, .none] }, g, dr, tk, os⟩ : Shared)
  generalize hh1 : ((hp.push { cls := .type "tuple", data := .seq rest.toArray }).push { cls := .ref C, data := .fields #[.ref hp.objs.size, .none, .none, .none, .bool false, .none] }) = h1
  have kp : ∀ b ob, hp.get? b = some ob → h1.get? b = some ob := fun b ob hb => by rw [← hh1]; exact Heap.get?_push_of_some _ (Heap.get?_push_of_some _ hb)
  have hx : h1.get? (hp.objs.size + 1) = some { cls := .ref C, data := .fields #[.ref hp.objs.size, .none, .none, .none, .bool false, .none] } := by rw [← hh1]; heap_get
  have ht : h1.get? hp.objs.size = some { cls := .type "tuple", data := .seq rest.toArray } := by rw [← hh1]; exact Heap.get?_push_of_some _ (Heap.get?_push_at rfl rfl)
  have oC1 := kp _ _ oC
  have hcC : (Value.ref C :: bm).contains (.ref C) = true := by simp
  unfold isInstance
  repeat (first | with_reducible refine wpAny_loadPart_at hx ?_ | (with_reducible refine wpAny_isSubtype_exc oC1 ?_; rw [hcC]) | wp_step)
  show wpAny _ _ (typeLookup (.ref C) _) _ _ _
  refine wpAny_typeLookup_tail oC1 (nN.keeps kp) (TL.keeps kp) FB.mroIs FB.init.lookup ?_
  rw [ni]
  refine wpAny_holding (wpAny_bind ?_)
  unfold bindSpecial
  refine wpAny_bind (wpAny_typeOf (T := "function") ⟨_, kp _ _ hfo, hfc⟩ ?_)
  rw [if_pos (by decide)]
  refine wpAny_pure (wpAny_bind (wpAny_mono (h h1 (hp.objs.size + 1) ⟨kp, Heap.get?_none_of_le (Nat.le_succ _), hp.objs.size, hx, Heap.get?_none_of_le (Nat.le_refl _), ht⟩) (fun r s2 hr => ?_) fun _ _ z => z))
  obtain ⟨rfl, hQ⟩ := hr
  wp_walk
  exact hQ
/-- raise of what was made -/
theorem xraise_ok {x : Sem Value} {env : Env} {Q : Flow → Shared → Prop} (hh : A.handled = none)
    (h : wpAny (model prog w) A x (fun v s1 => ∃ e0 o0 bm N nm qn bs sn sub ab col dd k0 k1 k2 k3 k5, v = .ref e0 ∧ s1.heap.get? C = some (excClassObj nm qn C N bs bm true sn sub ab col dd k0 k1 k2 k3 k5 "ValueError.__new__") ∧ OwnTail s1.heap vE bm ∧ s1.heap.get? e0 = some o0 ∧ o0.cls = .ref C ∧ (∃ ws, o0.data = .fields ws ∧ ws[1]? = some .none) ∧ E (.ref e0) s1) E s) :
    wpAny (model prog w) A (raiseStmt env (some x) none) Q E s := by
  unfold raiseStmt
  refine wpAny_bind (wpAny_mono h (fun v s1 hv => ?_) fun _ _ z => z)
  obtain ⟨e0, o0, bm, N, nm, qn, bs, sn, sub, ab, col, dd, k0, k1, k2, k3, k5, rfl, oC, TL, he, hc, ⟨ws, hw, h1⟩, hE⟩ := hv
  have FB := PySem.F.excBase_ValueError
  have hb : (Value.ref C :: bm).contains (.type "BaseException") = true := by rw [List.contains_cons, TL.hasType FB.hasBase, Bool.or_true]
  obtain ⟨hp, g, dr, tk, os⟩ := s1
  repeat (first | (with_reducible refine wpAny_loadPart_at he ?_; rw [hc]) | with_reducible refine wpAny_loadPart_at oC ?_ | (with_reducible refine wpAny_isSubtype_exc oC ?_; rw [hb]) | wp_step)
  rw [hw]
  refine wpAny_pure ?_
  rw [h1]
  refine wpAny_pure ?_
  rw [if_neg (by decide)]
  exact wpAny_pure (wpAny_raiseNew_none hh hE)
end
end L2
namespace L2
open PySem PySem.Spec PyProof.Rows
/-- an exception just made -/
def exN (e : Addr) (C : Value) (d : Option Addr) : HO := .ext fun h => ∃ o vs, h.get? e = some o ∧ o.cls = C ∧ o.dict = d ∧ o.data = .fields vs ∧ vs[1]? = some .none ∧ vs[2]? = some .none
theorem exN_ok {P : Program} {w : World} {H : Hp} {h : Heap} {C : Value} {d : Option Addr} {e : Addr} (x : ∃ o vs, h.get? e = some o ∧ o.cls = C ∧ o.dict = d ∧ o.data = .fields vs ∧ vs[1]? = some .none ∧ vs[2]? = some .none) : ObjOk P w H h e (exN e C d) := by
  obtain ⟨o, vs, h1, h2⟩ := id x
  exact ⟨x, ⟨o, h1⟩, fun g1 g2 ⟨o', vs', q1, q2⟩ k => ⟨o', vs', k _ q1, q2⟩⟩
theorem upd_id {H : Hp} {a : Addr} {o : HO} (h : H a = some o) : upd H a o = H := by
  funext b
  unfold upd
  split
  · rename_i e; rw [e, h]
  · rfl
/-- the class above, whose __init__ is called by name -/
structure XSup (K : PySem.W.Frag) (S : Addr) : Prop where
  rd : PySem.W.readsIn K S (.type "type") = true
  fc : PySem.W.findCls K (.ref S) (.type "type") "__init__" = some (.val (.builtin "ValueError.__init__"))
  sp : PySem.W.specialIn K (.ref S) "__getattribute__" = some (some (.builtin "type.__getattribute__"))
/-- what is asked of the class itself -/
structure XNew (K : PySem.W.Frag) (C f : Addr) (name : Str) : Prop where
  ex : exiIn K C f = true
  sa : PySem.W.findIn K (.ref C) "__setattr__" = some (some (.builtin "object.__setattr__"))
  mo : PySem.W.mroIn K C (.type "object") = some true
  na : PySem.W.findIn K (.ref C) name = some none
  kp : PySem.W.keepIn K (.ref C) = true
  fn : PySem.W.typeIn K (.ref f) = some (.type "function")
def tXini (C : Addr) (ta : TA) : TE := fun σ H Q => ta σ H fun vs H1 => ∃ e v d, vs = [.ref e, v] ∧ H1 e = some (exN e (.ref C) d) ∧ Q .non H1
def sXset (C : Addr) (ta tv : TE) (f : Str) : TS := fun D σ H => tv σ H fun y H1 => ta σ H1 fun x H2 => ∃ e, x = .ref e ∧ H2 e = some (exN e (.ref C) none) ∧ ∀ dx, H2 dx = none → dx ≠ e → D.nx σ (upd (upd H2 dx (.xd [(f, y)])) e (exN e (.ref C) (some dx)))
section
variable {X : Cx} {C SA fI : Addr} {x name : Str} {e₀ o value : Expr} {es : List Expr} {ta tv : TE} {t : TA} {np apos pos pos' : Pos}
theorem pe_xini {pl : Sem Bool} (q : exiIn X.K C fI = true) (S : XSup X.K SA) (hg : Gl X x) (hm : X.mg x = some (.ref SA)) (ha : PA X (e₀ :: es) t) (hdb : (x == ("__debug__" : Str)) = false := by decide)
    (hst : starEach (e₀ :: es) X.env = (false, eval e₀ X.env) :: starEach es X.env := by rfl) (hpl : (backTo pos (starEach es X.env)).any (·.1) = false := by rfl)
    (ht : eval (.Call (.Attribute (.Name x np) "__init__" apos) (e₀ :: es) [] pos) X.env = (do
      let ov ← eval (.Name x np) X.env
      standAt apos.atName
      let (g, first) ← holding [ov] (getMethod ov "__init__" pl)
      callWith pos g first (backTo pos (starEach (e₀ :: es) X.env)) (backToKw pos (keywordEach [] X.env))) := by rfl) :
    PE X (.Call (.Attribute (.Name x np) "__init__" apos) (e₀ :: es) [] pos) (tXini C t) := by
  intro pins s σ H Q I h
  refine PySem.W.methodCall_KW (pl := pl) (ld_glob I hg hm ?_ hdb) ht
  refine PySem.W.method_cls I.kIn S.sp (PySem.W.cls_value I.kIn S.rd S.fc rfl ?_)
  refine PyProof.Rows.callWith_builtin1 (thn (ha pos pins _ σ H _ (I.tok _) h) fun us s2 ⟨vs, H2, I2, r, e, v, d, ev, he, q2⟩ => ?_) hst hpl
  subst ev
  obtain ⟨u1, u2, rfl, r1, r2⟩ := vals2 r
  obtain rfl : u1 = Value.ref e := r1
  obtain ⟨⟨o, ws, h1, h2, h3, h4, h5, h6⟩, _⟩ := I2.hok e _ he
  have z1 : 1 < ws.size := (Array.getElem?_eq_some_iff.mp h5).1
  have hz : ws[0]? = some ws[0] := Array.getElem?_eq_getElem (by omega)
  refine xini_ok I2.kIn q h1 h2 h4 hz fun h' t0 he' hk => ⟨.non, H2, ?_, rfl, q2⟩
  have W := I2.write (x := e) (e := e) (o := exN e (.ref C) d) (t' := s2.toks) (h' := h') (by rw [he]; exact True.intro) (.inl rfl) hk ⟨_, he'⟩ (exN_ok ⟨_, _, he', h2, h3, rfl, by rw [Array.getElem?_setIfInBounds_ne (by decide)]; exact h5, by rw [Array.getElem?_setIfInBounds_ne (by decide)]; exact h6⟩)
  rw [upd_id he] at W
  exact W
/-- the attribute is laid, its dict is new -/
theorem xlaid {pins : List (Addr × Obj)} {σ : St} {H : Hp} {s : Shared} {h' : Heap} {tk : Nat} {e : Addr} {u : Value} {y : V} (I : Inv X pins σ H s) (he : H e = some (exN e (.ref C) none)) (ry : RelV y u)
    (n1 : h'.Ns1 s.heap.objs.size (fun z => if z = name then some u else none)) (h1 : ∃ o vs, h'.get? e = some o ∧ o.cls = .ref C ∧ o.dict = some s.heap.objs.size ∧ o.data = .fields vs ∧ vs[1]? = some .none ∧ vs[2]? = some .none) (hk : ∀ b ob, b ≠ e → s.heap.get? b = some ob → h'.get? b = some ob) :
    Inv X pins σ (upd (upd H s.heap.objs.size (.xd [(name, y)])) e (exN e (.ref C) (some s.heap.objs.size))) { s with heap := h', toks := tk } := by
  have fr : H s.heap.objs.size = none := I.hok.fresh (Nat.le_refl _)
  have ne : s.heap.objs.size ≠ e := fun z => by rw [z, he] at fr; cases fr
  have nd : ∀ b ob, s.heap.get? b = some ob → b ≠ s.heap.objs.size := fun b ob q => Nat.ne_of_lt (Heap.lt_size q)
  have oth : ∀ b, b ≠ e → b ≠ s.heap.objs.size → (upd (upd H s.heap.objs.size (.xd [(name, y)])) e (exN e (.ref C) (some s.heap.objs.size))) b = H b := fun b z1 z2 => by rw [upd_ne z1, upd_ne z2]
  have nn : ∀ b u, H b = some u → b ≠ s.heap.objs.size := fun b u q z => by rw [z, fr] at q; cases q
  have nx : ∀ b u, H b = some u → u ≠ exN e (.ref C) none → b ≠ e := fun b u q z1 z => by rw [z, he] at q; exact z1 (Option.some.inj q).symm
  refine I.un ⟨fun b ob q n _ _ => hk b ob (fun z => by rw [z, he] at n; cases n) q, fun b ob q n _ _ => ⟨ob.slots, hk b ob (fun z => by rw [z, he] at n; cases n) q⟩, fun b ob q n _ => ?_, fun b ob q _ => ?_, fun b xs q => ?_, fun b o v q => ?_, fun b ps q => ?_⟩ fun b v q => ?_
  · rw [oth b (fun z => by rw [z, he] at n; cases n) (nd b ob q)]; exact n
  · by_cases z : b = e
    · obtain ⟨o, _, q1, _⟩ := h1
      exact ⟨o, by rw [z]; exact q1⟩
    · exact ⟨ob, hk b ob z q⟩
  · rw [oth b (nx b _ q (fun z => by cases z)) (nn b _ q)]; exact q
  · rw [oth b (nx b _ q (fun z => by cases z)) (nn b _ q)]; exact q
  · exact ⟨#[], by rw [oth b (nx b _ q (fun z => by cases z)) (nn b _ q), q]; simp⟩
  · by_cases ze : b = e
    · subst ze
      rw [upd_same] at q
      cases q
      exact exN_ok h1
    · by_cases zd : b = s.heap.objs.size
      · subst zd
        rw [upd_ne ze, upd_same] at q
        cases q
        refine ⟨_, n1, fun f => ?_⟩
        show RelO (List.lookup f [(name, y)]) _
        by_cases zf : f = name
        · have hb : (f == name) = true := beq_iff_eq.mpr zf
          simp only [List.lookup, hb, if_pos zf]
          exact ry
        · have hb : (f == name) = false := by simpa using zf
          simp only [List.lookup, hb, if_neg zf]
          trivial
      · rw [oth b ze zd] at q
        refine (I.hok b v q).stay (fun c ob hc r => hk c ob (fun z => ?_) r) (fun c r => ?_) fun c xs r => ?_
        · rcases hc with hc | hc
          · exact ze (hc.symm.trans z)
          · exact nx c _ hc (fun z => by cases z) z
        · rw [oth c (nx c _ r (fun z => by cases z)) (nn c _ r)]; exact r
        · rw [oth c (nx c _ r (fun z => by cases z)) (nn c _ r)]; exact r
theorem ps_xset (N : XNew X.K C fI name) (ha : PE X o ta) (hv : PE X value tv) (hs : swapsWith value (some (.Attribute o name pos')) pos.line X.env = pure false) : PS X (.Assign [.Attribute o name pos'] value pos) (sXset C ta tv name) := by
  intro pins s σ H D I h
  refine plainObj_wpAny_Assign_Attribute (thn (hv pins s σ H _ I h) fun u s1 ⟨y, H1, I1, ry, q⟩ => thn (ha pins s1 σ H1 _ I1 q) fun ov s2 ⟨x, H2, I2, rx, e, ex, he, q2⟩ => ?_) hs
  subst ex
  obtain rfl : ov = Value.ref e := rx
  obtain ⟨⟨o, ws, h1, h2, h3, h4, h5, h6⟩, _⟩ := I2.hok e _ he
  have fr : H2 s2.heap.objs.size = none := I2.hok.fresh (Nat.le_refl _)
  refine xset_ok I2.kIn N.ex h1 h2 h3 h4 N.sa N.mo N.na fun h' tk n1 he' hk => ⟨σ, _, xlaid I2 he ry n1 ⟨_, _, he', h2, rfl, h4, h5, h6⟩ hk, q2 _ fr fun z => by rw [z, he] at fr; cases fr⟩
end
def unt (H : Hp) (e : Addr) : Hp := fun b => if b = e then none else H b
theorem unt_ne {H : Hp} {e b : Addr} (h : b ≠ e) : unt H e b = H b := by unfold unt; rw [if_neg h]
theorem unt_self {H : Hp} {e : Addr} : unt H e e = none := by unfold unt; rw [if_pos rfl]
def ThrowsX (X : Cx) (E : XK) : Prop := ∀ (pins : List (Addr × Obj)) (σ : St) (H H2 : Hp) (s s2 : Shared) (h1 : Heap) (e : Addr) (C : Value) (d : Option Addr) (args : List Value), Inv X pins σ H s → Heap.MadeExcOf s.heap h1 e C args → Un (frs X.stack) [] (upd H e (exN e C none)) H2 h1 s2.heap →
  HOk X.prog X.w H2 s2.heap → Inv X pins σ H2 s2 → H2 e = some (exN e C d) → s2.os = s.os → AllBare s2.gens → E C d (unt H2 e) → X.xe (.ref e) s2
theorem fly_x {X : Cx} {pins : List (Addr × Obj)} {σ : St} {H H2 : Hp} {s s2 : Shared} {h1 : Heap} {e : Addr} {C : Value} {d : Option Addr} {args : List Value} (I : Inv X pins σ H s) (m : Heap.MadeExcOf s.heap h1 e C args) (u : Un (frs X.stack) [] (upd H e (exN e C none)) H2 h1 s2.heap)
    (hok : HOk X.prog X.w H2 s2.heap) (I2 : Inv X pins σ H2 s2) (he : H2 e = some (exN e C d)) : ∃ B, Air B X.stack e s2.heap ∧ ExAt B e C d s2.heap ∧ HOk X.prog X.w (unt H2 e) B ∧ UnB (frs X.stack) H (unt H2 e) s.heap B s2.heap := by
  have hn : H e = none := by
    cases q : H e with
    | none => rfl
    | some o =>
      obtain ⟨ob, z⟩ := (I.hok e o q).obj
      rw [m.new] at z; cases z
  have old : ∀ b ob, s.heap.get? b = some ob → b ≠ e := fun b ob q z => by rw [z, m.new] at q; cases q
  have hin : ∀ b v, H b = some v → b ≠ e := fun b v q z => by rw [z, hn] at q; cases q
  have up : ∀ b, b ≠ e → (upd H e (exN e C none)) b = H b := fun b z => upd_ne z
  have keepT : ∀ b v, H2 b = some v → v ≠ exN e C d → unt H2 e b = some v := fun b v q z => by
    rw [unt_ne (fun w => by rw [w, he] at q; exact z (Option.some.inj q).symm)]; exact q
  have hok2 : HOk X.prog X.w (unt H2 e) s2.heap := fun b v q => by
    have nb : b ≠ e := fun z => by rw [z, unt_self] at q; cases q
    rw [unt_ne nb] at q
    exact (hok b v q).stay (fun _ _ _ r => r) (fun c r => keepT c _ r (fun z => by cases z)) fun c xs r => keepT c _ r (fun z => by cases z)
  refine ⟨PySem.W.hideAll s2.heap (e :: frs X.stack), ⟨fun b o q => PySem.W.of_hideAll _ q, PySem.W.hideAll_none _ (.head _), PySem.W.funFrames_hide I2.stack fun env hv a ha => .tail _ (List.mem_filterMap.mpr ⟨env, hv, ha⟩)⟩, ?_, hok_hide hok2 (fun b hb => ?_), ?_⟩
  · obtain ⟨⟨o, vs, q1, q2, q3, q4, q5, q6⟩, _⟩ := hok e _ he
    exact ⟨o, vs, q1, q2, q3, q4, q6, .inl q5⟩
  · rcases List.mem_cons.mp hb with z | z
    · rw [z]; exact unt_self
    · by_cases w : b = e
      · rw [w]; exact unt_self
      · rw [unt_ne w]; exact I2.stkFree b z
  · have nm : ∀ b ob, s.heap.get? b = some ob → b ∉ frs X.stack → b ∉ e :: frs X.stack := fun b ob q hb z => (List.mem_cons.mp z).elim (old b ob q) hb
    refine ⟨fun b o q n hb => ?_, fun b o q n hb => ?_, fun b o q n => ?_, fun b o q hb => ?_, fun b xs q => ?_, fun b o v q => ?_, fun b ps q => ?_⟩
    · exact PySem.W.hideAll_get _ (u.keep b o (m.keeps _ _ q) (by rw [up b (old b o q)]; exact n) hb (by simp)) (nm b o q hb)
    · exact u.slot b o (m.keeps _ _ q) (by rw [up b (old b o q)]; exact n) hb (by simp)
    · rw [unt_ne (old b o q)]
      exact u.free b o (m.keeps _ _ q) (by rw [up b (old b o q)]; exact n) (by simp)
    · obtain ⟨o', z⟩ := u.there b o (m.keeps _ _ q) (by simp)
      exact ⟨o', PySem.W.hideAll_get _ z (nm b o q hb)⟩
    · exact keepT b _ (u.tups b xs (by rw [up b (hin b _ q)]; exact q)) (fun z => by cases z)
    · exact keepT b _ (u.frzs b o v (by rw [up b (hin b _ q)]; exact q)) (fun z => by cases z)
    · obtain ⟨more, z⟩ := u.tbls b ps (by rw [up b (hin b _ q)]; exact q)
      exact ⟨more, keepT b _ z (fun z => by cases z)⟩
theorem throwX1 {P : Program} {w : World} {K : PySem.W.Frag} {mg : Str → Option Value} {base : Heap} {N : List Str} {qual : Str} {scope : Scope} {f : Addr} {cd : Value} {A : Around} {outer : List Env} {s : Shared} {H : Hp} {E : XK} : ThrowsX (cxOf (CX1 P w) P w K mg base N qual scope f cd A outer s H E) E := by
  intro pins σ Hc H2 sc s2 h1 e C d args I m u hok I2 he hos hb hq
  obtain ⟨B, a, x, hok', u'⟩ := fly_x I m u hok I2 he
  refine air_leave (s := s2) (B := B) (L := s.heap.objs.size) I.ok.frames rfl a x fun h2 a2 x2 up => ?_
  exact ⟨e, C, d, _, rfl, ⟨hos.trans I.os, hb, B, a2, x2, hok', UnB.after I rfl rfl rfl a u' up⟩, hq⟩
def spXinit (C : Addr) (name : Str) (ok : V → Prop) : Sp := fun vs H Q _ => ∃ e v, vs = [.ref e, v] ∧ ok v ∧ H e = some (exN e (.ref C) none) ∧ ∀ dx, H dx = none → dx ≠ e → Q .non (upd (upd H dx (.xd [(name, v)])) e (exN e (.ref C) (some dx)))
def tRaiseX (t : TA) (C : Addr) (name : Str) (ok : V → Prop) (E : XK) : TS := fun _ σ H => t σ H fun vs H1 => ∃ v, vs = [v] ∧ ok v ∧ ∀ dx H2, H1 dx = none → H2 = upd H1 dx (.xd [(name, v)]) → E (.ref C) (some dx) H2
section
variable {X : Cx} {C fI : Addr} {x name p1 p2 : Str} {e₀ : Expr} {rest : List Expr} {t : TA} {E : XK} {np cpos pos : Pos} {k : Nat} {fd : FuncData} {ok : V → Prop}
theorem ps_raiseX (hc : X.calm = true) (N : XNew X.K C fI name) (hg : Gl X x) (hm : X.mg x = some (.ref C)) (F : FnOk X.prog X.w X.K X.mg X.base CX0 k fI fd [p1, p2] (spXinit C name ok)) (hb : Binds X.K fd [p1, p2] []) (hr : Room (k + 1) X.A) (ht : ThrowsX X E) (ha : PA X (e₀ :: rest) t)
    (hdb : (x == ("__debug__" : Str)) = false := by decide) (he : starEach (e₀ :: rest) X.env = (false, eval e₀ X.env) :: starEach rest X.env := by rfl) (hpl : (backTo cpos (starEach rest X.env)).any (·.1) = false := by rfl) :
    PS X (.Raise (some (.Call (.Name x np) (e₀ :: rest) [] cpos)) none pos) (tRaiseX t C name ok E) := by
  intro pins s σ H D I h
  rw [arm_exec_Raise]
  refine wpAny_bind (wpAny_standAt (xraise_ok (C := C) (I.ok.hd hc) (wpAny_bind (wpAny_mono (wpAny_Call_Name_kw (ld_glob I hg hm ?_ hdb)) (fun v s3 h3 => wpAny_bind (wpAny_standAt (wpAny_pure h3))) fun _ _ z => z))))
  refine PySem.W.callWith_K (h₀ := X.base) I.ok.mod.kin N.kp (thn (ha cpos pins s σ H _ I h) fun us s1 ⟨vs, H1, I1, r, v, ev, hok0, q⟩ => ⟨I1.kIn, ?_⟩) he hpl
  subst ev
  obtain ⟨u, rfl, ru⟩ := vals1 r
  obtain ⟨bm, N', nm, qn, bs, sn, sub, ab, col, dd, k0, k1, k2, k3, k5, mN, oC, nN, ni, TL⟩ := exi_obj N.ex I1.kIn
  obtain ⟨fo, hfo, hfc⟩ : ∃ fo, s1.heap.get? fI = some fo ∧ fo.cls = .type "function" := by
    have z := N.fn
    unfold PySem.W.typeIn at z
    dsimp only at z
    obtain ⟨fo, z1, z2⟩ := Option.map_eq_some_iff.mp z
    exact ⟨fo, I1.kIn _ _ z1, z2⟩
  refine xcall_ok oC nN ni TL hfo hfc (by simp [sizeLine_eq]) fun h1 e m => ?_
  have hn : H1 e = none := by
    cases z : H1 e with
    | none => rfl
    | some o =>
      obtain ⟨ob, w⟩ := (I1.hok e o z).obj
      rw [m.new] at w; cases w
  have old : ∀ b ob, s1.heap.get? b = some ob → b ≠ e := fun b ob q z => by rw [z, m.new] at q; cases q
  have hin : ∀ b v, H1 b = some v → b ≠ e := fun b v q z => by rw [z, hn] at q; cases q
  have I2 : Inv X pins σ (upd H1 e (exN e (.ref C) none)) { s1 with heap := h1 } := by
    refine I1.un (t' := s1.toks) ⟨fun b ob q _ _ _ => m.keeps _ _ q, fun b ob q _ _ _ => ⟨ob.slots, m.keeps _ _ q⟩, fun b ob q n _ => by rw [upd_ne (old b ob q)]; exact n, fun b ob q _ => ⟨ob, m.keeps _ _ q⟩, fun b xs q => by rw [upd_ne (hin b _ q)]; exact q, fun b o v q => by rw [upd_ne (hin b _ q)]; exact q, fun b ps q => ⟨#[], by rw [upd_ne (hin b _ q), q]; simp⟩⟩ fun b w q => ?_
    by_cases ze : b = e
    · subst ze
      rw [upd_same] at q
      cases q
      obtain ⟨t0, z, _, _⟩ := m.there
      exact exN_ok ⟨_, _, z, rfl, rfl, rfl, rfl, rfl⟩
    · rw [upd_ne ze] at q
      exact (I1.hok b w q).stay (fun c ob _ r => m.keeps _ _ r) (fun c r => by rw [upd_ne (hin c _ r)]; exact r) fun c xs r => by rw [upd_ne (hin c _ r)]; exact r
  refine wpAny_call (codeAny_mono (F.run _ X.stack _ _ ⟨[.ref e, u], []⟩ [.ref e, u] [.ref e, v] (fun w H2 => w = .non ∧ ∃ dx, H1 dx = none ∧ dx ≠ e ∧ H2 = upd (upd (upd H1 e (exN e (.ref C) none)) dx (.xd [(name, v)])) e (exN e (.ref C) (some dx))) E0 (hr.make C [u] []) (I2.env0.make C [u] []) (hb _ [.ref e, u] I2.kIn rfl) (.cons rfl (.cons ru .nil))
    ⟨e, v, rfl, hok0, upd_same, fun dx hdx nd => ⟨rfl, dx, by rw [upd_ne nd] at hdx; exact hdx, nd, rfl⟩⟩) fun r s' hq => ?_)
  cases r with
  | error e => exact False.elim hq
  | ok fl =>
    cases fl with
    | next => exact False.elim hq
    | brk => exact False.elim hq
    | cont => exact False.elim hq
    | ret uu =>
      obtain ⟨vv, H2, hos, hbare, un, hok, rv, rfl, dx, hdx, nd, hH2⟩ := hq
      have euu : uu = .none := rv
      subst euu
      have I3 : Inv X pins σ H2 s' := I2.call' (ch := []) hos un hok hbare (fun b z => absurd z (by simp))
      have he2 : H2 e = some (exN e (.ref C) (some dx)) := by rw [hH2, upd_same]
      obtain ⟨bm', N2, nm', qn', bs', sn', sub', ab', col', dd', l0, l1, l2, l3, l5, mN', oC', _, _, TL'⟩ := exi_obj N.ex I3.kIn
      obtain ⟨⟨o, ws, q1, q2, q3, q4, q5, q6⟩, _⟩ := hok e _ he2
      refine ⟨rfl, e, o, bm', N2, nm', qn', bs', sn', sub', ab', col', dd', l0, l1, l2, l3, l5, rfl, oC', TL', q1, q2, ⟨ws, q4, q5⟩, ?_⟩
      refine ht pins σ H1 H2 s1 s' h1 e (.ref C) (some dx) [u] I1 m un hok I3 he2 hos hbare (q dx _ hdx ?_)
      funext b
      rw [hH2]
      by_cases zb : b = e
      · rw [zb, unt_self, upd_ne (Ne.symm nd), hn]
      · rw [unt_ne zb, upd_ne zb]
        by_cases zd : b = dx
        · rw [zd, upd_same, upd_same]
        · rw [upd_ne zd, upd_ne zb, upd_ne zd]
end
/-- a caught exception of the class D, with its dict or without -/
def XAt (H : Hp) (e D : Addr) (d : Option Addr) : Prop := H e = some (exO e (.ref D) d) ∧ ∀ dx, d = some dx → ∃ fs, H dx = some (.xd fs)
def tXfld (K : PySem.W.Frag) (ta : TE) (f : Str) : TE := fun σ H Q => ta σ H fun x H1 => ∃ e D dx fs v, x = .ref e ∧ H1 e = some (exO e (.ref D) (some dx)) ∧ H1 dx = some (.xd fs) ∧ XCls K D ∧ PySem.W.hasDictIn K D = true ∧ NoAttr K D f ∧ fs.lookup f = some v ∧ Q v H1
section
variable {X : Cx} {e₀ : Expr} {f : Str} {pos : Pos} {ta : TE}
theorem pe_xfld (he : PE X e₀ ta) (hb : attributeBase e₀ f X.env (eval e₀ X.env) = eval e₀ X.env) : PE X (.Attribute e₀ f pos) (tXfld X.K ta f) := by
  intro pins s σ H Q I h
  refine attr_of hb (thn (he pins s σ H _ I h) fun u s1 ⟨x, H1, I1, rx, e, D, dx, fs, v, ex, ee, ed, c, hd, n, l, q⟩ => ?_)
  subst ex
  obtain rfl : u = Value.ref e := rx
  obtain ⟨⟨o, vs, h1, h2, h3, h4, _⟩, _⟩ := I1.hok e _ ee
  obtain ⟨mA, nA, rA⟩ := (show ObjOk X.prog X.w H1 s1.heap dx (.xd fs) from I1.hok dx _ ed)
  obtain ⟨od, ho, hl⟩ := lookIn_ns nA
  obtain ⟨w', hw, rw'⟩ := RelO.some_of (v := v) (o := mA f) (by rw [← l]; exact rA f)
  have J : PySem.W.InstAt s1.heap e o D (some od) := ⟨h1, h2, by unfold PySem.W.notCls; rw [h4], by rw [h3]; exact ho⟩
  refine wpAny_bind (wpAny_mkText (exc_by (s := { s1 with toks := s1.toks + 1 }) I1.kIn c J (PySem.W.findObj_own hd n rfl (by rw [hl, hw])) ⟨handed_of rw', v, H1, I1.tok _, rw', q⟩))
def rIsExcD (K : PySem.W.Frag) : List V → Hp → VK → Prop := fun xs H Q => ∃ e c D d t b, xs = [.ref e, c] ∧ clsV c = some t ∧ XAt H e D d ∧ XCls K D ∧ PySem.W.kitOne K (.ref D) t = some b ∧ Q (.bl b) H
theorem call_isExcD : CallR X (.builtin "isinstance") (rIsExcD X.K) := by
  intro pins s σ H xs us Q I r h
  obtain ⟨e, c, D, d, t, b, rfl, hc, ⟨he, hd⟩, hx, hk, q⟩ := h
  obtain ⟨u, w', rfl, ru, rw'⟩ := vals2 r
  cases ru
  have ew : w' = t := by
    cases c with
    | ty n => cases hc; exact rw'
    | ref a => cases hc; exact rw'
    | _ => cases hc
  subst ew
  obtain ⟨⟨o, vs, h1, h2, h3, h4, _⟩, _⟩ := I.hok e _ he
  have ii : ∃ od, PySem.W.InstAt s.heap e o D od := by
    cases d with
    | none => exact ⟨none, h1, h2, by unfold PySem.W.notCls; rw [h4], by rw [h3]; trivial⟩
    | some dx =>
      obtain ⟨fs, hf⟩ := hd dx rfl
      obtain ⟨ob, z⟩ := (I.hok dx _ hf).obj
      exact ⟨some ob, h1, h2, by unfold PySem.W.notCls; rw [h4], by rw [h3]; exact z⟩
  obtain ⟨od, ii⟩ := ii
  exact PySem.W.kia_one (kitx_exc hx) I.kIn ⟨_, _, ii⟩ hk (fun z => nomatch z) fun tk => ⟨.bl b, H, I.tok tk, rfl, q⟩
end
end L2
namespace K1
open PySem L2 Sq
abbrev sNti : Stmt := inClass sNottogether 0
def OkI (v : V) : Prop := ∃ i : Int, v = .int i ∧ i.natAbs ≤ 1000
theorem log1000 {m : Int} (h : m.natAbs ≤ 1000) : m.natAbs.log2 < 1000 := by
  by_cases z : m.natAbs = 0
  · rw [z]; decide
  · exact (Nat.log2_lt z).mpr (Nat.lt_of_le_of_lt h (by decide +kernel))
theorem app_len (a b : Str) : (a ++ b).length = a.length + b.length := by
  show (a.cps ++ b.cps).size = _
  rw [Array.size_append]; rfl
theorem log1920 {m : Int} (h : m.natAbs ≤ 1000) : m.natAbs.log2 < 1920 := by
  by_cases z : m.natAbs = 0
  · rw [z]; decide
  · exact (Nat.log2_lt z).mpr (Nat.lt_of_le_of_lt h (by decide +kernel))
section
variable {P : Program} {w : World} {K : PySem.W.Frag} {mg : Str → Option Value} {base : Heap}
theorem sc_nti : FnScope ["self", "square"] ["self", "square"] (defScope sNti) := ⟨rfl, rfl, rfl, by decide +kernel, rfl, by decide +kernel, by decide +kernel⟩
theorem ok_nti {f C SA : Addr} {fd : FuncData} (N : XNew K C f "square") (S : XSup K SA) (mS : mg "SheetError" = some (.ref SA)) (F : Fun K "__init__" "NotTogether.__init__" sNti f fd) : FnOk P w K mg base CX0 1 f fd ["self", "square"] (spXinit C "square" OkI) := by
  refine F.ok sc_nti (fun vs H Q E h => ?_) (fun cdv A outer s H vs Q E hr h => ?_)
  · obtain ⟨e, v, rfl, _⟩ := h; rfl
  · obtain ⟨e, v, rfl, ⟨i, rfl, hi⟩, he, k⟩ := h
    refine ⟨_, pss_cons (ps_expr (pe_xini N.ex S rfl mS (pa_cons (pv 0) (pa_cons (pe_fstr (.cons pe_str (.cons (pe_fmtI (pv 1)) .nil))) pa_nil)))) (pss_one (ps_xset N (pv 0) (pv 1) rfl)), ?_⟩
    refine ⟨_, rfl, _, rfl, ?_, _, rfl, i, rfl, log1920 hi, _, rfl, ?_, e, _, _, rfl, he, ?_⟩
    · show ((Str.empty : Str) ++ Str.ofString "no path leads from square 0 to square ").length ≤ sizeLine
      decide +kernel
    · have z1 : (Str.ofString (toString i)).length ≤ 1001 := by rw [ofString_length]; exact int_text_length_le (by decide) (log1000 hi)
      have z2 : ((Str.empty : Str) ++ Str.ofString "no path leads from square 0 to square ").length ≤ 100 := by decide +kernel
      have z3 : 2000 ≤ sizeLine := by decide
      rw [app_len]
      omega
    · exact ⟨_, rfl, _, rfl, e, rfl, he, fun dx h1 h2 => k dx h1 h2⟩
end
end K1
namespace K1
open PySem L2 Sq
def XIs (K : PySem.W.Frag) (C : Addr) (name qual : Str) (st : Stmt) (p1 p2 : Str) : Prop := ∃ f fd, XNew K C f name ∧ Fun K "__init__" qual st f fd ∧ Binds K fd [p1, p2] []
theorem xis_mk {K : PySem.W.Frag} {C f : Addr} {name qual p1 p2 : Str} {st : Stmt} {oc : Value} {od an : Option Addr} {osl : Array (Option Value)} {kV doc pm cdv ct : Value} (i : PySem.W.findIn K (.ref C) "__init__" = some (some (.ref f))) (ex : exiIn K C f = true)
    (sa : PySem.W.findIn K (.ref C) "__setattr__" = some (some (.builtin "object.__setattr__"))) (mo : PySem.W.mroIn K C (.type "object") = some true) (na : PySem.W.findIn K (.ref C) name = some none) (kp : PySem.W.keepIn K (.ref C) = true) (fn : PySem.W.typeIn K (.ref f) = some (.type "function"))
    (l : K.lookup f = some ⟨oc, od, .func (PySem.W.fnOf "__init__" qual (defArgs st) (defBody st) (defScope st) .none kV doc pm an cdv ct), osl⟩) (c : PySem.W.codeIn K cdv qual = true) (k : PySem.W.keepIn K (.ref f) = true)
    (b : ∀ (kV doc pm : Value) (an : Option Addr) (cdv ct : Value) (us : List Value), us.length = ([p1, p2] : List Str).length → bindArgs (PySem.W.fnOf "__init__" qual (defArgs st) (defBody st) (defScope st) .none kV doc pm an cdv ct) ⟨us, []⟩ = pure (([p1, p2] : List Str).zip us)) : XIs K C name qual st p1 p2 := by
  have F := fun_mk l c k
  exact ⟨f, _, ⟨ex, sa, mo, na, kp, fn⟩, F, F.binds b⟩
end K1
namespace K1
open PySem L2 Sq
def spPicked (K : PySem.W.Frag) : Sp := fun vs H Q _ => ∃ (p : Addr) (r : List Nat) (c : Int), vs = [.ref p, .int c] ∧ SqL K H p (nv r) ∧ r.length ≤ 36 ∧
  ∀ (H' : Hp) (l : Addr) (t : List Nat), Same H H' → H l = none → H' l = some (.lst (nv t)) → t.Perm r → Q (.ref l) H'
theorem pick_perm {line left r : List Nat} {k y : Nat} (p : (line ++ left).Perm r) (e : left[k]? = some y) : (line ++ [y] ++ left.eraseIdx k).Perm r := by
  refine List.Perm.trans ?_ p
  rw [List.append_assoc]
  refine List.Perm.append_left _ ?_
  have hk : k < left.length := (List.getElem?_eq_some_iff.mp e).1
  have hy : left[k] = y := (List.getElem?_eq_some_iff.mp e).2
  have h1 : left = left.take k ++ left[k] :: left.drop (k + 1) := by
    rw [← List.drop_eq_getElem_cons hk, List.take_append_drop]
  rw [List.eraseIdx_eq_take_drop_succ]
  conv => rhs; rw [h1, hy]
  exact (List.perm_middle (a := y) (l₁ := left.take k) (l₂ := left.drop (k + 1))).symm
section
variable {P : Program} {w : World} {K : PySem.W.Frag} {mg : Str → Option Value} {base : Heap}
abbrev nPk : List Str := ["_law_things", "_law_number", "_law_left", "_law_told"]
theorem scPk : FnScope nPk ["_law_things", "_law_number"] (defScope sPicked) := ⟨rfl, rfl, rfl, by decide +kernel, rfl, by decide +kernel, by decide +kernel⟩
/-- how long the list at the slot's address is left: the rank is kept in the heap -/
theorem ok_picked {f : Addr} {fd : FuncData} (T : Bi mg) (F : Fn K mg "_law_picked" sPicked ["_law_things", "_law_number"] f fd) : FnOk P w K mg base CX0 1 f fd ["_law_things", "_law_number"] (spPicked K) := by
  refine F.F.ok scPk (fun vs H Q E h => ?_) (fun cdv A outer s H vs Q E hr h => ?_)
  · obtain ⟨p, r, c, rfl, _⟩ := h; rfl
  · obtain ⟨p, r, c, rfl, hp, hn, k⟩ := h
    refine ⟨_, pss_cons (ps_set (i := 2) scPk.nd rfl (Or.inl rfl) (pe_callTy call_list_of rfl T.list boot_list (pa_cons (pv 0) pa_nil)))
      (pss_cons (ps_set (i := 3) scPk.nd rfl (Or.inl rfl) (pe_lst pa_nil))
      (pss_cons (ps_set (i := 1) scPk.nd rfl (Or.inl rfl) (pe_op op_add pe_int (pe_op op_mod (pv 1) pe_int)))
      (pss_cons (ps_while PassesOwn.never (pt_cmpR op_gt (pe_callB call_len_seq (by rfl) T.len PySem.boot_len (pa_cons (pv 2) pa_nil)) pe_int (nomark _))
        (pss_cons (ps_set (i := 1) scPk.nd rfl (Or.inl rfl) (pe_op op_mod (pe_op op_mul (pv 1) pe_int) pe_int))
        (pss_one (ps_expr (pe_bm PySem.F.plainAttrs_list PySem.F.slot_list_append PySem.F.type_list_append mt_append (pv 3) (pa_cons
          (pe_bm PySem.F.plainAttrs_list PySem.F.slot_list_pop PySem.F.type_list_pop mt_popAt (pv 2) (pa_cons (pe_op op_mod (pe_op op_fdiv (pv 1) pe_int) (pe_callB call_len_seq (by rfl) T.len PySem.boot_len (pa_cons (pv 2) pa_nil))) pa_nil)) pa_nil))))))
      (pss_one (ps_ret (pv 3)))))), ?_⟩
    refine ⟨_, rfl, p, _, rfl, .inl hp, fun lf hlf => ?_⟩
    refine ⟨Nat.zero_le _, fun ln hln => ?_⟩
    have nlnl : ln ≠ lf := fun e => by rw [e, upd_same] at hln; cases hln
    have g1 : H ln = none := by rwa [upd_ne nlnl] at hln
    refine ⟨_, rfl, _, _, rfl, rfl, (by show (0 : Int) < 2147483646; decide), _, _, rfl, rfl, ?_⟩
    refine while_by (fun σ H2 => ∃ (num : Int) (line left : List Nat), σ = [some (.ref p), some (.int num), some (.ref lf), some (.ref ln)] ∧ Same H H2 ∧ H2 lf = some (.lst (nv left)) ∧ H2 ln = some (.lst (nv line)) ∧ (line ++ left).Perm r)
      (fun _ H2 => match H2 lf with | some (.lst xs) => xs.length | _ => 0) ?_ ?_ ?_
    · exact ⟨_, [], r, rfl, same_upd (same_upd (Same.refl H) hlf) g1, by rw [upd_ne nlnl.symm, upd_same], upd_same, List.Perm.refl _⟩
    · rintro σ H2 ⟨num, line, left, rfl, s2, hlf2, hln2, hP⟩
      have hlen : line.length + left.length = r.length := by have := hP.length_eq; rwa [List.length_append] at this
      refine ⟨_, rfl, lf, _, rfl, .inl (SqL.of hlf2), _, _, rfl, rfl, _, rfl, ?_⟩
      rw [nv_len]
      refine ite2 (fun hgt => ?_) (fun hle => ?_)
      · have hgt : (0 : Int) < (left.length : Int) := of_decide_eq_true hgt
        have hpos : 0 < left.length := by omega
        refine ⟨_, rfl, _, _, rfl, rfl, .inr ⟨by decide, by decide⟩, _, _, rfl, rfl, (by show (0 : Int) < 2147483647; decide), ?_⟩
        refine ⟨_, rfl, .inl ⟨rfl, _, SqL.of hln2⟩, _, rfl, .inl ⟨rfl, _, SqL.of hlf2⟩, _, rfl, _, _, rfl, rfl, ⟨by decide, by decide⟩, _, rfl, lf, _, rfl, .inl (SqL.of hlf2), _, _, rfl, rfl, ?_, ?_⟩
        · rw [nv_len]; omega
        refine popDraw hlf2 hpos (by omega) fun kx y hy => ?_
        have e3 : (upd H2 lf (.lst (nv (left.eraseIdx kx)))) ln = some (.lst (nv line)) := by rw [upd_ne nlnl]; exact hln2
        refine ⟨ln, _, _, rfl, rfl, e3, ?_, ?_⟩
        · rw [nv_len]; exact small1000 (by omega)
        have hk := (List.getElem?_eq_some_iff.mp hy).1
        have e4 : (upd (upd H2 lf (.lst (nv (left.eraseIdx kx)))) ln (.lst (nv line ++ [V.int (y : Int)]))) lf = some (.lst (nv (left.eraseIdx kx))) := by rw [upd_ne nlnl.symm, upd_same]
        refine ⟨⟨_, line ++ [y], left.eraseIdx kx, rfl, same_upd (same_upd s2 hlf) g1, e4, by rw [upd_same, nv_snoc], pick_perm hP hy⟩, ?_⟩
        rw [e4, hlf2]
        show (nv (left.eraseIdx kx)).length < (nv left).length
        rw [nv_len, nv_len, List.length_eraseIdx, if_pos hk]
        omega
      · have hle : ¬ (0 : Int) < (left.length : Int) := fun z => hle (decide_eq_true z)
        have hl0 : left = [] := List.length_eq_zero_iff.mp (by omega)
        subst hl0
        rw [List.append_nil] at hP
        exact ⟨_, rfl, k H2 ln line s2 g1 hln2 hP⟩
    · rintro σ H Q Q' h ⟨v, e1, p, ys, e3, sq, i, j, e4, e5, k, e6, q⟩
      exact ⟨v, e1, p, ys, e3, sq, i, j, e4, e5, k, e6, h _ _ q⟩
end
end K1
namespace K1
open PySem L2 Sq
def spBackRow : Sp := fun vs H Q _ => ∃ (p : Addr) (n : Nat) (r : List Nat), vs = [.ref p] ∧ H p = some (.tup (nv r)) ∧ Row n r ∧ n ≤ 36 ∧ ∀ (H' : Hp) (l : Addr), Same H H' → H' l = some (.tup (nv (back r))) → Q (.ref l) H'
section
variable {P : Program} {w : World} {K : PySem.W.Frag} {mg : Str → Option Value} {base : Heap}
theorem scBackRow : FnScope ["row", "back", "square", "target"] ["row"] (defScope sBackRow) := ⟨rfl, rfl, rfl, by decide +kernel, rfl, by decide +kernel, by decide +kernel⟩
theorem ok_backRow {f : Addr} {fd : FuncData} (T : Bi mg) (F : Fn K mg "back_row" sBackRow ["row"] f fd) : FnOk P w K mg base CX0 1 f fd ["row"] spBackRow := by
  refine F.F.ok scBackRow (fun vs H Q E h => ?_) (fun cdv A outer s H vs Q E hr h => ?_)
  · obtain ⟨p, n, r, rfl, _⟩ := h; rfl
  · obtain ⟨p, n, r, rfl, hp, rr, hn, k⟩ := h
    refine ⟨_, pss_cons (ps_set (i := 1) scBackRow.nd rfl (Or.inl rfl) (pe_callTy call_list_of rfl T.list boot_list (pa_cons (pv 0) pa_nil)))
      (pss_cons (ps_for PassesOwn.never rfl (pi_enumT rfl T.enum (pa_cons (pv 0) pa_nil)) (pg_tupE rfl (pgs_cons (pg_name (i := 2) scBackRow.nd rfl (Or.inl rfl)) (pgs_cons (pg_name (i := 3) scBackRow.nd rfl (Or.inl rfl)) pgs_nil)))
        (pss_one (ps_lput (pv 1) (pv 3) (pv 2) rfl)))
      (pss_one (ps_ret (pe_callTy call_tuple_of rfl T.tuple boot_tuple (pa_cons (pv 1) pa_nil))))), ?_⟩
    refine ⟨_, rfl, p, _, rfl, .inr (SqT.of hp), fun lb hlb => ?_⟩
    have s1 : Same H (upd H lb (.lst (nv r))) := same_upd (Same.refl H) hlb
    refine ⟨_, rfl, p, rfl, ⟨_, SqT.of (s1 _ _ hp)⟩, for_en (xs := nv r) (fun i σ H2 => ∃ o2 o3 bl, σ = [some (.ref p), some (.ref lb), o2, o3] ∧ Same H H2 ∧ H2 lb = some (.lst (nv bl)) ∧ bl.length = n ∧ ∀ k, k < i → bl[nx r k]? = some k)
      ⟨_, _, r, rfl, s1, upd_same, rr.len, fun k hk => absurd hk (Nat.not_lt_zero _)⟩ (fun i σ H2 _ ⟨_, _, _, _, s2, _⟩ => SqT.of (s2 _ _ hp)) ?_ ?_⟩
    · rintro i x σ H2 T' hx hT ⟨o2, o3, bl, rfl, s2, h2, hbl, hall⟩
      obtain ⟨y, hy, rfl⟩ := nv_get' hx
      have hi : i < n := by rw [← rr.len]; exact (List.getElem?_eq_some_iff.mp hy).1
      have ey : y = nx r i := by have := rr.get hi; rw [hy] at this; exact Option.some.inj this
      have hyn : y < n := by rw [ey]; exact rr.nlt hi
      have h2' : (upd H2 T' (tupE T' [.int (i : Int), .int (y : Int)])) lb = some (.lst (nv bl)) := by rw [upd_ne (ne_of_none h2 hT)]; exact h2
      refine ⟨T', _, rfl, upd_same, rfl, _, _, rfl, _, _, rfl, rfl, ?_⟩
      refine ⟨_, rfl, _, rfl, _, rfl, lb, _, _, y, rfl, rfl, h2', ?_, ?_⟩
      · unfold ixN
        rw [if_pos (by omega), if_pos (by rw [nv_len, hbl]; omega)]
        simp
      refine ⟨_, _, bl.set y i, rfl, same_upd (same_upd s2 (s2.free hT)) hlb, by rw [upd_same, nv_set], by rw [List.length_set]; exact hbl, fun k hk => ?_⟩
      rcases Nat.lt_or_ge k i with c | c
      · have hne : y ≠ nx r k := fun z => by
          rw [ey] at z
          have := rr.inj hi (by omega) z
          omega
        rw [List.getElem?_set_ne hne]
        exact hall k c
      · have : k = i := by omega
        subst this
        rw [← ey, List.getElem?_set_self (by rw [hbl]; exact hyn)]
    · rintro σ H2 ⟨o2, o3, bl, rfl, s2, h2, hbl, hall⟩
      rw [nv_len, rr.len] at hall
      have e := back_fill rr hbl hall
      subst e
      refine ⟨_, rfl, lb, _, rfl, .inl ⟨SqL.of h2, fun l hl => k _ l (same_upd s2 (s2.free hl)) upd_same⟩⟩
end
end K1
namespace K1
open PySem L2 Sq
/-- the dict of the four rows -/
def sts (p0 p1 p2 p3 : Addr) : List (Key × V) := [(Sum.inr "r", .ref p0), (Sum.inr "l", .ref p1), (Sum.inr "u", .ref p2), (Sum.inr "d", .ref p3)]
def spSteps : Sp := fun vs H Q _ => ∃ (a : Addr) (n : Nat) (r u : List Nat), vs = [.ref a] ∧ ShAt H a r u ∧ Row n r ∧ Row n u ∧ n ≤ 36 ∧ ∀ (H' : Hp) (d p0 p1 p2 p3 : Addr), Same H H' → H d = none → H' d = some (.dK (sts p0 p1 p2 p3)) →
  H' p0 = some (.tup (nv (rw4 r u 0))) → H' p1 = some (.tup (nv (rw4 r u 1))) → H' p2 = some (.tup (nv (rw4 r u 2))) → H' p3 = some (.tup (nv (rw4 r u 3))) → Q (.ref d) H'
section
variable {P : Program} {w : World} {K : PySem.W.Frag} {mg : Str → Option Value} {base : Heap}
theorem scSteps : FnScope ["rows"] ["rows"] (defScope sSteps) := ⟨rfl, rfl, rfl, by decide +kernel, rfl, by decide +kernel, by decide +kernel⟩
theorem merge4 (p0 p1 p2 p3 : Addr) : mergeK [] (sts p0 p1 p2 p3) = sts p0 p1 p2 p3 := by
  have n1 : ¬ ((Sum.inr ("r" : Str) : Key) = Sum.inr ("l" : Str)) := by decide +kernel
  have n2 : ¬ ((Sum.inr ("r" : Str) : Key) = Sum.inr ("u" : Str)) := by decide +kernel
  have n3 : ¬ ((Sum.inr ("r" : Str) : Key) = Sum.inr ("d" : Str)) := by decide +kernel
  have n4 : ¬ ((Sum.inr ("l" : Str) : Key) = Sum.inr ("u" : Str)) := by decide +kernel
  have n5 : ¬ ((Sum.inr ("l" : Str) : Key) = Sum.inr ("d" : Str)) := by decide +kernel
  have n6 : ¬ ((Sum.inr ("u" : Str) : Key) = Sum.inr ("d" : Str)) := by decide +kernel
  show putK (putK (putK (putK [] (Sum.inr ("r" : Str) : Key) (V.ref p0)) (Sum.inr ("l" : Str) : Key) (V.ref p1)) (Sum.inr ("u" : Str) : Key) (V.ref p2)) (Sum.inr ("d" : Str) : Key) (V.ref p3) = _
  rw [putK_new (kvs := []) _ rfl]
  rw [putK_new (k := (Sum.inr ("l" : Str) : Key)) _ (by show valV [((Sum.inr ("r" : Str) : Key), V.ref p0)] _ = none; rw [valV_neg n1]; rfl)]
  rw [putK_new (k := (Sum.inr ("u" : Str) : Key)) _ (by show valV [((Sum.inr ("r" : Str) : Key), V.ref p0), (Sum.inr ("l" : Str), V.ref p1)] _ = none; rw [valV_neg n2, valV_neg n4]; rfl)]
  rw [putK_new (k := (Sum.inr ("d" : Str) : Key)) _ (by show valV [((Sum.inr ("r" : Str) : Key), V.ref p0), (Sum.inr ("l" : Str), V.ref p1), (Sum.inr ("u" : Str), V.ref p2)] _ = none; rw [valV_neg n3, valV_neg n5, valV_neg n6]; rfl)]
  rfl
theorem ok_steps {f fb : Addr} {fd fdb : FuncData} (F : Fn K mg "step_rows" sSteps ["rows"] f fd) (FB : Fn K mg "back_row" sBackRow ["row"] fb fdb) (GB : FnOk P w K mg base CX0 1 fb fdb ["row"] spBackRow) :
    FnOk P w K mg base CX0 2 f fd ["rows"] spSteps := by
  refine F.F.ok scSteps (fun vs H Q E h => ?_) (fun cdv A outer s H vs Q E hr h => ?_)
  · obtain ⟨a, n, r, u, rfl, _⟩ := h; rfl
  · obtain ⟨a, n, r, u, rfl, ⟨p, q, h1, h2, h3⟩, rr, ru, hn, k⟩ := h
    refine ⟨_, pss_one (ps_ret (pe_disp (pps_cons pe_str (pe_ix ix_tup (pv 0) pe_int (fun _ _ => rfl)) (pps_cons pe_str (pe_call GB hr rfl FB.m FB.F.kp FB.b .nil pass0 (pa_cons (pe_ix ix_tup (pv 0) pe_int (fun _ _ => rfl)) pa_nil))
      (pps_cons pe_str (pe_ix ix_tup (pv 0) pe_int (fun _ _ => rfl)) (pps_cons pe_str (pe_call GB hr rfl FB.m FB.F.kp FB.b .nil pass0 (pa_cons (pe_ix ix_tup (pv 0) pe_int (fun _ _ => rfl)) pa_nil)) pps_nil)))) rfl rfl (by simp) (by decide))), ?_⟩
    intro d hd
    have s0 : Same H (upd H d (.dK [])) := same_upd (Same.refl H) hd
    refine ⟨_, rfl, a, _, 0, _, rfl, rfl, SqT.of (s0 _ _ h1), atI_nat (j := 0) rfl, ?_⟩
    refine ⟨_, rfl, a, _, 0, _, rfl, rfl, SqT.of (s0 _ _ h1), atI_nat (j := 0) rfl, p, n, r, rfl, s0 _ _ h2, rr, hn, fun H1 l1 s1 hl1 => ?_⟩
    have s01 := s0.trans s1
    refine ⟨_, rfl, a, _, 1, _, rfl, rfl, SqT.of (s01 _ _ h1), atI_nat (j := 1) rfl, ?_⟩
    refine ⟨_, rfl, a, _, 1, _, rfl, rfl, SqT.of (s01 _ _ h1), atI_nat (j := 1) rfl, q, n, u, rfl, s01 _ _ h3, ru, hn, fun H2 l2 s2 hl2 => ?_⟩
    have s02 := s01.trans s2
    have hd2 : H2 d = some (.dK []) := s2 _ _ (s1 _ _ upd_same)
    refine ⟨hd2, sts p l1 q l2, rfl, by show 4 ≤ 15; decide, ?_⟩
    rw [merge4]
    have ne : ∀ b ys, H2 b = some (.tup ys) → (upd H2 d (.dK (sts p l1 q l2))) b = some (.tup ys) := fun b ys e => by
      rw [upd_ne (ne_of e hd2 (by intro z; cases z))]; exact e
    exact k _ d p l1 q l2 (same_upd s02 hd) hd upd_same (ne _ _ (s02 _ _ h2)) (ne _ _ (s2 _ _ hl1)) (ne _ _ (s02 _ _ h3)) (ne _ _ hl2)
end
end K1
namespace K1
open PySem L2 Sq
def lcode (c : Nat) : Nat := match c with
  | 0 => 114
  | 1 => 108
  | 2 => 117
  | _ => 100
def pth (p : List Nat) : Str := ⟨(p.map lcode).toArray⟩
theorem pth_nil : ("" : Str) = pth [] := by decide +kernel
theorem ltr0 : ("r" : Str) = pth [0] := by decide +kernel
theorem ltr1 : ("l" : Str) = pth [1] := by decide +kernel
theorem ltr2 : ("u" : Str) = pth [2] := by decide +kernel
theorem ltr3 : ("d" : Str) = pth [3] := by decide +kernel
theorem pth_snoc (p : List Nat) (c : Nat) : pth p ++ pth [c] = pth (p ++ [c]) := by
  show Str.mk ((p.map lcode).toArray ++ ([c].map lcode).toArray) = Str.mk _
  simp
theorem pth_len (p : List Nat) : (pth p).length = p.length := by
  show (p.map lcode).toArray.size = _
  simp
theorem sts_get {p0 p1 p2 p3 : Addr} {i : Nat} {k : Key} {v : V} (h : (sts p0 p1 p2 p3)[i]? = some (k, v)) : i < 4 ∧ k = Sum.inr (pth [i]) ∧ ∃ p, v = .ref p ∧ [p0, p1, p2, p3][i]? = some p := by
  match i, h with
  | 0, h => cases h; exact ⟨by decide, by rw [← ltr0], _, rfl, rfl⟩
  | 1, h => cases h; exact ⟨by decide, by rw [← ltr1], _, rfl, rfl⟩
  | 2, h => cases h; exact ⟨by decide, by rw [← ltr2], _, rfl, rfl⟩
  | 3, h => cases h; exact ⟨by decide, by rw [← ltr3], _, rfl, rfl⟩
  | i + 4, h => cases h
end K1
namespace K1
open PySem L2 Sq
/-- the dict of the squares found, with their paths -/
def pd (F : List Nat) (P : List (List Nat)) : List (Key × V) := (F.zip P).map fun xp => ((Sum.inl (xp.1 : Int) : Key), V.str (pth xp.2))
theorem pd_len {F : List Nat} {P : List (List Nat)} (h : P.length = F.length) : (pd F P).length = F.length := by simp [pd, h]
theorem pd_snoc {F : List Nat} {P : List (List Nat)} (h : P.length = F.length) (x : Nat) (p : List Nat) : pd (F ++ [x]) (P ++ [p]) = pd F P ++ [(Sum.inl (x : Int), V.str (pth p))] := by
  unfold pd
  rw [List.zip_append h.symm, List.map_append]; rfl
theorem pd_keys : ∀ {F : List Nat} {P : List (List Nat)}, P.length = F.length → (pd F P).map (·.1) = F.map fun (n : Nat) => (Sum.inl (n : Int) : Key)
  | [], _, _ => rfl
  | x :: F, [], h => by simp at h
  | x :: F, p :: P, h => by
    show (Sum.inl (x : Int) : Key) :: (pd F P).map (·.1) = _
    rw [pd_keys (by simpa using h)]; rfl
theorem pd_none {F : List Nat} {P : List (List Nat)} (h : P.length = F.length) {y : Nat} (hy : y ∉ F) : valV (pd F P) (Sum.inl (y : Int) : Key) = none := by
  cases e : valV (pd F P) (Sum.inl (y : Int) : Key) with
  | none => rfl
  | some v =>
    have := valV_in e
    rw [pd_keys h] at this
    obtain ⟨x, hx, ex⟩ := List.mem_map.mp this
    have : x = y := by have := Sum.inl.inj ex; omega
    exact absurd (this ▸ hx) hy
theorem pd_some : ∀ {F : List Nat} {P : List (List Nat)}, F.Nodup → ∀ {i x : Nat} {p : List Nat}, F[i]? = some x → P[i]? = some p → valV (pd F P) (Sum.inl (x : Int) : Key) = some (.str (pth p))
  | [], _, _, i, x, p, hx, _ => by simp at hx
  | y :: F, [], _, i, x, p, _, hp => by simp at hp
  | y :: F, q :: P, nd, 0, x, p, hx, hp => by
    simp at hx hp
    subst hx hp
    exact valV_pos rfl
  | y :: F, q :: P, nd, i + 1, x, p, hx, hp => by
    have nd' := List.nodup_cons.mp nd
    have hx' : F[i]? = some x := by simpa using hx
    have hne : y ≠ x := fun e => nd'.1 (e ▸ List.mem_of_getElem? hx')
    show valV ((((Sum.inl (y : Int) : Key), V.str (pth q))) :: pd F P) _ = _
    rw [valV_neg (fun e => hne (by have := Sum.inl.inj e; omega))]
    exact pd_some nd'.2 hx' (by simpa using hp)
def spPaths : Sp := fun vs H Q _ => ∃ (a : Addr) (n : Nat) (r u : List Nat) (f : Nat), vs = [.ref a, .int (f : Int)] ∧ ShAt H a r u ∧ Row n r ∧ Row n u ∧ n ≤ 36 ∧ f < n ∧
  ∀ (H' : Hp) (d : Addr) (F : List Nat) (P : List (List Nat)), Same H H' → H d = none → H' d = some (.dK (pd F P)) → PthAll n r u f F P → Q (.ref d) H'
/-- the four rows stand -/
def Rows4 (H : Hp) (r u : List Nat) (p0 p1 p2 p3 : Addr) : Prop := ∀ i p, [p0, p1, p2, p3][i]? = some p → H p = some (.tup (nv (rw4 r u i)))
/-- between two letters of a square -/
def PIn (n : Nat) (r u : List Nat) (f : Nat) (a ds dp lf : Addr) (kk x : Nat) (p0 p1 p2 p3 : Addr) (H : Hp) (o : Obj) (i : Nat) (σ : St) (H3 : Hp) : Prop :=
  ∃ (F1 : List Nat) (P1 : List (List Nat)) (o7 o8 : Option V), σ = [some (.ref a), some (.int (f : Int)), some (.ref ds), some (.ref dp), some (.ref lf), some (.int (kk : Int)), some (.int (x : Int)), o7, o8] ∧ Same H H3 ∧ H3 ds = some (.frz o (.dK (sts p0 p1 p2 p3))) ∧ Rows4 H3 r u p0 p1 p2 p3 ∧
    H3 dp = some (.dK (pd F1 P1)) ∧ H3 lf = some (.lst (nv F1)) ∧ Pth n r u f F1 P1 kk i ∧ F1[kk]? = some x
section
variable {P : Program} {w : World} {K : PySem.W.Frag} {mg : Str → Option Value} {base : Heap}
theorem scPaths : FnScope ["rows", "first", "steps", "paths", "found", "done", "here", "letter", "row"] ["rows", "first"] (defScope sPaths) := ⟨rfl, rfl, rfl, by decide +kernel, rfl, by decide +kernel, by decide +kernel⟩
theorem ok_paths {f fs : Addr} {fd fds : FuncData} (T : Bi mg) (F : Fn K mg "paths_from" sPaths ["rows", "first"] f fd) (FS : Fn K mg "step_rows" sSteps ["rows"] fs fds) (GS : FnOk P w K mg base CX0 2 fs fds ["rows"] spSteps) :
    FnOk P w K mg base CX0 3 f fd ["rows", "first"] spPaths := by
  refine F.F.ok scPaths (fun vs H Q E h => ?_) (fun cdv A outer s H vs Q E hr h => ?_)
  · obtain ⟨a, n, r, u, f, rfl, _⟩ := h; rfl
  · obtain ⟨a, n, r, u, f, rfl, hsh, rr, ru, hn, hf, k⟩ := h
    have hu := hu_of hr
    refine ⟨_, pss_cons (ps_set (i := 2) scPaths.nd rfl (Or.inl rfl) (pe_call GS hr rfl FS.m FS.F.kp FS.b .nil pass0 (pa_cons (pv 0) pa_nil)))
      (pss_cons (ps_set (i := 3) scPaths.nd rfl (Or.inl rfl) (pe_disp (pps_cons (pv 1) pe_str pps_nil) rfl rfl (by simp) (by decide)))
      (pss_cons (ps_set (i := 4) scPaths.nd rfl (Or.inl rfl) (pe_lst (pa_cons (pv 1) pa_nil)))
      (pss_cons (ps_set (i := 5) scPaths.nd rfl (Or.inl rfl) pe_int)
      (pss_cons (ps_while PassesOwn.never (pt_cmpR op_lt (pv 5) (pe_callB call_len_seq (by rfl) T.len PySem.boot_len (pa_cons (pv 4) pa_nil)) (nomark _))
        (pss_cons (ps_set (i := 6) scPaths.nd rfl (Or.inl rfl) (pe_ix ix_list (pv 4) (pv 5) (fun _ _ => rfl)))
        (pss_cons (ps_for PassesOwn.never rfl (pi_items (pv 2)) (pg_tup rfl (pgs_cons (pg_name (i := 7) scPaths.nd rfl (Or.inl rfl)) (pgs_cons (pg_name (i := 8) scPaths.nd rfl (Or.inl rfl)) pgs_nil)))
          (pss_one (ps_if (pt_cmp (pc_dnotin hu (pe_ix ix_tup (pv 8) (pv 6) (fun _ _ => rfl)) (pv 3)))
            (pss_cons (ps_dput hu (pv 3) (pe_ix ix_tup (pv 8) (pv 6) (fun _ _ => rfl)) (pe_op op_add_str (pe_dget hu (pv 3) (pv 6) (fun _ _ => rfl)) (pv 7)) rfl)
            (pss_one (ps_expr (pe_bm PySem.F.plainAttrs_list PySem.F.slot_list_append PySem.F.type_list_append mt_append (pv 4) (pa_cons (pe_ix ix_tup (pv 8) (pv 6) (fun _ _ => rfl)) pa_nil))))) pss_nil)))
        (pss_one (ps_aug (i := 5) scPaths.nd rfl (Or.inl rfl) pe_int ip_add)))))
      (pss_one (ps_ret (pv 3))))))), ?_⟩
    refine ⟨_, rfl, a, n, r, u, rfl, hsh, rr, ru, hn, fun H1 ds p0 p1 p2 p3 s1 hds0 hds hp0 hp1 hp2 hp3 => ?_⟩
    have rows1 : Rows4 H1 r u p0 p1 p2 p3 := by
      intro i p hi
      match i, hi with
      | 0, hi => cases hi; exact hp0
      | 1, hi => cases hi; exact hp1
      | 2, hi => cases hi; exact hp2
      | 3, hi => cases hi; exact hp3
      | i + 4, hi => cases hi
    -- paths = {first: ''}
    intro dp hdp
    refine ⟨_, rfl, upd_same, [((Sum.inl (f : Int) : Key), V.str "")], rfl, by show 1 ≤ 15; decide, ?_⟩
    have edp : mergeK [] [((Sum.inl (f : Int) : Key), V.str "")] = pd [f] [[]] := by
      show putK [] (Sum.inl (f : Int) : Key) (V.str "") = _
      rw [putK_new (kvs := []) _ rfl, pth_nil]; rfl
    rw [edp]
    refine ⟨_, rfl, (by show 1 ≤ sizeLine; decide), fun lf hlf => ?_⟩
    have ndp : dp ≠ ds := fun e => by rw [e, hds] at hdp; cases hdp
    have g0 : H1 lf = none := by
      by_cases e : lf = dp
      · rw [e]; exact hdp
      · rw [upd_ne e, upd_ne e] at hlf; exact hlf
    have nlf : lf ≠ dp := fun e => by rw [e, upd_same] at hlf; cases hlf
    have nls : lf ≠ ds := fun e => by rw [e, hds] at g0; cases g0
    have Hdp : H dp = none := s1.free hdp
    have Hlf : H lf = none := s1.free g0
    refine while_by (fun σ H2 => ∃ (F : List Nat) (P : List (List Nat)) (kk : Nat) (o6 o7 o8 : Option V), σ = [some (.ref a), some (.int (f : Int)), some (.ref ds), some (.ref dp), some (.ref lf), some (.int (kk : Int)), o6, o7, o8] ∧ Same H H2 ∧ Rd H2 ds (.dK (sts p0 p1 p2 p3)) ∧ Rows4 H2 r u p0 p1 p2 p3 ∧
      H2 dp = some (.dK (pd F P)) ∧ H2 lf = some (.lst (nv F)) ∧ Pth n r u f F P kk 0) (fun σ _ => mu 5 σ) ?_ ?_ ?_
    · refine ⟨[f], [[]], 0, _, _, _, rfl, same_upd (same_upd (same_upd s1 Hdp) Hdp) Hlf, .inl (by rw [upd_ne nls.symm, upd_ne ndp.symm, upd_ne ndp.symm]; exact hds), fun i p hi => ?_, by rw [upd_ne nlf.symm, upd_same], upd_same, Pth.start hf⟩
      have := rows1 i p hi
      rw [upd_ne (ne_of_none this g0), upd_ne (ne_of_none this hdp), upd_ne (ne_of_none this hdp)]
      exact this
    · rintro σ H2 ⟨F, P', kk, o6, o7, o8, rfl, s2, hst, rows2, h2p, h2l, hP⟩
      refine ⟨_, rfl, _, rfl, lf, _, rfl, .inl (SqL.of h2l), _, _, rfl, rfl, _, rfl, ?_⟩
      rw [nv_len]
      refine ite2 (fun hlt => ?_) (fun hge => ?_)
      · have hlt : (kk : Int) < (F.length : Int) := of_decide_eq_true hlt
        have hk : kk < F.length := by omega
        have hx : F[kk]? = some F[kk] := List.getElem?_eq_getElem hk
        have hxn : F[kk] < n := hP.lt _ (List.getElem_mem hk)
        refine ⟨_, rfl, _, rfl, lf, _, _, _, rfl, rfl, SqL.of h2l, atI_nat (nv_get hx), ?_⟩
        -- for letter, row in steps.items()
        have start : ∀ (o : Obj) (H3 : Hp), Same H H3 → H3 ds = some (.frz o (.dK (sts p0 p1 p2 p3))) → Rows4 H3 r u p0 p1 p2 p3 → H3 dp = some (.dK (pd F P')) → H3 lf = some (.lst (nv F)) → PIn n r u f a ds dp lf kk F[kk] p0 p1 p2 p3 H o 0
            [some (.ref a), some (.int (f : Int)), some (.ref ds), some (.ref dp), some (.ref lf), some (.int (kk : Int)), some (.int (F[kk] : Int)), o7, o8] H3 := fun o H3 e1 e2 e3 e4 e5 => ⟨F, P', _, _, rfl, e1, e2, e3, e4, e5, hP, hx⟩
        have turn : ∀ (o : Obj) (i : Nat) (ky : Key) (v : V) (σ : St) (H3 : Hp) (T' : Addr), (sts p0 p1 p2 p3)[i]? = some (ky, v) → H3 T' = none → PIn n r u f a ds dp lf kk F[kk] p0 p1 p2 p3 H o i σ H3 → ∃ (F1 : List Nat) (P1 : List (List Nat)) (p : Addr), i < 4 ∧ ky = Sum.inr (pth [i]) ∧ v = .ref p ∧
            (∃ o7 o8, σ = [some (.ref a), some (.int (f : Int)), some (.ref ds), some (.ref dp), some (.ref lf), some (.int (kk : Int)), some (.int (F[kk] : Int)), o7, o8]) ∧ Same H (upd H3 T' (.tup [kV ky, v])) ∧ (upd H3 T' (.tup [kV ky, v])) ds = some (.frz o (.dK (sts p0 p1 p2 p3))) ∧
            Rows4 (upd H3 T' (.tup [kV ky, v])) r u p0 p1 p2 p3 ∧ (upd H3 T' (.tup [kV ky, v])) p = some (.tup (nv (rw4 r u i))) ∧ (upd H3 T' (.tup [kV ky, v])) dp = some (.dK (pd F1 P1)) ∧ (upd H3 T' (.tup [kV ky, v])) lf = some (.lst (nv F1)) ∧ Pth n r u f F1 P1 kk i ∧ F1[kk]? = some F[kk] := by
          rintro o i ky v σ H3 T' hi hT ⟨F1, P1, o7, o8, rfl, e1, e2, e3, e4, e5, e6, e7⟩
          obtain ⟨hi4, rfl, p, rfl, hpi⟩ := sts_get hi
          have hp3 := e3 i p hpi
          refine ⟨F1, P1, p, hi4, rfl, rfl, ⟨_, _, rfl⟩, same_upd e1 (e1.free hT), by rw [upd_ne (ne_of_none e2 hT)]; exact e2, fun j q hq => ?_, by rw [upd_ne (ne_of_none hp3 hT)]; exact hp3, by rw [upd_ne (ne_of_none e4 hT)]; exact e4, by rw [upd_ne (ne_of_none e5 hT)]; exact e5, e6, e7⟩
          have := e3 j q hq
          rw [upd_ne (ne_of_none this hT)]; exact this
        refine ⟨_, rfl, ds, sts p0 p1 p2 p3, rfl, hst, fun o H3 h3s h3o => ?_⟩
        have hns : ∀ b w', H2 b = some w' → (∀ o, w' ≠ .frz o (.dK (sts p0 p1 p2 p3))) → w' ≠ .dK (sts p0 p1 p2 p3) → H3 b = some w' := fun b w' e c1 c2 => by
          have hb : b ≠ ds := fun z => by
            subst z
            rcases hst with q | ⟨o', q⟩
            · rw [e] at q; exact c2 (Option.some.inj q)
            · rw [e] at q; exact c1 o' (Option.some.inj q)
          rw [h3o b hb]; exact e
        have e1 : Same H H3 := fun b w' e => by
          rw [h3o b (ne_of_none e hds0)]; exact s2 b w' e
        have e3 : Rows4 H3 r u p0 p1 p2 p3 := fun i p hi => hns _ _ (rows2 i p hi) (fun _ z => nomatch z) (fun z => nomatch z)
        have ndps : dp ≠ ds := ndp
        have e4 : H3 dp = some (.dK (pd F P')) := by rw [h3o dp ndps]; exact h2p
        have e5 : H3 lf = some (.lst (nv F)) := by rw [h3o lf nls]; exact h2l
        refine for_items (a := ds) (kvs := sts p0 p1 p2 p3) (o := o) (PIn n r u f a ds dp lf kk F[kk] p0 p1 p2 p3 H o) (start o H3 e1 h3s e3 e4 e5) (fun i σ H4 _ ⟨_, _, _, _, _, _, e, _⟩ => e) ?_ ?_
        · intro i ky v σ H4 T' hi hT hin
          obtain ⟨F1, P1, p, hi4, rfl, rfl, ⟨q7, q8, rfl⟩, f1, f2, f3, f4, f5, f6, f7, f8⟩ := turn o i ky v σ H4 T' hi hT hin
          generalize hH5 : upd H4 T' (.tup [kV (Sum.inr (pth [i])), .ref p]) = H5 at f1 f2 f3 f4 f5 f6 ⊢
          have f0 : H5 T' = some (.tup [kV (Sum.inr (pth [i])), .ref p]) := by rw [← hH5]; exact upd_same
          have hrow := rw4_row rr ru i
          have hk1 : kk < F1.length := (List.getElem?_eq_some_iff.mp f8).1
          have hFl := f7.flen
          refine ⟨T', _, rfl, SqT.of f0, rfl, _, _, rfl, _, _, rfl, rfl, ?_⟩
          refine ⟨_, rfl, _, rfl, p, _, _, _, rfl, rfl, SqT.of f4, atI_nat (nv_get (hrow.get hxn)), _, rfl, dp, _, rfl, DGet.k (k := (Sum.inl ((nx (rw4 r u i) F[kk] : Nat) : Int) : Key)) f5, _, rfl, ?_⟩
          by_cases hy : nx (rw4 r u i) F[kk] ∈ F1
          · obtain ⟨j, hj, ej⟩ := List.mem_iff_getElem.mp hy
            have hj1 : F1[j]? = some (nx (rw4 r u i) F[kk]) := by rw [List.getElem?_eq_getElem hj, ej]
            have hj2 : j < P1.length := by rw [f7.len]; exact hj
            rw [pd_some f7.nd hj1 (List.getElem?_eq_getElem hj2)]
            refine iteF ?_
            exact ⟨F1, P1, _, _, rfl, f1, f2, f3, f5, f6, f7.old f8 hy, f8⟩
          · rw [pd_none f7.len hy]
            refine iteT ?_
            have hk2 : kk < P1.length := by rw [f7.len]; exact hk1
            obtain ⟨pk, hpk⟩ : ∃ pk, P1[kk]? = some pk := ⟨_, List.getElem?_eq_getElem hk2⟩
            have hlen := (f7.ok kk _ pk f8 hpk).2.1
            have hg := DGet.k (k := (Sum.inl ((F[kk] : Nat) : Int) : Key)) f5
            rw [pd_some f7.nd f8 hpk] at hg
            refine ⟨_, rfl, _, rfl, dp, _, rfl, hg, _, rfl, _, _, rfl, rfl, ?_, ?_⟩
            · rw [pth_len, pth_len]
              exact Nat.le_of_lt (small1000 (by show pk.length + 1 ≤ 1000; omega))
            refine ⟨_, rfl, _, rfl, _, rfl, p, _, _, _, rfl, rfl, SqT.of f4, atI_nat (nv_get (hrow.get hxn)), dp, _, rfl, DPut.k (k := (Sum.inl ((nx (rw4 r u i) F[kk] : Nat) : Int) : Key)) f5 (by rw [pd_len f7.len]; exact small1000 (by omega)), ?_⟩
            rw [putK_new _ (pd_none f7.len hy), pth_snoc, ← pd_snoc f7.len]
            generalize hH6 : upd H5 dp (.dK (pd (F1 ++ [nx (rw4 r u i) F[kk]]) (P1 ++ [pk ++ [i]]))) = H6
            have g1 : Same H H6 := by rw [← hH6]; exact same_upd f1 Hdp
            have g2 : H6 ds = some (.frz o (.dK (sts p0 p1 p2 p3))) := by rw [← hH6, upd_ne ndp.symm]; exact f2
            have g3 : Rows4 H6 r u p0 p1 p2 p3 := fun j q hq => by
              have := f3 j q hq
              rw [← hH6, upd_ne (ne_of this f5 (by intro z; cases z))]; exact this
            have g4 : H6 p = some (.tup (nv (rw4 r u i))) := by rw [← hH6, upd_ne (ne_of f4 f5 (by intro z; cases z))]; exact f4
            have g5 : H6 dp = some (.dK (pd (F1 ++ [nx (rw4 r u i) F[kk]]) (P1 ++ [pk ++ [i]]))) := by rw [← hH6]; exact upd_same
            have g6 : H6 lf = some (.lst (nv F1)) := by rw [← hH6, upd_ne nlf]; exact f6
            refine ⟨_, rfl, .inl ⟨rfl, _, SqL.of g6⟩, _, rfl, _, rfl, p, _, _, _, rfl, rfl, SqT.of g4, atI_nat (nv_get (hrow.get hxn)), lf, _, _, rfl, rfl, g6, ?_, ?_⟩
            · rw [nv_len]; exact small1000 (by omega)
            refine ⟨_, _, _, _, rfl, same_upd g1 Hlf, by rw [upd_ne nls.symm]; exact g2, fun j q hq => ?_, by rw [upd_ne nlf.symm]; exact g5, by rw [upd_same, nv_snoc], f7.new rr ru hi4 f8 hpk hy, ?_⟩
            · have := g3 j q hq
              rw [upd_ne (ne_of this g6 (by intro z; cases z))]; exact this
            · rw [List.getElem?_append_left hk1]; exact f8
        · rintro σ H4 ⟨F1, P1, q7, q8, rfl, f1, f2, f3, f5, f6, f7, f8⟩
          refine ⟨_, rfl, _, _, rfl, rfl, ⟨F1, P1, kk + 1, _, _, _, rfl, f1, .inr ⟨o, f2⟩, f3, f5, f6, f7.next f8⟩, ?_⟩
          show (100 - ((kk : Int) + 1)).toNat < (100 - (kk : Int)).toNat
          have := f7.flen
          have := (List.getElem?_eq_some_iff.mp f8).1
          omega
      · have hge : ¬ (kk : Int) < (F.length : Int) := fun z => hge (decide_eq_true z)
        exact ⟨_, rfl, k H2 dp F P' s2 Hdp h2p (hP.all (by omega))⟩
    · rintro σ H Q Q' h ⟨v, e1, v', e2, p, ys, e3, sq, i, j, e4, e5, k, e6, q⟩
      exact ⟨v, e1, v', e2, p, ys, e3, sq, i, j, e4, e5, k, e6, h _ _ q⟩
end
end K1
namespace Sq
/-- a path leads from f to x -/
def Con (r u : List Nat) (f x : Nat) : Prop := ∃ p : List Nat, (∀ c ∈ p, c < 4) ∧ go r u f p = x
theorem Con.refl (r u : List Nat) (x : Nat) : Con r u x x := ⟨[], by simp, rfl⟩
theorem go_app (r u : List Nat) (x : Nat) (p q : List Nat) : go r u x (p ++ q) = go r u (go r u x p) q := by unfold go; rw [List.foldl_append]
theorem Con.trans {r u : List Nat} {x y z : Nat} (h1 : Con r u x y) (h2 : Con r u y z) : Con r u x z := by
  obtain ⟨p, a1, a2⟩ := h1
  obtain ⟨q, b1, b2⟩ := h2
  exact ⟨p ++ q, fun c hc => (List.mem_append.mp hc).elim (a1 c) (b1 c), by rw [go_app, a2, b2]⟩
theorem Con.step {r u : List Nat} (x c : Nat) (hc : c < 4) : Con r u x (nx (rw4 r u c) x) := ⟨[c], by simpa using hc, rfl⟩
def twn (c : Nat) : Nat := if c % 2 = 0 then c + 1 else c - 1
theorem step_back {n : Nat} {r u : List Nat} (rr : Row n r) (ru : Row n u) {c x : Nat} (hc : c < 4) (hx : x < n) : nx (rw4 r u (twn c)) (nx (rw4 r u c) x) = x := by
  match c, hc with
  | 0, _ => show nx (back r) (nx r x) = x; rw [back_nx rr (rr.nlt hx), rr.idx_nx hx]
  | 1, _ => show nx r (nx (back r) x) = x; rw [back_nx rr hx, rr.nx_idx hx]
  | 2, _ => show nx (back u) (nx u x) = x; rw [back_nx ru (ru.nlt hx), ru.idx_nx hx]
  | 3, _ => show nx u (nx (back u) x) = x; rw [back_nx ru hx, ru.nx_idx hx]
theorem Con.symm {n : Nat} {r u : List Nat} (rr : Row n r) (ru : Row n u) {x y : Nat} (hx : x < n) (h : Con r u x y) : Con r u y x := by
  obtain ⟨p, h4, rfl⟩ := h
  induction p generalizing x with
  | nil => exact Con.refl _ _ _
  | cons c p ih =>
    have hc := h4 c (by simp)
    have h1 := ih ((rw4_row rr ru c).nlt hx) (fun y hy => h4 y (by simp [hy]))
    have h2 : Con r u (nx (rw4 r u c) x) x := by
      have : twn c < 4 := by unfold twn; split <;> omega
      have e := Con.step (r := r) (u := u) (nx (rw4 r u c) x) (twn c) this
      rw [step_back rr ru hc hx] at e
      exact e
    exact h1.trans h2
theorem PthAll.con {n : Nat} {r u : List Nat} {f : Nat} {F : List Nat} {P : List (List Nat)} (h : PthAll n r u f F P) {x : Nat} : x ∈ F ↔ Con r u f x := by
  constructor
  · intro hx
    obtain ⟨i, hi, e⟩ := List.mem_iff_getElem.mp hx
    have hP : i < P.length := by rw [h.len]; exact hi
    obtain ⟨g1, _, g3⟩ := h.ok i x _ (by rw [List.getElem?_eq_getElem hi, e]) (List.getElem?_eq_getElem hP)
    exact ⟨_, g3, g1⟩
  · rintro ⟨p, h4, rfl⟩
    have : ∀ (p : List Nat) (y : Nat), y ∈ F → (∀ c ∈ p, c < 4) → go r u y p ∈ F := by
      intro p
      induction p with
      | nil => intro y hy _; exact hy
      | cons c p ih =>
        intro y hy h4
        exact ih _ (h.shut y hy c (h4 c (by simp))) (fun z hz => h4 z (by simp [hz]))
    exact this p f h.hd h4
open Classical in
/-- the group of f, rising -/
noncomputable def clsG (n : Nat) (r u : List Nat) (f : Nat) : List Nat := (List.range n).filter fun x => decide (Con r u f x)
theorem mem_clsG {n : Nat} {r u : List Nat} {f x : Nat} : x ∈ clsG n r u f ↔ x < n ∧ Con r u f x := by
  unfold clsG; rw [List.mem_filter, List.mem_range]; simp
theorem clsG_nd (n : Nat) (r u : List Nat) (f : Nat) : (clsG n r u f).Nodup := List.nodup_range.filter _
theorem clsG_sorted (n : Nat) (r u : List Nat) (f : Nat) : (clsG n r u f).Pairwise (· ≤ ·) := (range_sorted n).filter _
theorem PthAll.clsG {n : Nat} {r u : List Nat} {f : Nat} {F S : List Nat} {P : List (List Nat)} (h : PthAll n r u f F P) (p : S.Perm F) (so : S.Pairwise (· ≤ ·)) : S = clsG n r u f := by
  refine sorted_unique (p.trans ((List.perm_ext_iff_of_nodup h.nd (clsG_nd _ _ _ _)).mpr fun x => ?_)) so (clsG_sorted _ _ _ _)
  rw [mem_clsG, ← h.con]
  exact ⟨fun hx => ⟨h.lt x hx, hx⟩, fun hx => hx.2⟩
def Least (n : Nat) (r u : List Nat) (f : Nat) : Prop := ∀ x, x < n → Con r u f x → f ≤ x
open Classical in
/-- the groups with their first squares below i -/
noncomputable def grpTo (n : Nat) (r u : List Nat) (i : Nat) : List (List Nat) := ((List.range i).filter fun f => decide (Least n r u f)).map (clsG n r u)
noncomputable def grp (n : Nat) (r u : List Nat) : List (List Nat) := grpTo n r u n
theorem grpTo_yes {n : Nat} {r u : List Nat} {i : Nat} (h : Least n r u i) : grpTo n r u (i + 1) = grpTo n r u i ++ [clsG n r u i] := by
  unfold grpTo; rw [List.range_succ, List.filter_append, List.map_append]; simp [h]
theorem grpTo_no {n : Nat} {r u : List Nat} {i : Nat} (h : ¬ Least n r u i) : grpTo n r u (i + 1) = grpTo n r u i := by
  unfold grpTo; rw [List.range_succ, List.filter_append, List.map_append]; simp [h]
theorem grpTo_len (n : Nat) (r u : List Nat) (i : Nat) : (grpTo n r u i).length ≤ i := by
  unfold grpTo; rw [List.length_map]; exact Nat.le_trans (List.length_filter_le _ _) (by simp)
/-- seen ahead: just where it is not the least of its group -/
theorem seen_least {n : Nat} {r u : List Nat} (rr : Row n r) (ru : Row n u) {i : Nat} (hi : i < n) : (∃ f, f < i ∧ Con r u f i) ↔ ¬ Least n r u i := by
  constructor
  · rintro ⟨f, hf, hc⟩ hL
    have := hL f (by omega) (hc.symm rr ru (by omega))
    omega
  · intro h
    unfold Least at h
    have : ∃ x, x < n ∧ Con r u i x ∧ x < i := by
      apply Classical.byContradiction
      intro hn
      exact h fun x hx hc => Nat.le_of_not_lt fun hlt => hn ⟨x, hx, hc, hlt⟩
    obtain ⟨x, hx, hc, hlt⟩ := this
    exact ⟨x, hlt, hc.symm rr ru hi⟩
end Sq
namespace K1
open PySem L2 Sq
def seenM (M : List Nat) : List (Key × V) := M.map fun (x : Nat) => ((Sum.inl (x : Int) : Key), V.bl true)
theorem seenM_val : ∀ (M : List Nat) (y : Nat), valV (seenM M) (Sum.inl (y : Int) : Key) = if y ∈ M then some (.bl true) else none
  | [], y => rfl
  | x :: M, y => by
    show valV ((((Sum.inl (x : Int) : Key), V.bl true)) :: seenM M) _ = _
    by_cases e : x = y
    · subst e; rw [valV_pos rfl, if_pos (by simp)]
    · rw [valV_neg (fun z => e (by have := Sum.inl.inj z; omega)), seenM_val M y]
      by_cases h : y ∈ M
      · rw [if_pos h, if_pos (by simp [h])]
      · rw [if_neg h, if_neg (by simp [h]; exact fun z => e z.symm)]
/-- the lists at gs are these -/
def ListsAt (H : Hp) (gs : List Addr) (Ss : List (List Nat)) : Prop := gs.length = Ss.length ∧ ∀ (j : Nat) (g : Addr) (S : List Nat), gs[j]? = some g → Ss[j]? = some S → H g = some (.lst (nv S))
def spGroupsG : Sp := fun vs H Q _ => ∃ (a : Addr) (n : Nat) (r u : List Nat), vs = [.ref a] ∧ ShAt H a r u ∧ Row n r ∧ Row n u ∧ n ≤ 36 ∧
  ∀ (H' : Hp) (l : Addr) (gs : List Addr), Same H H' → H l = none → (∀ g ∈ gs, H g = none ∧ g ≠ l) → gs.Nodup → H' l = some (.lst (gs.map V.ref)) → ListsAt H' gs (grp n r u) → Q (.ref l) H'
section
variable {P : Program} {w : World} {K : PySem.W.Frag} {mg : Str → Option Value} {base : Heap}
theorem scGroups : FnScope ["rows", "told", "seen", "first", "group", "square"] ["rows"] (defScope sGroups) := ⟨rfl, rfl, rfl, by decide +kernel, rfl, by decide +kernel, by decide +kernel⟩
set_option maxHeartbeats 1000000 in
theorem ok_groupsG {f fz fp : Addr} {fd fdz fdp : FuncData} (T : Bi mg) (F : Fn K mg "groups_of" sGroups ["rows"] f fd) (FZ : Fn K mg "size" sSize ["sheet"] fz fdz) (GZ : FnOk P w K mg base CX0 1 fz fdz ["sheet"] spSize)
    (FP : Fn K mg "paths_from" sPaths ["rows", "first"] fp fdp) (GP : FnOk P w K mg base CX0 3 fp fdp ["rows", "first"] spPaths) : FnOk P w K mg base CX0 4 f fd ["rows"] spGroupsG := by
  refine F.F.ok scGroups (fun vs H Q E h => ?_) (fun cdv A outer s H vs Q E hr h => ?_)
  · obtain ⟨a, n, r, u, rfl, _⟩ := h; rfl
  · obtain ⟨a, n, r, u, rfl, hsh, rr, ru, hn, k⟩ := h
    have hu := hu_of hr
    have hr1 : Room 1 _ := hr.mono (by decide)
    refine ⟨_, pss_cons (ps_set (i := 1) scGroups.nd rfl (Or.inl rfl) (pe_lst pa_nil))
      (pss_cons (ps_set (i := 2) scGroups.nd rfl (Or.inl rfl) pe_dnewK)
      (pss_cons (ps_for PassesOwn.never rfl (pi_range1 rfl T.range (pa_cons (pe_call GZ hr1 rfl FZ.m FZ.F.kp FZ.b .nil pass0 (pa_cons (pv 0) pa_nil)) pa_nil)) (pg_name (i := 3) scGroups.nd rfl (Or.inl rfl))
        (pss_one (ps_if (pt_cmp (pc_dnotin hu (pv 3) (pv 2)))
          (pss_cons (ps_set (i := 4) scGroups.nd rfl (Or.inl rfl) (pe_callB (call_sorted rfl) rfl T.sorted boot_sorted (pa_cons (pe_call GP hr rfl FP.m FP.F.kp FP.b .nil pass0 (pa_cons (pv 0) (pa_cons (pv 3) pa_nil))) pa_nil)))
          (pss_cons (ps_expr (pe_bm PySem.F.plainAttrs_list PySem.F.slot_list_append PySem.F.type_list_append mt_append (pv 1) (pa_cons (pv 4) pa_nil)))
          (pss_one (ps_for PassesOwn.never rfl (pi_list (pv 4)) (pg_name (i := 5) scGroups.nd rfl (Or.inl rfl)) (pss_one (ps_dput hu (pv 2) (pv 5) pe_bl rfl)))))) pss_nil)))
      (pss_one (ps_ret (pv 1))))), ?_⟩
    refine ⟨Nat.zero_le _, fun lt hlt => ?_⟩
    intro dn hdn
    have s1 : Same H (upd H lt (.lst [])) := same_upd (Same.refl H) hlt
    have Hdn : H dn = none := s1.free hdn
    have s2 : Same H (upd (upd H lt (.lst [])) dn (.dK [])) := same_upd s1 Hdn
    have nlt : lt ≠ dn := fun e => by rw [← e, upd_same] at hdn; cases hdn
    refine ⟨_, rfl, a, r, u, rfl, hsh.same s2, (r.length : Int), rfl, by omega, by have := rr.len; omega, ?_⟩
    rw [Int.toNat_natCast, rr.len]
    refine for_range (n := n) (fun i σ H2 => ∃ (o3 o4 o5 : Option V) (gs : List Addr) (M : List Nat), σ = [some (.ref a), some (.ref lt), some (.ref dn), o3, o4, o5] ∧ Same H H2 ∧ H2 lt = some (.lst (gs.map V.ref)) ∧ H2 dn = some (.dK (seenM M)) ∧
      (∀ g ∈ gs, H g = none ∧ g ≠ lt ∧ g ≠ dn) ∧ gs.Nodup ∧ ListsAt H2 gs (grpTo n r u i) ∧ M.Nodup ∧ ∀ x, x ∈ M ↔ x < n ∧ ∃ f, f < i ∧ Con r u f x) ?_ ?_ ?_
    · exact ⟨_, _, _, [], [], rfl, s2, by rw [upd_ne nlt, upd_same]; rfl, upd_same, by simp, by simp, ⟨rfl, by simp⟩, by simp, fun x => by simp⟩
    · rintro i σ H2 hi ⟨o3, o4, o5, gs, M, rfl, e2, h2t, h2n, hfr, hnd, hls, hMn, hM⟩
      have hMl : M.length ≤ n := by
        have := sub_len M (List.range n) hMn fun x hx => List.mem_range.mpr ((hM x).mp hx).1
        simpa using this
      have hgl : gs.length ≤ 36 := by rw [hls.1]; have := grpTo_len n r u i; omega
      refine ⟨_, rfl, _, rfl, dn, _, rfl, DGet.k (k := (Sum.inl (0 + (i : Int)) : Key)) h2n, _, rfl, ?_⟩
      rw [Int.zero_add, seenM_val]
      by_cases hs : i ∈ M
      · rw [if_pos hs]
        refine iteF ?_
        have hnl : ¬ Least n r u i := (seen_least rr ru hi).mp ((hM i).mp hs).2
        refine ⟨_, _, _, gs, M, rfl, e2, h2t, h2n, hfr, hnd, by rw [grpTo_no hnl]; exact hls, hMn, fun x => ?_⟩
        rw [hM x]
        constructor
        · rintro ⟨hx, f, hf, hc⟩; exact ⟨hx, f, by omega, hc⟩
        · rintro ⟨hx, f, hf, hc⟩
          refine ⟨hx, ?_⟩
          rcases Nat.lt_or_ge f i with c | c
          · exact ⟨f, c, hc⟩
          · have : f = i := by omega
            subst this
            obtain ⟨_, f0, hf0, hc0⟩ := (hM f).mp hs
            exact ⟨f0, hf0, hc0.trans hc⟩
      · rw [if_neg hs]
        refine iteT ?_
        have hL : Least n r u i := Classical.byContradiction fun hnl => hs ((hM i).mpr ⟨hi, (seen_least rr ru hi).mpr hnl⟩)
        refine ⟨_, rfl, _, rfl, a, n, r, u, i, rfl, hsh.same e2, rr, ru, hn, hi, fun H3 dp F' P' e3 _ h3 hP => ?_⟩
        have hFl : F'.length ≤ n := by
          have := sub_len F' (List.range n) hP.nd fun x hx => List.mem_range.mpr (hP.lt x hx)
          simpa using this
        refine ⟨dp, F', rfl, .inr (.inr ⟨_, h3, pd_keys hP.len⟩), by omega, fun g S hg pS sS => ?_⟩
        have eS := hP.clsG pS sS
        subst eS
        have ngt : lt ≠ g := ne_of_none (e3 _ _ h2t) hg
        have h4t : (upd H3 g (.lst (nv (clsG n r u i)))) lt = some (.lst (gs.map V.ref)) := by rw [upd_ne ngt]; exact e3 _ _ h2t
        refine ⟨_, rfl, .inl ⟨rfl, _, SqL.of h4t⟩, _, rfl, lt, _, _, rfl, rfl, h4t, by rw [List.length_map]; exact small1000 (by omega), ?_⟩
        have e23 := e2.trans e3
        have Hg : H g = none := e23.free hg
        have ndg : dn ≠ g := ne_of_none (e3 _ _ h2n) hg
        have hgn : g ∉ gs := fun hgm => by
          obtain ⟨j, hj, ej⟩ := List.mem_iff_getElem.mp hgm
          have hj' : j < (grpTo n r u i).length := by rw [← hls.1]; exact hj
          have := e3 _ _ (hls.2 j g _ (by rw [List.getElem?_eq_getElem hj, ej]) (List.getElem?_eq_getElem hj'))
          rw [hg] at this; cases this
        have f1 : Same H (upd (upd H3 g (.lst (nv (clsG n r u i)))) lt (.lst (gs.map V.ref ++ [.ref g]))) := same_upd (same_upd e23 Hg) hlt
        have f2 : (upd (upd H3 g (.lst (nv (clsG n r u i)))) lt (.lst (gs.map V.ref ++ [.ref g]))) g = some (.lst (nv (clsG n r u i))) := by rw [upd_ne ngt.symm, upd_same]
        have f3 : ListsAt (upd (upd H3 g (.lst (nv (clsG n r u i)))) lt (.lst (gs.map V.ref ++ [.ref g]))) (gs ++ [g]) (grpTo n r u (i + 1)) := by
          rw [grpTo_yes hL]
          refine ⟨by rw [List.length_append, List.length_append, hls.1]; rfl, fun j g' S' hj hS => ?_⟩
          rcases Nat.lt_or_ge j gs.length with c | c
          · rw [List.getElem?_append_left c] at hj
            rw [List.getElem?_append_left (by rw [← hls.1]; exact c)] at hS
            have q := e3 _ _ (hls.2 j g' S' hj hS)
            obtain ⟨_, n1, _⟩ := hfr g' (List.mem_of_getElem? hj)
            rw [upd_ne n1, upd_ne (ne_of_none q hg)]
            exact q
          · have hj2 : j = gs.length := by
              have := (List.getElem?_eq_some_iff.mp hj).1
              rw [List.length_append] at this
              simp at this
              omega
            subst hj2
            rw [List.getElem?_append_right (Nat.le_refl _)] at hj
            rw [List.getElem?_append_right (by rw [hls.1]; exact Nat.le_refl _), hls.1] at hS
            simp at hj hS
            subst hj hS
            exact f2
        have disj : ∀ x ∈ clsG n r u i, x ∉ M := fun x hx hxm => by
          obtain ⟨_, f0, hf0, hc0⟩ := (hM x).mp hxm
          obtain ⟨hxn, hc⟩ := mem_clsG.mp hx
          have h1 := hc0.trans (hc.symm rr ru hi)
          exact hs ((hM i).mpr ⟨hi, f0, hf0, h1⟩)
        refine ⟨_, rfl, g, rfl, ⟨_, SqL.of f2⟩, for_list (K := K) (a := g) (xs := nv (clsG n r u i)) (fun j σ H4 => ∃ o5, σ = [some (.ref a), some (.ref lt), some (.ref dn), some (.int (i : Int)), some (.ref g), o5] ∧ Same H H4 ∧ H4 lt = some (.lst (gs.map V.ref ++ [.ref g])) ∧ H4 g = some (.lst (nv (clsG n r u i))) ∧
            ListsAt H4 (gs ++ [g]) (grpTo n r u (i + 1)) ∧ H4 dn = some (.dK (seenM (M ++ (clsG n r u i).take j))))
          ⟨_, rfl, f1, upd_same, f2, f3, by rw [upd_ne nlt.symm, upd_ne ndg, List.take_zero, List.append_nil]; exact e3 _ _ h2n⟩ (fun j σ H4 _ ⟨_, _, _, _, e, _⟩ => SqL.of e) ?_ ?_⟩
        · rintro j x σ H4 hx ⟨o5, rfl, q1, q2, q3, q5, q4⟩
          obtain ⟨y, hy, rfl⟩ := nv_get' hx
          have hj : j < (clsG n r u i).length := (List.getElem?_eq_some_iff.mp hy).1
          have hyn : y ∉ M ++ (clsG n r u i).take j := fun hm => by
            rcases List.mem_append.mp hm with hm | hm
            · exact disj y (List.mem_of_getElem? hy) hm
            · obtain ⟨j', hj', e'⟩ := List.mem_iff_getElem.mp hm
              rw [List.length_take] at hj'
              rw [List.getElem_take] at e'
              have ey := (List.getElem?_eq_some_iff.mp hy).2
              have := nd_inj (clsG_nd n r u i) (show j' < (clsG n r u i).length by omega) hj (e'.trans ey.symm)
              omega
          have hlen : (seenM (M ++ (clsG n r u i).take j)).length < sizeLine := by
            have h1 : (clsG n r u i).length ≤ n := by unfold clsG; exact Nat.le_trans (List.length_filter_le _ _) (by simp)
            unfold seenM
            rw [List.length_map, List.length_append, List.length_take]
            exact small1000 (by omega)
          refine ⟨_, rfl, _, rfl, dn, _, rfl, DPut.k (k := (Sum.inl (y : Int) : Key)) q4 hlen, ?_⟩
          have keepL : ListsAt (upd H4 dn (.dK (putK (seenM (M ++ (clsG n r u i).take j)) (Sum.inl (y : Int)) (.bl true)))) (gs ++ [g]) (grpTo n r u (i + 1)) := ⟨q5.1, fun j' g' S' a1 a2 => by
            have q := q5.2 j' g' S' a1 a2
            have : g' ≠ dn := by
              rcases List.mem_append.mp (List.mem_of_getElem? a1) with hm | hm
              · exact (hfr g' hm).2.2
              · rw [List.mem_singleton.mp hm]; exact ndg.symm
            rw [upd_ne this]; exact q⟩
          refine ⟨_, rfl, same_upd q1 Hdn, by rw [upd_ne nlt]; exact q2, by rw [upd_ne ndg.symm]; exact q3, keepL, ?_⟩
          have ht : (clsG n r u i).take (j + 1) = (clsG n r u i).take j ++ [y] := by rw [List.take_add_one, hy]; rfl
          rw [upd_same, putK_new _ (by rw [seenM_val, if_neg hyn]), ht, ← List.append_assoc]
          unfold seenM
          rw [List.map_append (l₁ := M ++ (clsG n r u i).take j)]; rfl
        · rintro σ H4 ⟨o5, rfl, q1, q2, q3, q5, q4⟩
          rw [nv_len, List.take_length] at q4
          refine ⟨_, _, _, gs ++ [g], M ++ clsG n r u i, rfl, q1, by rw [q2, List.map_append]; rfl, q4, fun g' hg' => ?_, ?_, q5, ?_, fun x => ?_⟩
          · rcases List.mem_append.mp hg' with hm | hm
            · exact hfr g' hm
            · rw [List.mem_singleton.mp hm]; exact ⟨Hg, ngt.symm, ndg.symm⟩
          · exact List.nodup_append.mpr ⟨hnd, by simp, fun x hx y hy => by rw [List.mem_singleton.mp hy]; exact fun z => hgn (z ▸ hx)⟩
          · exact List.nodup_append.mpr ⟨hMn, clsG_nd _ _ _ _, fun x hx y hy z => disj y hy (z ▸ hx)⟩
          · rw [List.mem_append, hM x, mem_clsG]
            constructor
            · rintro (⟨hx, f0, hf0, hc⟩ | ⟨hx, hc⟩)
              · exact ⟨hx, f0, by omega, hc⟩
              · exact ⟨hx, i, by omega, hc⟩
            · rintro ⟨hx, f0, hf0, hc⟩
              rcases Nat.lt_or_ge f0 i with c | c
              · exact .inl ⟨hx, f0, c, hc⟩
              · have : f0 = i := by omega
                subst this
                exact .inr ⟨hx, hc⟩
    · rintro σ H2 ⟨o3, o4, o5, gs, M, rfl, e2, h2t, h2n, hfr, hnd, hls, hMn, hM⟩
      exact ⟨_, rfl, k H2 lt gs e2 hlt (fun g hg => ⟨(hfr g hg).1, (hfr g hg).2.1⟩) hnd h2t hls⟩
end
end K1
namespace L2
open PySem PySem.Spec PyProof.Rows
section
variable {X : Cx}
end
end L2
namespace L2
open PySem PySem.Spec PyProof.Rows
section
variable {X : Cx} {elts : List Expr} {k : Nat} {tpos : Pos}
end
end L2
namespace L2
open PySem PySem.Spec PyProof.Rows
theorem preSum_take (ns : List Int) : ∀ n, n ≤ ns.length → preSum (fun i => ns.getD i 0) n = (ns.take n).sum := by
  intro n
  induction n with
  | zero => intro _; simp [preSum]
  | succ n ih =>
    intro h
    have hn : n < ns.length := by omega
    rw [List.take_add_one, List.getElem?_eq_getElem hn, List.sum_append]
    show preSum (fun i => ns.getD i 0) n + ns.getD n 0 = _
    rw [ih (by omega)]
    simp [List.getD_eq_getElem?_getD, hn]
section
variable {X : Cx}
theorem boot_sum : bootBuiltins "sum" = some (.builtin "sum") := by decide +kernel
theorem call_sumL (hc : X.calm = true) : CallR X (.builtin "sum") (fun xs H Q => ∃ (p : Addr) (ns : List Int), xs = [.ref p] ∧ SqL X.K H p (ns.map V.int) ∧ Q (.int ns.sum) H) := by
  intro pins s σ H xs us Q I r h
  obtain ⟨p, ns, rfl, hq, q⟩ := h
  obtain ⟨u, rfl, ru⟩ := vals1 r
  obtain rfl : u = Value.ref p := ru
  obtain ⟨its, rv, pl, hz⟩ := I.list hq
  have hL := pl.isList
  have hlt : p < s.heap.objs.size := by obtain ⟨o, ho, _⟩ := id hL; exact Heap.lt_size ho
  have hlen : its.length = ns.length := by rw [← rv.length]; simp
  refine call_sum_walkG (wpAny_pyIter_list hL ⟨s.heap.objs.size, _, _, its.toArray.size, _, _, fun i => ns.getD i 0, rfl, Walks.list (A := X.A.in1) (I.ok.hd hc) s.heap.objs.size p (Nat.ne_of_lt hlt) its.toArray, ⟨⟨_, Heap.get?_push_size _ rfl, rfl, rfl⟩, hL.push _⟩, fun b hb => ?_, fun i v hP => ?_, fun h' tk t' hk => ?_⟩)
  · rw [Heap.size_push]
    simp at hb
    rcases hb with rfl | rfl
    · exact Nat.lt_succ_self _
    · exact Nat.lt_succ_of_lt hlt
  · have hv : its[i]? = some v := by simpa using hP
    have hi : i < ns.length := by rw [← hlen]; exact (List.getElem?_eq_some_iff.mp hv).1
    have hb : (ns.map V.int)[i]? = some (.int ns[i]) := by simp [hi]
    obtain ⟨u, hu, t, rfl⟩ := rv.get hb
    rw [hv] at hu; cases hu
    exact ⟨t, by simp [List.getD_eq_getElem?_getD, hi]⟩
  · refine ⟨.int ns.sum, H, ?_, ⟨t', ?_⟩, q⟩
    · refine I.kept fun b o e => hk b o (fun hb => ?_) (Heap.get?_push_of_some _ e)
      have := Heap.lt_size e
      simp at hb
      rw [hb] at this
      exact Nat.lt_irrefl _ this
    · rw [preSum_take _ _ (by rw [List.size_toArray, hlen]; exact Nat.le_refl _), List.size_toArray, hlen, List.take_length]
end
end L2
namespace L2
open PySem PySem.Spec PyProof.Rows
theorem comp_turnIf {prog : Program} {w : World} {A : Around} {R : Result → Shared → Prop} {s : Shared} {elt target iter cnd : Expr} {scope : Scope} {pos : Pos} {it acc : Value} {env : Env} (I : Nat → Shared → Prop)
    (turn : ∀ n s, I n s → wpAny (model prog w) A (pyNext it) (fun r s₁ => match r with
      | none => R (.ok .next) s₁
      | some v => wpAny (model prog w) A (letOwnedTupleGo target it v) (fun _ s₀ => wpAny (model prog w) A (assign target env v) (fun _ s₂ =>
          wpAny (model prog w) A (isTrue cnd env (eval cnd env)) (fun ok s₃ => if ok = true then
          wpAny (model prog w) A (eval elt env) (fun x s₄ =>
              wpAny (model prog w) A (call (.builtin "list.append") [acc, x]) (fun _ s₅ => ∃ m, m < n ∧ I m s₅) (notedBy (model prog w) A env fun e s' => R (.error e) s') s₄) (notedBy (model prog w) A env fun e s' => R (.error e) s') s₃
            else ∃ m, m < n ∧ I m s₃) (notedBy (model prog w) A env fun e s' => R (.error e) s') s₂)
          (notedBy (model prog w) A env fun e s' => R (.error e) s') s₀) (notedBy (model prog w) A env fun e s' => R (.error e) s') s₁) (notedBy (model prog w) A env fun e s' => R (.error e) s') s)
    (n : Nat) (h : I n s) :
    codeAny (model prog w) A (.compLoop (.ListComp elt [⟨target, iter, [cnd], 0⟩] scope pos) 0 it acc env) R s := by
  refine codeAny_loop rfl I (fun n s hI => ?_) n h
  show wpAny _ A ((compTurn (.ListComp elt [⟨target, iter, [cnd], 0⟩] scope pos) 0 it acc env).onRaise (fun x => do noteFrame x env; theTreesLotGoes x)) _ _ s
  refine wpAny_noted ?_
  rw [compTurn_list]
  refine wpAny_bind (wpAny_standAt (wpAny_bind (wpAny_mono (turn n s hI) (fun r s₁ h₁ => ?_) fun _ _ h' => h')))
  cases r with
  | none => exact wpAny_pure h₁
  | some v =>
    refine wpAny_bind (wpAny_mono h₁ (fun _ s₀ h₀ => ?_) fun _ _ h' => h')
    refine wpAny_bind (wpAny_mono h₀ (fun _ s₂ h₂ => wpAny_bind (wpAny_tests_one (wpAny_mono h₂ (fun ok s₃ h₃ => ?_) fun _ _ h' => h'))) fun _ _ h' => h')
    cases ok with
    | false => exact wpAny_pure ⟨rfl, by simpa using h₃⟩
    | true =>
      have h₃ := (show wpAny _ _ _ _ _ _ from by simpa using h₃)
      exact wpAny_bind (wpAny_bind (wpAny_mono h₃ (fun x s₄ h₄ => wpAny_bind (wpAny_mono h₄ (fun _ s₅ h₅ => wpAny_pure (wpAny_pure ⟨rfl, h₅⟩)) fun _ _ h' => h')) fun _ _ h' => h'))
def tCompIf (wi : TI) (k : Nat) (pull : List Nat) (g : TG) (tt : TT) (te : TE) : TE := fun σ H Q => wi σ H fun J H1 => ∀ d, H1 d = none →
  ∃ W : Nat → Nat → St → Hp → Prop, (∃ m, W 0 m (bst k pull σ) (upd H1 d (.lst []))) ∧ ∀ i m σ' H', W i m σ' H' →
    (J.stop i H' ∧ Q (.ref d) H') ∨
    (J.go i H' ∧ ∀ x H2, J.yld i H' x H2 → g x σ' H2 fun σ3 H3 => tt σ3 H3 fun b H4 => if b = true then te σ3 H4 fun y H5 => ∃ xs, H5 d = some (.lst xs) ∧ xs.length < sizeLine ∧ ∃ m', m' < m ∧ W (i + 1) m' σ3 (upd H5 d (.lst (xs ++ [y])))
      else ∃ m', m' < m ∧ W (i + 1) m' σ3 H4)
section
variable {X : Cx} {elt tg iter cnd : Expr} {sc : Scope} {pos : Pos} {wi : TI} {g : TG} {tt : TT} {te : TE} {N : List Str} {names : List (Str × NameKind)} {N' : List Str} {k : Nat} {pull : List Nat}
end
end L2
namespace L2
open PySem PySem.Spec PyProof.Rows
section
variable {X : Cx} {elt tg iter : Expr} {sc : Scope} {pos py spos : Pos} {wi : TI} {g : TG} {te : TE} {N : List Str} {names : List (Str × NameKind)} {N' : List Str} {k j : Nat} {pull : List Nat} {y : Str}
theorem ps_comp (hc : X.calm = true) (hNd : X.N.Nodup) (hj : X.N[j]? = some y) (hy : X.env.scope.names.lookup y = some .local) (B : BScope N names N' k pull sc) (hN : X.N = N) (hnm : X.env.scope.names = names) (hi : PI X tg iter wi)
    (hg : ∀ cl C s₂ H₁ fp pins, PG (blk X sc cl C N' s₂ H₁ fp pins) tg g) (he : ∀ cl C s₂ H₁ fp pins, PE (blk X sc cl C N' s₂ H₁ fp pins) elt te)
    (hs : ∀ x, foldedSetIterable iter X.env x = pure x := by intro _; rfl) (hsw : swapsWith (.ListComp elt [⟨tg, iter, [], 0⟩] sc pos) (some (.Name y py)) spos.line X.env = pure true := by rfl) : PS X (.Assign [.Name y py] (.ListComp elt [⟨tg, iter, [], 0⟩] sc pos) spos) (tAsg (tComp wi k pull g te) (gName j)) := by
  intro pins s σ H D I h
  rw [exec_Assign_Name_used _ _ _ _ hsw]
  refine wpAny_bind (wpAny_standAt (wpAny_bind ?_))
  show wpAny _ X.A (do let _ ← comprehension (.ListComp elt [⟨tg, iter, [], 0⟩] sc pos) sc X.env _ (newList []) false (eval iter X.env) (some (assign (.Name y py) X.env))) _ _ s
  have hcells : ∀ y ∈ sc.names, y.2 = .free → ∃ c, X.env.cells.lookup y.1 = some c := fun y hy hf => I.ok.has y.1 (.inl (by
    show X.env.scope.names.lookup y.1 = _
    rw [hnm]; exact B.fre y hy hf))
  obtain ⟨cl, ecl, c1, _, c3⟩ := closureFor_is (env := X.env) sc.names [] hcells (fun x c e => nomatch e)
  rw [← closureFor_eq] at ecl
  refine wpAny_bind (wpAny_mono (wpAny_comprehension_free (Q := fun _ s' => SP X pins D .next s') (use := some (assign (.Name y py) X.env)) rfl hs ecl B.kind B.loc (thn (hi pins s σ H _ I h) fun xv s1 h1 => thn h1 fun itv s2 h2 => ?_)) (fun _ s' hq => wpAny_pure (wpAny_pure hq)) fun _ _ e => e)
  obtain ⟨it, fp, tn, J, H1, e, I2, T, st2, f2, hW⟩ := h2
  subst e
  have ho : ∀ b ∈ fp, ∃ o, s2.heap.get? b = some o := fun b hb => let ⟨o, e, _⟩ := T.obj _ _ st2 b hb; ⟨o, e⟩
  refine wpAny_newObj_type (wpAny_newFunctionEnv B.nocell (by intro y hy; simp at hy) (fun h₁ hns₁ hsb₁ => ?_) B.kind)
  dsimp only at hns₁ hsb₁ ⊢
  rw [Heap.size_push] at hns₁ hsb₁ ⊢
  have old : ∀ b o, s2.heap.get? b = some o → h₁.get? b = some o := fun b o e => by
    have hlt := Heap.lt_size e
    exact (hsb₁.2 b (Nat.ne_of_lt (Nat.lt_succ_of_lt hlt))).trans (Heap.get?_push_of_some _ (Heap.get?_push_of_some _ e))
  have hd : h₁.get? s2.heap.objs.size = some { cls := .type "list", data := .seq ([] : List Value).toArray } :=
    (hsb₁.2 _ (Nat.ne_of_lt (Nat.lt_succ_self _))).trans (Heap.get?_push_of_some _ (Heap.get?_push_size _ rfl))
  have I4 := blk_start (tk := s2.toks + ([] : List (Str × Value)).length) B hN hnm I2 f2 ho c1 c3 hns₁ old hd
  have st4 : tn 0 h₁ := T.keep _ _ _ st2 fun b _ o e => old b o e
  obtain ⟨W, ⟨m0, w0⟩, turn⟩ := hW s2.heap.objs.size (I2.hok.fresh (Nat.le_refl _))
  have fr4 : ∀ b ∈ fp, (upd H1 s2.heap.objs.size (.lst [])) b = none := fun b hb => by
    obtain ⟨o, e⟩ := ho b hb
    rw [upd_ne (Nat.ne_of_lt (Heap.lt_size e))]
    exact (f2 b hb).1
  -- what stays true of the iterator's objects
  have stat : ∀ {H' : Hp}, (∀ b ∈ fp, H' b = none) → ∀ b ∈ fp, FpOk (blk X sc cl (s2.heap.objs.size + 1) N' s2 H1 fp pins) [] H' b := fun hn b hb => by
    refine ⟨hn b hb, (I4.ok.exf b hb).1, I4.ok.exfs b hb, .inl hb, (I4.ok.exf b hb).2, fun p hp => ?_⟩
    have hp : p ∈ X.pn ++ pins := by simpa [blk] using hp
    exact (f2 b hb).2.2.2.2.2 p hp
  have loop : ∀ s₃ : Shared, s₃ = { s2 with heap := h₁, toks := s2.toks + ([] : List (Str × Value)).length } →
      codeAny (model X.prog X.w) X.A (.compLoop (.ListComp elt [⟨tg, iter, [], 0⟩] sc pos) 0 (.ref it) (.ref s2.heap.objs.size) (compEnvC sc cl (s2.heap.objs.size + 1) X.env))
        (compPost (model X.prog X.w) X.A X.xe (some (assign (.Name y py) X.env)) (fun _ s' => SP X pins D .next s') (.ref s2.heap.objs.size) (s2.heap.objs.size + 1)) s₃ := by
    rintro s₃ rfl
    refine comp_turn (fun n s' => ∃ i σ' H', Inv (blk X sc cl (s2.heap.objs.size + 1) N' s2 H1 fp pins) [] σ' H' s' ∧ tn i s'.heap ∧ (∀ b ∈ fp, H' b = none) ∧ W i n σ' H') ?_ m0 ⟨0, _, _, I4, st4, fr4, w0⟩
    rintro n s3 ⟨i, σ3, H3, I3, st3, fr3, w3⟩
    rcases turn i n σ3 H3 w3 with ⟨stop, q⟩ | ⟨go, step⟩
    · refine thn (T.done (blk X sc cl (s2.heap.objs.size + 1) N' s2 H1 fp pins) rfl rfl rfl hc i [] s3 σ3 H3 _ I3 (stat fr3) st3 stop) fun r s4 ⟨hr, I5⟩ => ?_
      subst hr
      obtain ⟨m, hn, _⟩ := id I5.loc
      have U : Un (frs X.stack) fp H1 H3 s2.heap s4.heap := I5.base
      have J5 : Inv X pins σ H3 s4 := I2.call' (s' := s4) I5.os U I5.hok I5.bare fun b hb => ⟨(f2 b hb).2.2.2.1, (f2 b hb).2.1, (f2 b hb).2.2.2.2.1, (f2 b hb).2.2.2.2.2⟩
      obtain ⟨g0, g1, _, g3, g4, g5⟩ : FpOk X pins H3 (s2.heap.objs.size + 1) := I2.fpOk (Nat.le_succ _) I5.free
      refine wpAny_assign_Name (store_ok2 J5 hNd hj (.inl hy) (v := .ref s2.heap.objs.size) rfl (fun s5 K5 ⟨a, sb, ha⟩ => ?_) (.inr hy))
      have hne : s2.heap.objs.size + 1 ≠ a := fun z => by
        rcases ha with ha | ha
        · exact g1 (z.trans ha)
        · exact g4 _ _ ha z.symm
      refine ⟨m, hn.sameBut sb hne, fun h' hs' => ⟨_, H3, ?_, q⟩⟩
      exact K5.turned (t' := s5.toks) (fun b o hb e => (hs'.2 b hb).trans e) g0 g1 g3 g4 g5
    · refine thn (T.item (blk X sc cl (s2.heap.objs.size + 1) N' s2 H1 fp pins) rfl rfl rfl hc i [] s3 σ3 H3 _ I3 (stat fr3) st3 go) fun r s4 ⟨u, hr, h4⟩ => ?_
      subst hr
      refine thn h4 fun _ s5 ⟨x, H5, I5, r5, y5, st5, fr5⟩ => ?_
      have I5' := I5.pinned (stat fr5) (T.obj _ _ st5)
      refine wpAny_mono (hg _ _ _ _ _ _ _ s5 σ3 H5 x u _ I5' r5 (step x H5 y5)) (fun _ s6 ⟨σ6, H6, I6, q6⟩ => ?_) fun _ _ z => z.elim
      refine wpAny_mono (he _ _ _ _ _ _ _ s6 σ6 H6 _ I6 q6) (fun y s7 ⟨z, H7, I7, r7, xs, hx7, hz7, m', hm, w7⟩ => ?_) fun _ _ z => z.elim
      refine wpAny_mono (mt_append (X := blk X sc cl (s2.heap.objs.size + 1) N' s2 H1 fp pins) _ s7 σ6 H7 (.ref s2.heap.objs.size) [z] (.ref s2.heap.objs.size) [y] (fun _ H8 => H8 = upd H7 s2.heap.objs.size (.lst (xs ++ [z]))) I7 rfl (.cons r7 .nil) ⟨_, xs, z, rfl, rfl, hx7, hz7, rfl⟩) (fun _ s8 ⟨_, H8, I8, _, e8⟩ => ?_) fun _ _ z => z.elim
      subst e8
      refine ⟨m', hm, i + 1, σ6, _, I8.unpinned, T.keep _ _ _ st5 fun b hb o e => (I8.pin (b, o) (List.mem_append_right _ (List.mem_append_right _ (mem_pinsAt hb e)))).1, fun b hb => ?_, w7⟩
      obtain ⟨o, e, _⟩ := T.obj _ _ st5 b hb
      exact (I8.pin (b, o) (List.mem_append_right _ (List.mem_append_right _ (mem_pinsAt hb e)))).2.1
  exact codeAny_compStart_list (loop _ rfl) (T.self _ 0 _ _ _ st4 (loop _ rfl))
end
end L2
namespace K1
open PySem L2 Sq
/-- [g(k) for k in range(m)], no heap needed -/
theorem compRange {Hc : Hp} {m : Nat} {ta : TA} {te : TE} {pull : List Nat} {Q : VK} {σ : St} {rest : St} (g : Nat → Nat) (hj : ∀ R : List V → Hp → Prop, R [.int (m : Int)] Hc → ta σ Hc R) (hb : bst 1 pull σ = none :: rest)
    (hte : ∀ (i : Nat) (H : Hp) (R : VK), i < m → Same Hc H → R (.int (g i : Int)) H → te (some (.int (i : Int)) :: rest) H R) (hm : m ≤ 1000)
    (k : ∀ (H' : Hp) (d : Addr), Same Hc H' → Hc d = none → H' d = some (.lst (nv ((List.range m).map g))) → Q (.ref d) H') :
    tComp (iRng1 ta) 1 pull (gName 0) te σ Hc Q := by
  refine hj _ ⟨(m : Int), rfl, by omega, by omega, fun d hd => ?_⟩
  rw [Int.toNat_natCast, hb]
  refine comp_by (J := Itr 0 m) (Q := fun d H' => Q (.ref d) H') m (nv ((List.range m).map g)) (by rw [nv_len]; simp) (fun i σ H9 => (∃ o, σ = o :: rest) ∧ Same Hc H9) ⟨⟨_, rfl⟩, same_upd (Same.refl _) hd⟩ ?_ ?_
  · rintro i σ H9 hi ⟨⟨o, rfl⟩, s9⟩ hd9
    refine ⟨hi, fun x H4 ⟨e1, e2⟩ => ?_⟩
    subst e1 e2
    rw [show (0 : Int) + (i : Int) = (i : Int) from by omega]
    refine hte i _ _ hi s9 ?_
    refine cpost hi (by omega) hd9 (nv_get (by simp [hi])) ⟨⟨_, rfl⟩, same_upd s9 hd⟩
  · rintro σ H9 ⟨⟨o, rfl⟩, s9⟩ hd9
    exact ⟨Nat.le_refl _, k H9 d s9 hd hd9⟩
end K1
namespace Sq
section
variable {n : Nat} {r f : List Nat}
end
end Sq
namespace Sq
section
variable {n nb : Nat} {r u rb ub m m' : List Nat}
end
end Sq
namespace Sq
theorem nx_mem {f : List Nat} {x : Nat} (h : x < f.length) : nx f x ∈ f := by
  show f.getD x 0 ∈ f
  rw [List.getD_eq_getElem?_getD, List.getElem?_eq_getElem h]
  exact List.getElem_mem h
theorem mem_nx {f : List Nat} {v : Nat} (h : v ∈ f) : ∃ x, x < f.length ∧ nx f x = v := by
  obtain ⟨i, hi, e⟩ := List.mem_iff_getElem.mp h
  exact ⟨i, hi, by show f.getD i 0 = v; rw [List.getD_eq_getElem?_getD, List.getElem?_eq_getElem hi]; exact e⟩
theorem nodup_of : ∀ (l l' : List Nat), l'.Nodup → (∀ x ∈ l', x ∈ l) → l.length ≤ l'.length → l.Nodup
  | [], _, _, _, _ => List.nodup_nil
  | a :: t, l', nd, h, hl => by
    rw [List.length_cons] at hl
    have hn : a ∉ t := fun ha => by
      have := sub_len l' t nd fun x hx => (List.mem_cons.mp (h x hx)).elim (fun e => e ▸ ha) id
      omega
    refine List.nodup_cons.mpr ⟨hn, nodup_of t (l'.erase a) (nd.erase a) (fun x hx => ?_) ?_⟩
    · have hx' := (List.Nodup.mem_erase_iff nd).mp hx
      exact (List.mem_cons.mp (h x hx'.2)).resolve_left hx'.1
    · have := List.length_erase (a := a) (l := l')
      rw [this]; split <;> omega
end Sq
namespace Sq
theorem nodup_ofL {α : Type} [DecidableEq α] : ∀ (l l' : List α), l'.Nodup → (∀ x ∈ l', x ∈ l) → l.length ≤ l'.length → l.Nodup
  | [], _, _, _, _ => List.nodup_nil
  | a :: t, l', nd, h, hl => by
    rw [List.length_cons] at hl
    have hn : a ∉ t := fun ha => by
      have := sub_len l' t nd fun x hx => (List.mem_cons.mp (h x hx)).elim (fun e => e ▸ ha) id
      omega
    refine List.nodup_cons.mpr ⟨hn, nodup_ofL t (l'.erase a) (nd.erase a) (fun x hx => ?_) ?_⟩
    · have hx' := (List.Nodup.mem_erase_iff nd).mp hx
      exact (List.mem_cons.mp (h x hx'.2)).resolve_left hx'.1
    · have := List.length_erase (a := a) (l := l')
      rw [this]; split <;> omega
def Dj (a b : List Nat) : Prop := ∀ ⦃x : Nat⦄, x ∈ a → x ∈ b → False
theorem nd_flat {ps : List (List Nat)} (h : ps.flatten.Nodup) : (∀ p ∈ ps, p.Nodup) ∧ ps.Pairwise Dj := by
  obtain ⟨h1, h2⟩ := List.pairwise_flatten.mp h
  exact ⟨h1, h2.imp fun {a b} z x hx hy => z x hx x hy rfl⟩
structure Bes (N : Nat) (r u : List Nat) (ps : List (List Nat)) : Prop where
  lr : r.length = N
  lu : u.length = N
  flat : ps.flatten.Perm (List.range N)
  eqs : ∀ p ∈ ps, ∃ rp up, Sheet p.length rp up ∧ ∀ k, k < p.length → nx r (nx p k) = nx p (nx rp k) ∧ nx u (nx p k) = nx p (nx up k)
section
variable {N : Nat} {r u : List Nat} {ps : List (List Nat)}
theorem Bes.inn (h : Bes N r u ps) {p : List Nat} (hp : p ∈ ps) {x : Nat} (hx : x ∈ p) : x < N :=
  List.mem_range.mp (h.flat.mem_iff.mp (List.mem_flatten.mpr ⟨p, hp, hx⟩))
theorem Bes.part (h : Bes N r u ps) {x : Nat} (hx : x < N) : ∃ p ∈ ps, x ∈ p := List.mem_flatten.mp (h.flat.mem_iff.mpr (List.mem_range.mpr hx))
theorem row_of_onto {N : Nat} {r : List Nat} (hl : r.length = N) (ho : ∀ y, y < N → ∃ x, x < N ∧ nx r x = y) : Row N r := by
  have sup : ∀ y ∈ List.range N, y ∈ r := fun y hy => by
    obtain ⟨x, hx, e⟩ := ho y (List.mem_range.mp hy)
    rw [← e]; exact nx_mem (by rw [hl]; exact hx)
  have nd := nodup_of r (List.range N) List.nodup_range sup (by rw [hl, List.length_range]; exact Nat.le_refl _)
  exact ⟨hl, nd, fun x hx => List.mem_range.mp (full List.nodup_range sup (by rw [hl, List.length_range]; exact Nat.le_refl _) x hx)⟩
theorem Bes.rr (h : Bes N r u ps) : Row N r := row_of_onto h.lr fun y hy => by
  obtain ⟨p, hp, hy'⟩ := h.part hy
  obtain ⟨rp, up, hS, he⟩ := h.eqs p hp
  obtain ⟨j, hj, e⟩ := mem_nx hy'
  obtain ⟨k, hk, ek⟩ := hS.row.onto hj
  exact ⟨nx p k, h.inn hp (nx_mem hk), by rw [(he k hk).1, ek, e]⟩
theorem Bes.ru (h : Bes N r u ps) : Row N u := row_of_onto h.lu fun y hy => by
  obtain ⟨p, hp, hy'⟩ := h.part hy
  obtain ⟨rp, up, hS, he⟩ := h.eqs p hp
  obtain ⟨j, hj, e⟩ := mem_nx hy'
  obtain ⟨k, hk, ek⟩ := hS.col.onto hj
  exact ⟨nx p k, h.inn hp (nx_mem hk), by rw [(he k hk).2, ek, e]⟩
/-- a step from a square of a part leads to one of the part -/
theorem Bes.step (h : Bes N r u ps) {p : List Nat} (hp : p ∈ ps) {x : Nat} (hx : x ∈ p) {c : Nat} (hc : c < 4) : nx (rw4 r u c) x ∈ p := by
  obtain ⟨rp, up, hS, he⟩ := h.eqs p hp
  obtain ⟨k, hk, e⟩ := mem_nx hx
  have key : ∀ {r rp : List Nat}, Row N r → Row p.length rp → (∀ k, k < p.length → nx r (nx p k) = nx p (nx rp k)) → nx (back r) x ∈ p := fun {r rp} R S q => by
    obtain ⟨j, hj, ej⟩ := S.onto hk
    have := q j hj
    rw [ej, e] at this
    rw [← this, back_nx R (R.nlt (h.inn hp (nx_mem hj))), R.idx_nx (h.inn hp (nx_mem hj))]
    exact nx_mem hj
  match c, hc with
  | 0, _ => show nx r x ∈ p; rw [← e, (he k hk).1]; exact nx_mem (hS.row.nlt hk)
  | 1, _ => exact key h.rr hS.row fun k hk => (he k hk).1
  | 2, _ => show nx u x ∈ p; rw [← e, (he k hk).2]; exact nx_mem (hS.col.nlt hk)
  | 3, _ => exact key h.ru hS.col fun k hk => (he k hk).2
theorem Bes.con (h : Bes N r u ps) {p : List Nat} (hp : p ∈ ps) {x y : Nat} (hx : x ∈ p) : Con r u x y ↔ y ∈ p := by
  constructor
  · rintro ⟨w, h4, rfl⟩
    induction w generalizing x with
    | nil => exact hx
    | cons c w ih => exact ih (h.step hp hx (h4 c (by simp))) fun z hz => h4 z (by simp [hz])
  · intro hy
    obtain ⟨rp, up, hS, he⟩ := h.eqs p hp
    have all : ∀ k, k < p.length → Con r u (nx p 0) (nx p k) := hS.conn (fun k => Con r u (nx p 0) (nx p k)) (Con.refl _ _ _) fun k hk hc => by
      refine ⟨hc.trans ?_, hc.trans ?_⟩
      · rw [← (he k hk).1]; exact Con.step (nx p k) 0 (by decide)
      · rw [← (he k hk).2]; exact Con.step (nx p k) 2 (by decide)
    obtain ⟨i, hi, ei⟩ := mem_nx hx
    obtain ⟨j, hj, ej⟩ := mem_nx hy
    have h1 := all i hi
    have h2 := all j hj
    rw [ei] at h1
    rw [ej] at h2
    exact (h1.symm h.rr h.ru (h.inn hp (nx_mem hS.pos))).trans h2
theorem Bes.ne (h : Bes N r u ps) {p : List Nat} (hp : p ∈ ps) : p ≠ [] := fun e => by
  obtain ⟨rp, up, hS, _⟩ := h.eqs p hp
  have := hS.pos
  rw [e] at this; exact absurd this (by decide)
theorem Bes.cls (h : Bes N r u ps) {p S : List Nat} (hp : p ∈ ps) (pS : S.Perm p) (so : S.Pairwise (· ≤ ·)) {x : Nat} (hx : x ∈ p) : S = clsG N r u x := by
  have nd : p.Nodup := by
    have := h.flat.nodup_iff.mpr List.nodup_range
    exact (nd_flat this).1 p hp
  refine sorted_unique (pS.trans ((List.perm_ext_iff_of_nodup nd (clsG_nd _ _ _ _)).mpr fun y => ?_)) so (clsG_sorted _ _ _ _)
  rw [mem_clsG, h.con hp hx]
  exact ⟨fun hy => ⟨h.inn hp hy, hy⟩, fun hy => hy.2⟩
theorem grp_mem {n : Nat} {r u M : List Nat} : M ∈ grp n r u ↔ ∃ f, f < n ∧ Least n r u f ∧ M = clsG n r u f := by
  unfold grp grpTo
  rw [List.mem_map]
  constructor
  · rintro ⟨f, hf, e⟩
    obtain ⟨h1, h2⟩ := List.mem_filter.mp hf
    exact ⟨f, List.mem_range.mp h1, by simpa using h2, e.symm⟩
  · rintro ⟨f, h1, h2, e⟩
    exact ⟨f, List.mem_filter.mpr ⟨List.mem_range.mpr h1, by simpa using h2⟩, e.symm⟩
/-- the least square of a group is its first one -/
theorem clsG_hd {n : Nat} {r u : List Nat} {f : Nat} (hf : f < n) (hL : Least n r u f) : ∃ t, clsG n r u f = f :: t := by
  have hm : f ∈ clsG n r u f := mem_clsG.mpr ⟨hf, Con.refl _ _ _⟩
  cases hc : clsG n r u f with
  | nil => rw [hc] at hm; exact absurd hm (by simp)
  | cons a t =>
    have so := clsG_sorted n r u f
    rw [hc] at so hm
    have ha : a ∈ clsG n r u f := by rw [hc]; simp
    have h1 := hL a (mem_clsG.mp ha).1 (mem_clsG.mp ha).2
    have h2 : a ≤ f := by
      rcases List.mem_cons.mp hm with e | e
      · omega
      · exact (List.pairwise_cons.mp so).1 f e
    exact ⟨t, by rw [show a = f by omega]⟩
def hd0 (M : List Nat) : Nat := M.headD 0
theorem grp_heads (n : Nat) (r u : List Nat) : (grp n r u).map hd0 = (List.range n).filter (fun f => @decide (Least n r u f) (Classical.propDecidable _)) := by
  unfold grp grpTo
  rw [List.map_map]
  have : ∀ l : List Nat, (∀ f ∈ l, f < n ∧ Least n r u f) → l.map (hd0 ∘ clsG n r u) = l := fun l => by
    induction l with
    | nil => intro _; rfl
    | cons a l ih =>
      intro h
      obtain ⟨t, e⟩ := clsG_hd (h a (by simp)).1 (h a (by simp)).2
      rw [List.map_cons, ih fun f hf => h f (by simp [hf])]
      show hd0 (clsG n r u a) :: l = _
      rw [e]; rfl
  exact this _ fun f hf => by
    obtain ⟨h1, h2⟩ := List.mem_filter.mp hf
    exact ⟨List.mem_range.mp h1, by simpa using h2⟩
theorem least_ex (h : Bes N r u ps) {p : List Nat} (hp : p ∈ ps) : ∃ f ∈ p, Least N r u f := by
  have key : ∀ (l : List Nat), l ≠ [] → ∃ f ∈ l, ∀ x ∈ l, f ≤ x := fun l => by
    induction l with
    | nil => intro z; exact absurd rfl z
    | cons a l ih =>
      intro _
      cases l with
      | nil => exact ⟨a, by simp, fun x hx => by simp at hx; omega⟩
      | cons b l =>
        obtain ⟨f, hf, hl⟩ := ih (by simp)
        rcases Nat.le_total a f with c | c
        · exact ⟨a, by simp, fun x hx => (List.mem_cons.mp hx).elim (fun e => by omega) fun e => Nat.le_trans c (hl x e)⟩
        · exact ⟨f, List.mem_cons_of_mem _ hf, fun x hx => (List.mem_cons.mp hx).elim (fun e => by omega) fun e => hl x e⟩
  obtain ⟨f, hf, hl⟩ := key p (h.ne hp)
  exact ⟨f, hf, fun x _ hc => hl x ((h.con hp hf).mp hc)⟩
/-- the groups are the parts, each sorted, in the order of their first squares -/
theorem Bes.grp (h : Bes N r u ps) {L : List (List Nat)} (hL : ∀ M, M ∈ L ↔ ∃ p ∈ ps, M.Perm p ∧ M.Pairwise (· ≤ ·)) (len : L.length = ps.length) (so : (L.map hd0).Pairwise (· ≤ ·)) : L = grp N r u := by
  have mem : ∀ M, M ∈ L ↔ M ∈ Sq.grp N r u := fun M => by
    rw [hL, grp_mem]
    constructor
    · rintro ⟨p, hp, q1, q2⟩
      obtain ⟨f, hf, hl⟩ := least_ex h hp
      exact ⟨f, h.inn hp hf, hl, h.cls hp q1 q2 hf⟩
    · rintro ⟨f, hf, hl, rfl⟩
      obtain ⟨p, hp, hfp⟩ := h.part hf
      have nd : p.Nodup := (nd_flat (h.flat.nodup_iff.mpr List.nodup_range)).1 p hp
      refine ⟨p, hp, (List.perm_ext_iff_of_nodup (clsG_nd _ _ _ _) nd).mpr fun y => ?_, clsG_sorted _ _ _ _⟩
      rw [mem_clsG, h.con hp hfp]
      exact ⟨fun z => z.2, fun z => ⟨h.inn hp z, z⟩⟩
  have hg : (Sq.grp N r u).Nodup := by
    have : ((Sq.grp N r u).map hd0).Nodup := by rw [grp_heads]; exact List.nodup_range.filter _
    exact (List.pairwise_map.mp this).imp fun {a b} z e => z (by rw [e])
  -- as many groups as parts
  have psnd : ps.Nodup := by
    have nd := h.flat.nodup_iff.mpr List.nodup_range
    have dj := (nd_flat nd).2
    refine List.Pairwise.imp_of_mem (fun {a b} ha hb z e => ?_) dj
    subst e
    obtain ⟨x, hx⟩ := List.exists_mem_of_ne_nil a (h.ne ha)
    exact z hx hx
  have le : ps.length ≤ (Sq.grp N r u).length := by
    -- each part goes to its group
    have : ∀ p ∈ ps, ∃ M ∈ Sq.grp N r u, M.Perm p := fun p hp => by
      obtain ⟨f, hf, hl⟩ := least_ex h hp
      have nd : p.Nodup := (nd_flat (h.flat.nodup_iff.mpr List.nodup_range)).1 p hp
      refine ⟨clsG N r u f, grp_mem.mpr ⟨f, h.inn hp hf, hl, rfl⟩, (List.perm_ext_iff_of_nodup (clsG_nd _ _ _ _) nd).mpr fun y => ?_⟩
      rw [mem_clsG, h.con hp hf]
      exact ⟨fun z => z.2, fun z => ⟨h.inn hp z, z⟩⟩
    have dj := (nd_flat (h.flat.nodup_iff.mpr List.nodup_range)).2
    have key : ∀ (qs : List (List Nat)) (G : List (List Nat)), qs.Pairwise Dj → (∀ q ∈ qs, q ≠ []) → (∀ q ∈ qs, ∃ M ∈ G, M.Perm q) → qs.length ≤ G.length := fun qs => by
      induction qs with
      | nil => intro G _ _ _; exact Nat.zero_le _
      | cons q qs ih =>
        intro G dj ne ex
        obtain ⟨M, hM, pM⟩ := ex q (by simp)
        obtain ⟨d1, d2⟩ := List.pairwise_cons.mp dj
        have := ih (G.erase M) d2 (fun z hz => ne z (by simp [hz])) fun z hz => by
          obtain ⟨M', hM', pM'⟩ := ex z (by simp [hz])
          refine ⟨M', (List.mem_erase_of_ne fun e => ?_).mpr hM', pM'⟩
          subst e
          obtain ⟨x, hx⟩ := List.exists_mem_of_ne_nil z (ne z (by simp [hz]))
          exact d1 z hz (pM.mem_iff.mp (pM'.mem_iff.mpr hx)) hx
        rw [List.length_erase_of_mem hM] at this
        have := List.length_pos_of_mem hM
        rw [List.length_cons]; omega
    exact key ps _ dj (fun p hp => h.ne hp) this
  have ge : (Sq.grp N r u).length ≤ L.length := sub_len _ _ hg fun M hM => (mem M).mpr hM
  have Lnd : L.Nodup := nodup_ofL L (Sq.grp N r u) hg (fun M hM => (mem M).mpr hM) (by omega)
  have pm : L.Perm (Sq.grp N r u) := (List.perm_ext_iff_of_nodup Lnd hg).mpr mem
  have hs : ((Sq.grp N r u).map hd0).Pairwise (· ≤ ·) := by rw [grp_heads]; exact (range_sorted N).filter _
  have eh : L.map hd0 = (Sq.grp N r u).map hd0 := sorted_unique (pm.map hd0) so hs
  have inj : ∀ M ∈ Sq.grp N r u, ∀ M' ∈ Sq.grp N r u, hd0 M = hd0 M' → M = M' := fun M hM M' hM' e => by
    obtain ⟨f, h1, h2, rfl⟩ := grp_mem.mp hM
    obtain ⟨f', h1', h2', rfl⟩ := grp_mem.mp hM'
    obtain ⟨t, e1⟩ := clsG_hd h1 h2
    obtain ⟨t', e1'⟩ := clsG_hd h1' h2'
    rw [e1, e1'] at e
    have : f = f' := e
    rw [this]
  refine List.ext_getElem (by simpa using congrArg List.length eh) fun i h1 h2 => ?_
  refine inj _ ((mem _).mp (List.getElem_mem h1)) _ (List.getElem_mem h2) ?_
  have := congrArg (fun l => l[i]?) eh
  simpa [List.getElem?_map, List.getElem?_eq_getElem h1, List.getElem?_eq_getElem h2] using this
end
def off (Rs : List (List Nat × List Nat)) (i : Nat) : Nat := ((Rs.take i).map fun R => R.1.length).sum
def prt (t : List Nat) (Rs : List (List Nat × List Nat)) (i : Nat) : List Nat := (t.drop (off Rs i)).take ((Rs[i]?.map fun R => R.1.length).getD 0)
section
variable {t : List Nat} {Rs : List (List Nat × List Nat)} {i : Nat} {R : List Nat × List Nat}
theorem off_succ (h : Rs[i]? = some R) : off Rs (i + 1) = off Rs i + R.1.length := by
  unfold off
  rw [List.take_add_one, h, List.map_append, List.sum_append]
  simp
theorem off_mono {i j : Nat} (h : i ≤ j) : off Rs i ≤ off Rs j := by
  unfold off
  obtain ⟨d, rfl⟩ : ∃ d, j = i + d := ⟨j - i, by omega⟩
  rw [List.take_add, List.map_append, List.sum_append]
  omega
theorem off_all {i : Nat} (h : Rs.length ≤ i) : off Rs i = (Rs.map fun R => R.1.length).sum := by unfold off; rw [List.take_of_length_le h]
theorem prt_eq (h : Rs[i]? = some R) : prt t Rs i = (t.drop (off Rs i)).take R.1.length := by unfold prt; rw [h]; rfl
theorem prt_len (h : Rs[i]? = some R) (ht : t.length = (Rs.map fun R => R.1.length).sum) : (prt t Rs i).length = R.1.length := by
  rw [prt_eq h, List.length_take, List.length_drop, ht]
  have hi : i < Rs.length := (List.getElem?_eq_some_iff.mp h).1
  have := off_mono (Rs := Rs) (show i + 1 ≤ Rs.length from hi)
  rw [off_succ h, off_all (Nat.le_refl _)] at this
  omega
theorem prt_nx (h : Rs[i]? = some R) {k : Nat} (hk : k < R.1.length) : nx (prt t Rs i) k = nx t (off Rs i + k) := by
  rw [prt_eq h]
  show ((t.drop (off Rs i)).take R.1.length).getD k 0 = t.getD (off Rs i + k) 0
  rw [List.getD_eq_getElem?_getD, List.getD_eq_getElem?_getD, List.getElem?_take, if_pos hk, List.getElem?_drop]
theorem prt_flat : ∀ i, i ≤ Rs.length → ((List.range i).map (prt t Rs)).flatten = t.take (off Rs i)
  | 0, _ => by unfold off; simp
  | i + 1, hi => by
    have h : Rs[i]? = some Rs[i] := List.getElem?_eq_getElem (by omega)
    rw [List.range_succ, List.map_append, List.flatten_append, prt_flat i (by omega), off_succ h, List.take_add]
    simp [prt_eq h]
theorem bes_of {N : Nat} {r u : List Nat} (rt : Row N t) (hN : (Rs.map fun R => R.1.length).sum = N) (hS : ∀ R ∈ Rs, Sheet R.1.length R.1 R.2) (lr : r.length = N) (lu : u.length = N)
    (eqs : ∀ j R, Rs[j]? = some R → ∀ k, k < R.1.length → nx r (nx t (off Rs j + k)) = nx t (off Rs j + nx R.1 k) ∧ nx u (nx t (off Rs j + k)) = nx t (off Rs j + nx R.2 k)) :
    Bes N r u ((List.range Rs.length).map (prt t Rs)) where
  lr := lr
  lu := lu
  flat := by
    rw [prt_flat _ (Nat.le_refl _), off_all (Nat.le_refl _), hN, List.take_of_length_le (by rw [rt.len]; exact Nat.le_refl _)]
    exact rt.perm
  eqs p hp := by
    obtain ⟨j, hj, rfl⟩ := List.mem_map.mp hp
    have h : Rs[j]? = some (Rs[j]'(List.mem_range.mp hj)) := List.getElem?_eq_getElem _
    have hSj := hS _ (List.mem_of_getElem? h)
    have hl := prt_len (t := t) h (by rw [rt.len, hN])
    refine ⟨_, _, by rw [hl]; exact hSj, fun k hk => ?_⟩
    rw [hl] at hk
    obtain ⟨e1, e2⟩ := eqs j _ h k hk
    rw [prt_nx h hk, prt_nx h (hSj.row.nlt hk), prt_nx h (hSj.col.nlt hk)]
    exact ⟨e1, e2⟩
end
end Sq
namespace L2
open PySem PySem.Spec PyProof.Rows
section
variable {X : Cx}
end
section
variable {prog : Program} {w : World} {A : Around} {E : Value → Shared → Prop}
end
section
variable {X : Cx}
end
end L2
namespace L2
open PySem PySem.Spec PyProof.Rows
section
variable {X : Cx}
end
end L2
namespace L2
open PySem PySem.Spec PyProof.Rows
section
variable {X : Cx}
end
end L2
namespace L2
open PySem PySem.Spec PyProof.Rows PySem.W
def kev {α : Type} (lt : Nat → Nat → Bool) : KasT α → α
  | .ret a => a
  | .ask i j k => kev lt (k (lt i j))
theorem kev_ret {α : Type} (lt : Nat → Nat → Bool) (a : α) : kev lt (.ret a) = a := rfl
theorem kev_ask {α : Type} (lt : Nat → Nat → Bool) (i j : Nat) (k : Bool → KasT α) : kev lt (.ask i j k) = kev lt (k (lt i j)) := rfl
theorem kev_bind {α β : Type} (lt : Nat → Nat → Bool) : ∀ (t : KasT α) (f : α → KasT β), kev lt (t.bind f) = kev lt (f (kev lt t))
  | .ret a, f => by rw [KasT.bind]; rfl
  | .ask i j k, f => by
    rw [KasT.bind, kev_ask, kev_ask]
    exact kev_bind lt (k (lt i j)) f
variable (key : Nat → Nat)
abbrev kl : Nat → Nat → Bool := fun i j => decide (key i < key j)
theorem kl_t {i j : Nat} (h : key i < key j) : kl key i j = true := decide_eq_true h
theorem kl_f {i j : Nat} (h : ¬ key i < key j) : kl key i j = false := decide_eq_false h
/-- the key at a place -/
def ka (p : Array Nat) (t : Nat) : Nat := key (p.getD t 0)
theorem ka_get {p q : Array Nat} {t s : Nat} (h : p[t]? = q[s]?) : ka key p t = ka key q s := by
  unfold ka
  rw [Array.getD_eq_getD_getElem?, Array.getD_eq_getD_getElem?, h]
/-- the first m are sorted -/
def Srt (p : Array Nat) (m : Nat) : Prop := ∀ t, t + 1 < m → ka key p t ≤ ka key p (t + 1)
def Dsc (p : Array Nat) (m : Nat) : Prop := ∀ t, t + 1 < m → ka key p (t + 1) ≤ ka key p t
theorem Srt.le {p : Array Nat} {m : Nat} (h : Srt key p m) {s : Nat} : ∀ {t : Nat}, s ≤ t → t < m → ka key p s ≤ ka key p t
  | 0, h1, _ => by have : s = 0 := by omega
                   subst this; exact Nat.le_refl _
  | t + 1, h1, h2 => by
    rcases Nat.lt_or_ge s (t + 1) with c | c
    · exact Nat.le_trans (Srt.le h (by omega) (by omega)) (h t h2)
    · have : s = t + 1 := by omega
      subst this; exact Nat.le_refl _
theorem Dsc.le {p : Array Nat} {m : Nat} (h : Dsc key p m) {s : Nat} : ∀ {t : Nat}, s ≤ t → t < m → ka key p t ≤ ka key p s
  | 0, h1, _ => by have : s = 0 := by omega
                   subst this; exact Nat.le_refl _
  | t + 1, h1, h2 => by
    rcases Nat.lt_or_ge s (t + 1) with c | c
    · exact Nat.le_trans (h t h2) (Dsc.le h (by omega) (by omega))
    · have : s = t + 1 := by omega
      subst this; exact Nat.le_refl _
/-- rising on from i -/
theorem asc_spec (p : Array Nat) : ∀ (f i : Nat), 1 ≤ i → Srt key p i → i ≤ kev (kl key) (kas_asc p f i) ∧ kev (kl key) (kas_asc p f i) ≤ i + f ∧ Srt key p (kev (kl key) (kas_asc p f i)) ∧ (kev (kl key) (kas_asc p f i) < i + f → ka key p (kev (kl key) (kas_asc p f i)) < ka key p (kev (kl key) (kas_asc p f i) - 1))
  | 0, i, h1, hs => by
    rw [kas_asc]
    exact ⟨Nat.le_refl _, Nat.le_refl _, hs, fun z => absurd z (by rw [kev_ret]; omega)⟩
  | f + 1, i, h1, hs => by
    rw [kas_asc, kev_ask]
    by_cases c : key (p.getD i 0) < key (p.getD (i - 1) 0)
    · rw [kl_t key c, if_pos rfl, kev_ret]
      exact ⟨Nat.le_refl _, by omega, hs, fun _ => c⟩
    · rw [kl_f key c, if_neg (by decide)]
      have hs' : Srt key p (i + 1) := fun t ht => by
        rcases Nat.lt_or_ge (t + 1) i with d | d
        · exact hs t d
        · have : t + 1 = i := by omega
          have e : t = i - 1 := by omega
          subst e
          show key (p.getD (i - 1) 0) ≤ key (p.getD (i - 1 + 1) 0)
          rw [show i - 1 + 1 = i from by omega]; omega
      obtain ⟨a, b, c', d⟩ := asc_spec p f (i + 1) (by omega) hs'
      exact ⟨by omega, by omega, c', fun z => d (by omega)⟩
theorem rev_get {p : Array Nat} {i j : Nat} (hj : j ≤ p.size) (t : Nat) : ka key (kas_rev p i j) t = if i ≤ t ∧ t < j then ka key p (i + j - 1 - t) else ka key p t := by
  have := getElem?_mirror_all (xs := p) (i := i) hj t
  by_cases c : i ≤ t ∧ t < j
  · rw [if_pos c]
    rw [if_pos c] at this
    exact ka_get key this
  · rw [if_neg c]
    rw [if_neg c] at this
    exact ka_get key this
theorem rev_size (p : Array Nat) (i j : Nat) : (kas_rev p i j).size = p.size := mirror_size p i j _
theorem rev_perm (p : Array Nat) (i j : Nat) : (kas_rev p i j).Perm p := mirror_perm p i j _
/-- the keys stay where a block of like keys is turned round -/
theorem rev_like {p : Array Nat} {i j : Nat} (hj : j ≤ p.size) (h : ∀ t, i ≤ t → t < j → ka key p t = ka key p i) (t : Nat) : ka key (kas_rev p i j) t = ka key p t := by
  rw [rev_get key hj]
  split
  · next c => rw [h t c.1 c.2, h (i + j - 1 - t) (by omega) (by omega)]
  · rfl
theorem desc_spec : ∀ (f : Nat) (p : Array Nat) (i k : Nat), 1 ≤ i → i + f ≤ p.size → k + 1 ≤ i → Dsc key p i → (∀ t, i - (k + 1) ≤ t → t < i → ka key p t = ka key p (i - 1)) →
    ∃ q m k', kev (kl key) (kas_desc f p i k) = (q, m, k') ∧ q.Perm p ∧ q.size = p.size ∧ i ≤ m ∧ m ≤ i + f ∧ Dsc key q m ∧ k' + 1 ≤ m ∧ (∀ t, m - (k' + 1) ≤ t → t < m → ka key q t = ka key q (m - 1))
  | 0, p, i, k, h1, hsz, hk, hd, he => by
    rw [kas_desc]
    exact ⟨p, i, k, rfl, Array.Perm.refl _, rfl, Nat.le_refl _, by omega, hd, hk, he⟩
  | f + 1, p, i, k, h1, hsz, hk, hd, he => by
    rw [kas_desc, kev_ask]
    by_cases c : key (p.getD i 0) < key (p.getD (i - 1) 0)
    · rw [kl_t key c, if_pos rfl]
      have step : ∀ p' : Array Nat, p'.size = p.size → (∀ t, ka key p' t = ka key p t) → Dsc key p' (i + 1) := fun p' _ hp' t ht => by
        rw [hp', hp']
        rcases Nat.lt_or_ge (t + 1) i with d | d
        · exact hd t d
        · have e : t = i - 1 := by omega
          subst e
          rw [show i - 1 + 1 = i from by omega]
          exact Nat.le_of_lt c
      by_cases k0 : k > 0
      · rw [if_pos k0]
        have hl : ∀ t, ka key (kas_rev p (i - (k + 1)) i) t = ka key p t := rev_like key (by omega) fun t t1 t2 => by rw [he t t1 t2, he (i - (k + 1)) (Nat.le_refl _) (by omega)]
        obtain ⟨q, m, k', e, pq, sq, a, b, d, g, h⟩ := desc_spec f (kas_rev p (i - (k + 1)) i) (i + 1) 0 (by omega) (by rw [rev_size]; omega) (by omega) (step _ (rev_size _ _ _) hl) (fun t t1 t2 => by
          have : t = i := by omega
          subst this; rfl)
        exact ⟨q, m, k', e, pq.trans (rev_perm _ _ _), by rw [sq, rev_size], by omega, by omega, d, g, h⟩
      · rw [if_neg k0]
        obtain ⟨q, m, k', e, pq, sq, a, b, d, g, h⟩ := desc_spec f p (i + 1) 0 (by omega) (by omega) (by omega) (step p rfl fun _ => rfl) (fun t t1 t2 => by
          have : t = i := by omega
          subst this; rfl)
        exact ⟨q, m, k', e, pq, sq, by omega, by omega, d, g, h⟩
    · rw [kl_f key c, if_neg (by decide), kev_ask]
      by_cases c2 : key (p.getD (i - 1) 0) < key (p.getD i 0)
      · rw [kl_t key c2, if_pos rfl, kev_ret]
        exact ⟨p, i, k, rfl, Array.Perm.refl _, rfl, Nat.le_refl _, by omega, hd, hk, he⟩
      · rw [kl_f key c2, if_neg (by decide)]
        have eq : ka key p i = ka key p (i - 1) := by show key (p.getD i 0) = key (p.getD (i - 1) 0); omega
        obtain ⟨q, m, k', e, pq, sq, a, b, d, g, h⟩ := desc_spec f p (i + 1) (k + 1) (by omega) (by omega) (by omega) (fun t ht => by
          rcases Nat.lt_or_ge (t + 1) i with d | d
          · exact hd t d
          · have e : t = i - 1 := by omega
            subst e
            rw [show i - 1 + 1 = i from by omega]
            exact Nat.le_of_eq eq) (fun t t1 t2 => by
          show ka key p t = ka key p i
          rcases Nat.lt_or_ge t i with d | d
          · rw [eq]; exact he t (by omega) d
          · have : t = i := by omega
            subst this; rfl)
        exact ⟨q, m, k', e, pq, sq, by omega, by omega, d, g, h⟩
theorem tail_spec {m nrem : Nat} {p : Array Nat} (h1 : 1 ≤ m) (hm : m ≤ nrem) (hn : nrem = p.size) (hd : Dsc key p m) :
    ∃ m' q, kev (kl key) (kas_tail3 m nrem p) = (m', q) ∧ q.Perm p ∧ q.size = p.size ∧ 1 ≤ m' ∧ m' ≤ nrem ∧ Srt key q m' := by
  unfold kas_tail3
  rw [kev_bind, kev_ret]
  have hs : Srt key (kas_rev p 0 m) m := fun t ht => by
    rw [rev_get key (by omega), rev_get key (by omega), if_pos (by omega), if_pos (by omega)]
    exact Dsc.le key hd (by omega) (by omega)
  obtain ⟨a, b, c, _⟩ := asc_spec key (kas_rev p 0 m) (nrem - m) m h1 hs
  exact ⟨_, _, rfl, rev_perm _ _ _, rev_size _ _ _, by omega, by omega, c⟩
theorem descPart_spec {n nrem : Nat} {p : Array Nat} (h1 : 1 ≤ n) (hn : n < nrem) (hz : nrem = p.size) (hd : Dsc key p (n + 1)) :
    ∃ m' q, kev (kl key) (kas_descPart n nrem p) = (m', q) ∧ q.Perm p ∧ q.size = p.size ∧ 1 ≤ m' ∧ m' ≤ nrem ∧ Srt key q m' := by
  unfold kas_descPart
  rw [kev_bind]
  obtain ⟨q, m, k', e, pq, sq, a, b, d, g, h⟩ := desc_spec key (nrem - (n + 1)) p (n + 1) 0 (by omega) (by omega) (by omega) hd (fun t t1 t2 => by
    have : t = n := by omega
    subst this; rfl)
  rw [e]
  show ∃ m' q', kev (kl key) (if k' > 0 then kas_tail3 m nrem (kas_rev q (m - (k' + 1)) m) else kas_tail3 m nrem q) = (m', q') ∧ _
  by_cases k0 : k' > 0
  · rw [if_pos k0]
    have hl : ∀ t, ka key (kas_rev q (m - (k' + 1)) m) t = ka key q t := rev_like key (by omega) fun t t1 t2 => by rw [h t t1 t2, h (m - (k' + 1)) (Nat.le_refl _) (by omega)]
    obtain ⟨m', q', e', p', s', a', b', c'⟩ := tail_spec key (m := m) (nrem := nrem) (p := kas_rev q (m - (k' + 1)) m) (by omega) (by omega) (by rw [rev_size]; omega) (fun t ht => by rw [hl, hl]; exact d t ht)
    exact ⟨m', q', e', p'.trans ((rev_perm _ _ _).trans pq), by rw [s', rev_size, sq], a', b', c'⟩
  · rw [if_neg k0]
    obtain ⟨m', q', e', p', s', a', b', c'⟩ := tail_spec key (m := m) (nrem := nrem) (p := q) (by omega) (by omega) (by omega) d
    exact ⟨m', q', e', p'.trans pq, by rw [s', sq], a', b', c'⟩
theorem count_spec {n : Nat} {p : Array Nat} (h1 : 1 ≤ n) (hz : n = p.size) :
    ∃ m q, kev (kl key) (kas_count n p) = (m, q) ∧ q.Perm p ∧ q.size = p.size ∧ 1 ≤ m ∧ m ≤ n ∧ Srt key q m := by
  unfold kas_count
  rw [kev_bind]
  obtain ⟨a, b, c, d⟩ := asc_spec key p (n - 1) 1 (Nat.le_refl _) (fun t ht => absurd ht (by omega))
  generalize kev (kl key) (kas_asc p (n - 1) 1) = m at a b c d
  show ∃ m' q, kev (kl key) (if (m == n) = true then KasT.ret (m, p) else if m > 1 then KasT.ask (p.getD 0 0) (p.getD (m - 1) 0) fun c => if c = true then KasT.ret (m, p) else kas_descPart m n (kas_rev p 0 m) else kas_descPart m n p) = (m', q) ∧ _
  by_cases e : m = n
  · rw [if_pos (by simpa using e), kev_ret]
    exact ⟨m, p, rfl, Array.Perm.refl _, rfl, by omega, by omega, c⟩
  · rw [if_neg (by simpa using e)]
    have dd := d (by omega)
    by_cases m1 : m > 1
    · rw [if_pos m1, kev_ask]
      by_cases q : key (p.getD 0 0) < key (p.getD (m - 1) 0)
      · rw [kl_t key q, if_pos rfl, kev_ret]
        exact ⟨m, p, rfl, Array.Perm.refl _, rfl, by omega, by omega, c⟩
      · rw [kl_f key q, if_neg (by decide)]
        have eq : ∀ t, t < m → ka key p t = ka key p 0 := fun t ht => by
          have h2 := Srt.le key c (Nat.zero_le t) ht
          have h3 := Srt.le key c (show t ≤ m - 1 by omega) (by omega)
          have h4 : ¬ ka key p 0 < ka key p (m - 1) := q
          omega
        have hl : ∀ t, ka key (kas_rev p 0 m) t = ka key p t := rev_like key (by omega) fun t _ t2 => eq t t2
        obtain ⟨m', q', e', p', s', a', b', c'⟩ := descPart_spec key (n := m) (nrem := n) (p := kas_rev p 0 m) (by omega) (by omega) (by rw [rev_size]; omega) (fun t ht => by
          rw [hl, hl]
          rcases Nat.lt_or_ge (t + 1) m with z | z
          · rw [eq t (by omega), eq (t + 1) z]; exact Nat.le_refl _
          · have e5 : t = m - 1 := by omega
            subst e5
            rw [show m - 1 + 1 = m from by omega]; exact Nat.le_of_lt dd)
        exact ⟨m', q', e', p'.trans (rev_perm _ _ _), by rw [s', rev_size], a', b', c'⟩
    · rw [if_neg m1]
      have em : m = 1 := by omega
      subst em
      exact descPart_spec key (n := 1) (nrem := n) (p := p) (by omega) (by omega) hz (fun t ht => by
        have : t = 0 := by omega
        subst this
        exact Nat.le_of_lt dd)
/-- where the next one belongs -/
theorem place_spec (p : Array Nat) (k : Nat) (hs : Srt key p k) : ∀ (f l r : Nat), r - l ≤ f → l ≤ r → r ≤ k → (∀ t, t < l → ka key p t ≤ ka key p k) → (∀ t, r ≤ t → t < k → ka key p k ≤ ka key p t) →
    kev (kl key) (kas_place p k f l r) ≤ k ∧ (∀ t, t < kev (kl key) (kas_place p k f l r) → ka key p t ≤ ka key p k) ∧ ∀ t, kev (kl key) (kas_place p k f l r) ≤ t → t < k → ka key p k ≤ ka key p t
  | 0, l, r, hf, hlr, hr, h1, h2 => by
    have : l = r := by omega
    subst this
    rw [kas_place]
    exact ⟨hr, h1, h2⟩
  | f + 1, l, r, hf, hlr, hr, h1, h2 => by
    rw [kas_place]
    by_cases c : l ≥ r
    · have : l = r := by omega
      subst this
      rw [if_pos c]
      exact ⟨hr, h1, h2⟩
    · rw [if_neg c, kev_ask]
      by_cases q : key (p.getD k 0) < key (p.getD ((l + r) / 2) 0)
      · rw [kl_t key q, if_pos rfl]
        exact place_spec p k hs f l ((l + r) / 2) (by omega) (by omega) (by omega) h1 fun t t1 t2 => Nat.le_trans (Nat.le_of_lt q) (Srt.le key hs t1 t2)
      · rw [kl_f key q, if_neg (by decide)]
        exact place_spec p k hs f ((l + r) / 2 + 1) r (by omega) (by omega) hr (fun t ht => Nat.le_trans (Srt.le key hs (show t ≤ (l + r) / 2 by omega) (by omega)) (Nat.le_of_not_lt q)) h2
theorem bubble_get {p : Array Nat} {k l : Nat} (hk : k < p.size) (hl : l ≤ k) (t : Nat) : ka key (bubble p k (k - l)) t = if t = l then ka key p k else if l < t ∧ t ≤ k then ka key p (t - 1) else ka key p t := by
  have := getElem?_bubble (xs := p) hk (k - l) (by omega) t
  rw [show k - (k - l) = l from by omega] at this
  by_cases c : t = l
  · rw [if_pos c] at this ⊢; exact ka_get key this
  · rw [if_neg c] at this ⊢
    by_cases d : l < t ∧ t ≤ k
    · rw [if_pos d] at this ⊢; exact ka_get key this
    · rw [if_neg d] at this ⊢; exact ka_get key this
theorem bin_spec : ∀ (f : Nat) (p : Array Nat) (i : Nat), i + f = p.size → Srt key p i →
    (kev (kl key) (kas_bin f p i)).Perm p ∧ Srt key (kev (kl key) (kas_bin f p i)) p.size
  | 0, p, i, hz, hs => by
    rw [kas_bin]
    have : i = p.size := by omega
    subst this
    exact ⟨Array.Perm.refl _, hs⟩
  | f + 1, p, i, hz, hs => by
    rw [kas_bin, kev_bind]
    obtain ⟨a, b, c⟩ := place_spec key p i hs i 0 i (by omega) (by omega) (Nat.le_refl _) (fun t ht => absurd ht (by omega)) (fun t t1 t2 => absurd t2 (by omega))
    generalize kev (kl key) (kas_place p i i 0 i) = l at a b c
    have hs' : Srt key (bubble p i (i - l)) (i + 1) := fun t ht => by
      rw [bubble_get key (by omega) a, bubble_get key (by omega) a]
      by_cases e1 : t = l
      · rw [if_pos e1, if_neg (by omega), if_pos (by omega)]
        have := c t (by omega) (by omega)
        simpa using this
      · rw [if_neg e1]
        by_cases e2 : l < t ∧ t ≤ i
        · rw [if_pos e2, if_neg (by omega), if_pos (by omega)]
          have := hs (t - 1) (by omega)
          rw [show t - 1 + 1 = t from by omega] at this
          simpa using this
        · rw [if_neg e2]
          by_cases e3 : t + 1 = l
          · rw [if_pos e3]; exact b t (by omega)
          · rw [if_neg e3, if_neg (by omega)]; exact hs t (by omega)
    obtain ⟨x, y⟩ := bin_spec f (bubble p i (i - l)) (i + 1) (by rw [bubble_size]; omega) hs'
    rw [bubble_size] at y
    exact ⟨x.trans (bubble_perm _ _ _), y⟩
/-- the sort answers with the places in the order of the keys -/
theorem sort_spec {n : Nat} (h1 : 1 ≤ n) : (kev (kl key) (kas_sort n)).toList.Perm (List.range n) ∧ (kev (kl key) (kas_sort n)).toList.Pairwise (fun i j => key i ≤ key j) := by
  have hz : n = (List.range n).toArray.size := by simp
  obtain ⟨m, q, e, pq, sq, a, b, c⟩ := count_spec key h1 hz
  have key' : ∀ q' : Array Nat, q'.Perm (List.range n).toArray → Srt key q' n → q'.toList.Perm (List.range n) ∧ q'.toList.Pairwise (fun i j => key i ≤ key j) := fun q' pq' sq' => by
    have pl : q'.toList.Perm (List.range n) := by simpa using pq'.toList
    refine ⟨pl, List.pairwise_iff_getElem.mpr fun i j hi hj hij => ?_⟩
    have hl : q'.toList.length = n := by rw [pl.length_eq, List.length_range]
    have := Srt.le key sq' (Nat.le_of_lt hij) (by omega)
    unfold ka at this
    rw [Array.getD_eq_getD_getElem?, Array.getD_eq_getD_getElem?] at this
    have g : ∀ t (ht : t < q'.toList.length), q'[t]?.getD 0 = q'.toList[t] := fun t ht => by
      have ht' : t < q'.size := by simpa using ht
      rw [Array.getElem?_eq_getElem ht']; simp
    rw [g i hi, g j hj] at this
    exact this
  unfold kas_sort
  rw [kev_bind, e]
  show (kev (kl key) (if m < n then kas_bin (n - max m 1) q (max m 1) else KasT.ret q)).toList.Perm _ ∧ _
  by_cases hm : m < n
  · rw [if_pos hm]
    have em : max m 1 = m := by omega
    rw [em]
    obtain ⟨x, y⟩ := bin_spec key (n - m) q m (by omega) c
    rw [show q.size = n from by omega] at y
    exact key' _ (x.trans pq) y
  · rw [if_neg hm]
    have em : m = n := by omega
    subst em
    exact key' _ pq c
end L2
namespace L2
open PySem PySem.Spec PyProof.Rows PySem.W
/-- what is asked on the way are places -/
def Pth {α : Type} (lt : Nat → Nat → Bool) (n : Nat) : KasT α → Prop
  | .ret _ => True
  | .ask i j k => i < n ∧ j < n ∧ Pth lt n (k (lt i j))
theorem pth_bind {α β : Type} {lt : Nat → Nat → Bool} {n : Nat} : ∀ (t : KasT α) (f : α → KasT β), Pth lt n t → Pth lt n (f (kev lt t)) → Pth lt n (t.bind f)
  | .ret a, f, _, h => by rw [KasT.bind]; exact h
  | .ask i j k, f, h1, h => by
    rw [KasT.bind]
    exact ⟨h1.1, h1.2.1, pth_bind (k (lt i j)) f h1.2.2 h⟩
def AllLt (n : Nat) (p : Array Nat) : Prop := ∀ i, p.getD i 0 < n
theorem AllLt.perm {n : Nat} {p q : Array Nat} (h : AllLt n p) (pq : q.Perm p) : AllLt n q := fun i => by
  have h0 : 0 < n := Nat.lt_of_le_of_lt (Nat.zero_le _) (h 0)
  by_cases hi : i < q.size
  · have hm : q[i] ∈ p := pq.mem_iff.mp (Array.getElem_mem hi)
    obtain ⟨j, hj, e⟩ := Array.mem_iff_getElem.mp hm
    have := h j
    rw [Array.getD_eq_getD_getElem?, Array.getElem?_eq_getElem hj] at this
    rw [Array.getD_eq_getD_getElem?, Array.getElem?_eq_getElem hi, ← e]
    exact this
  · rw [Array.getD_eq_getD_getElem?, Array.getElem?_eq_none (by omega)]; exact h0
variable {lt : Nat → Nat → Bool} {n : Nat}
theorem pth_asc {p : Array Nat} (h : AllLt n p) : ∀ (f i : Nat), Pth lt n (kas_asc p f i)
  | 0, i => by rw [kas_asc]; trivial
  | f + 1, i => by
    rw [kas_asc]
    refine ⟨h _, h _, ?_⟩
    dsimp only
    split
    · trivial
    · exact pth_asc h f (i + 1)
theorem pth_place {p : Array Nat} (h : AllLt n p) : ∀ (f k l r : Nat), Pth lt n (kas_place p k f l r)
  | 0, k, l, r => by rw [kas_place]; trivial
  | f + 1, k, l, r => by
    rw [kas_place]
    split
    · trivial
    · refine ⟨h _, h _, ?_⟩
      dsimp only
      split
      · exact pth_place h f k l _
      · exact pth_place h f k _ r
theorem pth_bin : ∀ (f : Nat) (p : Array Nat) (i : Nat), AllLt n p → Pth lt n (kas_bin f p i)
  | 0, p, i, _ => by rw [kas_bin]; trivial
  | f + 1, p, i, h => by
    rw [kas_bin]
    exact pth_bind _ _ (pth_place h _ _ _ _) (pth_bin f _ _ (h.perm (bubble_perm _ _ _)))
theorem pth_desc : ∀ (f : Nat) (p : Array Nat) (i k : Nat), AllLt n p → Pth lt n (kas_desc f p i k) ∧ AllLt n (kev lt (kas_desc f p i k)).1
  | 0, p, i, k, h => by rw [kas_desc]; exact ⟨trivial, h⟩
  | f + 1, p, i, k, h => by
    have key : Pth lt n (if lt (p.getD i 0) (p.getD (i - 1) 0) = true then if k > 0 then kas_desc f (kas_rev p (i - (k + 1)) i) (i + 1) 0 else kas_desc f p (i + 1) 0 else KasT.ask (p.getD (i - 1) 0) (p.getD i 0) fun d => if d = true then KasT.ret (p, i, k) else kas_desc f p (i + 1) (k + 1)) ∧
        AllLt n (kev lt (if lt (p.getD i 0) (p.getD (i - 1) 0) = true then if k > 0 then kas_desc f (kas_rev p (i - (k + 1)) i) (i + 1) 0 else kas_desc f p (i + 1) 0 else KasT.ask (p.getD (i - 1) 0) (p.getD i 0) fun d => if d = true then KasT.ret (p, i, k) else kas_desc f p (i + 1) (k + 1))).1 := by
      by_cases c : lt (p.getD i 0) (p.getD (i - 1) 0) = true
      · rw [if_pos c]
        by_cases d : k > 0
        · rw [if_pos d]; exact pth_desc f (kas_rev p (i - (k + 1)) i) (i + 1) 0 (h.perm (rev_perm _ _ _))
        · rw [if_neg d]; exact pth_desc f p (i + 1) 0 h
      · rw [if_neg c, kev_ask]
        have key2 : Pth lt n (if lt (p.getD (i - 1) 0) (p.getD i 0) = true then KasT.ret (p, i, k) else kas_desc f p (i + 1) (k + 1)) ∧ AllLt n (kev lt (if lt (p.getD (i - 1) 0) (p.getD i 0) = true then KasT.ret (p, i, k) else kas_desc f p (i + 1) (k + 1))).1 := by
          by_cases d : lt (p.getD (i - 1) 0) (p.getD i 0) = true
          · rw [if_pos d]; exact ⟨trivial, h⟩
          · rw [if_neg d]; exact pth_desc f p (i + 1) (k + 1) h
        exact ⟨⟨h _, h _, key2.1⟩, key2.2⟩
    rw [kas_desc]
    exact ⟨⟨h _, h _, key.1⟩, key.2⟩
theorem pth_tail {p : Array Nat} (h : AllLt n p) (m k : Nat) : Pth lt n (kas_tail3 m k p) ∧ AllLt n (kev lt (kas_tail3 m k p)).2 := by
  unfold kas_tail3
  rw [kev_bind]
  have h' := h.perm (rev_perm p 0 m)
  exact ⟨pth_bind _ _ (pth_asc h' _ _) trivial, h'⟩
theorem pth_descPart {p : Array Nat} (h : AllLt n p) (m k : Nat) : Pth lt n (kas_descPart m k p) ∧ AllLt n (kev lt (kas_descPart m k p)).2 := by
  unfold kas_descPart
  rw [kev_bind]
  obtain ⟨a, b⟩ := pth_desc (lt := lt) (k - (m + 1)) p (m + 1) 0 h
  generalize he : kev lt (kas_desc (k - (m + 1)) p (m + 1) 0) = r at b
  have key : Pth lt n (if r.2.2 > 0 then kas_tail3 r.2.1 k (kas_rev r.1 (r.2.1 - (r.2.2 + 1)) r.2.1) else kas_tail3 r.2.1 k r.1) ∧ AllLt n (kev lt (if r.2.2 > 0 then kas_tail3 r.2.1 k (kas_rev r.1 (r.2.1 - (r.2.2 + 1)) r.2.1) else kas_tail3 r.2.1 k r.1)).2 := by
    by_cases c : r.2.2 > 0
    · rw [if_pos c]; exact pth_tail (b.perm (rev_perm _ _ _)) _ _
    · rw [if_neg c]; exact pth_tail b _ _
  exact ⟨pth_bind _ _ a (by rw [he]; exact key.1), key.2⟩
theorem pth_count {p : Array Nat} (h : AllLt n p) (m : Nat) : Pth lt n (kas_count m p) ∧ AllLt n (kev lt (kas_count m p)).2 := by
  unfold kas_count
  rw [kev_bind]
  have key : ∀ q : Nat, Pth lt n (if (q == m) = true then KasT.ret (q, p) else if q > 1 then KasT.ask (p.getD 0 0) (p.getD (q - 1) 0) fun c => if c = true then KasT.ret (q, p) else kas_descPart q m (kas_rev p 0 q) else kas_descPart q m p) ∧
      AllLt n (kev lt (if (q == m) = true then KasT.ret (q, p) else if q > 1 then KasT.ask (p.getD 0 0) (p.getD (q - 1) 0) fun c => if c = true then KasT.ret (q, p) else kas_descPart q m (kas_rev p 0 q) else kas_descPart q m p)).2 := by
    intro q
    by_cases c1 : (q == m) = true
    · rw [if_pos c1]; exact ⟨trivial, h⟩
    · rw [if_neg c1]
      by_cases c2 : q > 1
      · rw [if_pos c2, kev_ask]
        show (_ ∧ _ ∧ Pth lt n (if lt (p.getD 0 0) (p.getD (q - 1) 0) = true then _ else _)) ∧ _
        by_cases c3 : lt (p.getD 0 0) (p.getD (q - 1) 0) = true
        · rw [if_pos c3]; exact ⟨⟨h _, h _, trivial⟩, h⟩
        · rw [if_neg c3]
          obtain ⟨a, b⟩ := pth_descPart (lt := lt) (h.perm (rev_perm p 0 q)) q m
          exact ⟨⟨h _, h _, a⟩, b⟩
      · rw [if_neg c2]; exact pth_descPart h q m
  exact ⟨pth_bind _ _ (pth_asc h _ _) (key _).1, (key _).2⟩
theorem pth_sort {n : Nat} (h0 : 0 < n) : Pth lt n (kas_sort n) := by
  have h : AllLt n (List.range n).toArray := fun i => by
    rw [Array.getD_eq_getD_getElem?]
    by_cases hi : i < n
    · simp [hi]
    · simp [hi]; omega
  obtain ⟨a, b⟩ := pth_count (lt := lt) h n
  unfold kas_sort
  refine pth_bind _ _ a ?_
  split
  · exact pth_bin _ _ _ b
  · trivial
/-- a walk of the tree with answers known; asking keeps I -/
theorem kas_walk {α : Type} {cmp : Nat → Nat → (Bool → Shared → Prop) → Shared → Prop} {I : Shared → Prop} (hc : ∀ i j (C : Bool → Shared → Prop) s, i < n → j < n → I s → (∀ s', I s' → C (lt i j) s') → cmp i j C s) :
    ∀ (t : KasT α) (G : α → Shared → Prop) (s : Shared), Pth lt n t → I s → (∀ s', I s' → G (kev lt t) s') → KasT.kasWp cmp t G s
  | .ret a, G, s, _, hi, hG => by rw [KasT.kasWp]; exact hG s hi
  | .ask i j k, G, s, hp, hi, hG => by
    rw [KasT.kasWp]
    exact hc i j _ s hp.1 hp.2.1 hi fun s' hi' => kas_walk hc (k (lt i j)) G s' hp.2.2 hi' hG
/-- the heap in which the items are compared -/
def sortHeap (h : Heap) (a : Addr) (vs : List Value) : Heap := ((h.update a (Obj.mapSeq fun x => #[])).push (seqObj "tuple" vs.toArray 0)).push (seqObj "list" #[] 0)
theorem list_sort_by {prog : Program} {w : World} {A : Around} {E : Value → Shared → Prop} {s : Shared} {a : Addr} {vs : List Value} {n : Nat} {P : PySem.Fin → Shared → Prop} (key : Nat → Nat) (κ : SortKind)
    (hs : s.heap.get? a = some (seqObj "list" vs.toArray n)) (h2 : 2 ≤ vs.length) (h64 : vs.length < 64)
    (hk : ∀ (E' : Value → Shared → Prop) (Q : SortKind → Shared → Prop) (tk : Nat), (∀ tk', Q κ { s with heap := sortHeap s.heap a vs, toks := tk' }) → wpAny (model prog w) A (keyKind' vs.toArray) Q E' { s with heap := sortHeap s.heap a vs, toks := tk })
    (hc : ∀ i j (C : Bool → Shared → Prop) (tk : Nat), i < vs.length → j < vs.length → (∀ tk', C (kl key i j) { s with heap := sortHeap s.heap a vs, toks := tk' }) → kas_ask prog w A κ vs i j C { s with heap := sortHeap s.heap a vs, toks := tk })
    (h : ∀ (p : List Nat) (tk : Nat), p.Perm (List.range vs.length) → p.Pairwise (fun i j => key i ≤ key j) → P (Fin.done (Flow.ret Value.none)) { s with heap := sortedHeap s.heap a vs (p.map fun i => vs.getD i Value.none).toArray, toks := tk }) :
    wpAny (model prog w) A (Builtin.«list.sort» { pos := [Value.ref a] }) P E s := by
  rw [list_sort_plain]
  refine wpAny_bind (listItems_at hs rfl ?_)
  refine wpAny_bind (listUpdate_at hs rfl ?_ (by rw [List.size_toArray]; exact Nat.le_of_lt (small1000 (by omega))) (by simp))
  have e1 : ∃ e, (s.heap.update a (Obj.mapSeq fun x => #[])).get? a = some (seqObj "list" #[] e) := by
    have := get?_update_seq hs (fun _ => #[])
    exact ⟨_, this⟩
  obtain ⟨e1, he1⟩ := e1
  refine wpAny_bind (seqEpoch_at he1 rfl ?_)
  refine wpAny_bind (wpAny_newTuple ?_ (by show vs.toArray.toList.length ≤ sizeLine; rw [List.toList_toArray]; exact Nat.le_of_lt (small1000 (by omega))))
  refine wpAny_bind (wpAny_newList ?_ (by simp))
  refine wpAny_holding ?_
  have hsz : ¬ vs.toArray.size < 2 := by rw [List.size_toArray]; omega
  dsimp only
  rw [if_neg hsz]
  refine wpAny_bind (hk E _ s.toks fun tk0 => ?_)
  rw [if_neg hsz]
  have h0 : 0 < vs.length := by omega
  have hw := kas_walk (lt := kl key) (n := vs.length) (cmp := kas_ask prog w A κ vs) (I := fun s' => ∃ tk, s' = { s with heap := sortHeap s.heap a vs, toks := tk }) (fun i j C s' hi hj ⟨tk, e⟩ hC => by
    subst e
    exact hc i j C tk hi hj fun tk' => hC _ ⟨tk', rfl⟩) (kas_sort vs.length) (fun p s' => p = kev (kl key) (kas_sort vs.length) ∧ ∃ tk, s' = { s with heap := sortHeap s.heap a vs, toks := tk }) { s with heap := sortHeap s.heap a vs, toks := tk0 } (pth_sort h0) ⟨tk0, rfl⟩ (fun s' h' => ⟨rfl, h'⟩)
  obtain ⟨sp1, sp2⟩ := sort_spec key (n := vs.length) (by omega)
  refine wpAny_bind (thn (kat_run (ks := vs) (vs := vs) rfl h2 h64 (Q := fun st s' => Array.map (fun x => x.snd) (arrOf st) = ((kev (kl key) (kas_sort vs.length)).toList.map fun i => vs.getD i Value.none).toArray ∧ failedOf st = none ∧ ∃ tk, s' = { s with heap := sortHeap s.heap a vs, toks := tk })
    (fun p st' s' hp harr hf ⟨ep, ht⟩ => ⟨by rw [kat_snds rfl harr, ep], hf, ht⟩) hw) fun r s' ⟨ha, hf, tk, es⟩ => ?_)
  subst es
  have hae : (sortHeap s.heap a vs).get? a = some (seqObj "list" #[] e1) := by
    unfold sortHeap
    exact Heap.get?_push_of_some _ (Heap.get?_push_of_some _ he1)
  refine wpAny_bind (seqEpoch_at hae rfl ?_)
  refine wpAny_bind (listUpdate_at hae rfl ?_ (by simp) (by
    rw [ha]
    simp only [List.size_toArray, List.length_map]
    rw [show (kev (kl key) (kas_sort vs.length)).toList.length = vs.length from by rw [sp1.length_eq, List.length_range]]
    have := small1000 (n := vs.length) (by omega)
    omega))
  rw [hf]
  dsimp only
  rw [if_neg (by simp)]
  rw [ha]
  exact wpAny_pure (h _ tk sp1 sp2)
end L2
namespace L2
open PySem PySem.Spec PyProof.Rows PySem.W
theorem ints_get {vs : List Value} {ns : List Int} (h : IntsAre vs ns) (i : Nat) : (vs[i]? = none ∧ ns[i]? = none) ∨ ∃ a t, vs[i]? = some (.int a t) ∧ ns[i]? = some a := by
  induction h generalizing i with
  | nil => exact .inl ⟨by simp, by simp⟩
  | cons a t _ ih =>
    cases i with
    | zero => exact .inr ⟨a, t, by simp, by simp⟩
    | succ i => simpa using ih i
theorem drop_of {α : Type} {l : List α} {i : Nat} {a : α} (h : l[i]? = some a) : l.drop i = a :: l.drop (i + 1) := by
  obtain ⟨hi, e⟩ := List.getElem?_eq_some_iff.mp h
  rw [List.drop_eq_getElem_cons hi, e]
theorem lt_loop (l b : Addr) (items items2 : Array Value) (n n2 : Nat) (ns ms : List Int) (hi : IntsAre items.toList ns) (hj : IntsAre items2.toList ms) : ∀ (k i : Nat), i + k = items.size →
    Meets (Builtin.«list.__eq__.loop» ⟨[.ref l, .ref b, rawInt (i : Nat), rawInt 0], []⟩) (fun A R s => s.heap.get? l = some { cls := .type "list", data := .seq items n } ∧ s.heap.get? b = some { cls := .type "list", data := .seq items2 n2 } ∧
      R (.ok (.ret (.bool (HT.lexLt (ns.drop i) (ms.drop i))))) s) := by
  intro k
  induction k with
  | zero =>
    intro i hk prog w A R s ⟨hl, hb, hR⟩
    unfold Builtin.«list.__eq__.loop»
    dsimp only [rawInt]
    refine wpAny_bind (listItems_at hl rfl (wpAny_bind (listItems_at hb rfl ?_)))
    rw [Int.toNat_natCast]
    have e1 : items[i]? = none := Array.getElem?_eq_none (by omega)
    rw [e1]
    refine wpAny_bind (listItems_at hl rfl (wpAny_bind (listItems_at hb rfl ?_)))
    show wpAny _ _ (ret (Value.bool (decide (items.size < items2.size)))) _ _ _
    have en : ns.drop i = [] := List.drop_eq_nil_of_le (by rw [← hi.length]; simp; omega)
    rw [en] at hR
    have ez : HT.lexLt [] (ms.drop i) = decide (items.size < items2.size) := by
      have el : ms.length = items2.size := by rw [← hj.length]; simp
      cases hd : ms.drop i with
      | nil =>
        have := List.drop_eq_nil_iff.mp hd
        rw [HT.lexLt_nil_nil, decide_eq_false (by omega)]
      | cons y ys =>
        have : ¬ ms.length ≤ i := fun z => by rw [List.drop_eq_nil_of_le z] at hd; cases hd
        rw [HT.lexLt_nil_cons, decide_eq_true (by omega)]
    rw [ez] at hR
    exact wpAny_pure hR
  | succ k ih =>
    intro i hk prog w A R s ⟨hl, hb, hR⟩
    unfold Builtin.«list.__eq__.loop»
    dsimp only [rawInt]
    refine wpAny_bind (listItems_at hl rfl (wpAny_bind (listItems_at hb rfl ?_)))
    rw [Int.toNat_natCast]
    have g1 := ints_get hi i
    have g2 := ints_get hj i
    simp only [Array.getElem?_toList] at g1 g2
    rcases g1 with ⟨g1, _⟩ | ⟨a, t, g1, g1'⟩
    · have := Array.getElem?_eq_none_iff.mp g1
      omega
    · rw [g1]
      rw [drop_of g1'] at hR
      rcases g2 with ⟨g2, g2'⟩ | ⟨c, u, g2, g2'⟩
      · rw [g2]
        refine wpAny_bind (listItems_at hl rfl (wpAny_bind (listItems_at hb rfl ?_)))
        show wpAny _ _ (ret (Value.bool (decide (items.size < items2.size)))) _ _ _
        have h1 := Array.getElem?_eq_none_iff.mp g2
        rw [List.drop_eq_nil_of_le (List.getElem?_eq_none_iff.mp g2'), HT.lexLt_cons_nil] at hR
        rw [decide_eq_false (by omega)]
        exact wpAny_pure hR
      · rw [g2]
        rw [drop_of g2', HT.lexLt_cons] at hR
        obtain ⟨e, he, hiff⟩ := HT.eqAt_int A.in1 s a t c u
        refine wpAny_bind (he prog w _ _ ?_)
        cases e with
        | true =>
          rw [if_pos (hiff.mp rfl)] at hR
          rw [if_pos rfl]
          exact MeetsSeq.meets_again rfl MeetsSeq3.plain_eq_loop MeetsSeq3.entry_eq_loop (ih (i + 1) (by omega)) prog w A R s ⟨hl, hb, hR⟩
        | false =>
          rw [if_neg (fun q => absurd (hiff.mpr q) Bool.false_ne_true)] at hR
          rw [if_neg (by decide)]
          refine wpAny_bind (listItems_at hl rfl (wpAny_bind (listItems_at hb rfl ?_)))
          rw [g1, g2]
          dsimp only
          refine wpAny_bind (HT.rcLt_int A.in1 s a t c u prog w _ _ ?_)
          exact wpAny_pure hR
theorem list_lt_ints (l b : Addr) (items items2 : Array Value) (n n2 : Nat) (ns ms : List Int) (hi : IntsAre items.toList ns) (hj : IntsAre items2.toList ms) :
    Meets (Builtin.«list.__lt__» ⟨[.ref l, .ref b], []⟩) (fun A R s => s.heap.get? l = some { cls := .type "list", data := .seq items n } ∧ s.heap.get? b = some { cls := .type "list", data := .seq items2 n2 } ∧
      R (.ok (.ret (.bool (HT.lexLt ns ms)))) s) := by
  intro prog w A R s ⟨hl, hb, hR⟩
  have f2 := AutoSeq1.sub_list_list
  obtain ⟨hp, g, d, tk, os⟩ := s
  wp_walk
  exact ⟨plainId_quiet MeetsSeq3.plain_eq_loop _, codeAny_builtin MeetsSeq3.entry_eq_loop (by rw [Around.under_plainId MeetsSeq3.plain_eq_loop]; exact lt_loop l b items items2 n n2 ns ms hi hj items.size 0 (by omega) prog w A R _ ⟨hl, hb, hR⟩)⟩
/-- the question of a sort: two lists of whole numbers -/
theorem ask_lists {prog : Program} {w : World} {A : Around} {E : Value → Shared → Prop} {s : Shared} {l b : Addr} {items items2 : Array Value} {n n2 : Nat} {ns ms : List Int} {Q : Bool → Shared → Prop} (hu : A.units < cLine)
    (hl : s.heap.get? l = some { cls := .type "list", data := .seq items n }) (hb : s.heap.get? b = some { cls := .type "list", data := .seq items2 n2 }) (hi : IntsAre items.toList ns) (hj : IntsAre items2.toList ms) (h : Q (HT.lexLt ns ms) s) :
    wpAny (model prog w) A (keyLt' oneType' (.ref l) (.ref b)) Q E s := by
  rw [keyLt'_oneType, oneLt'_eq]
  dsimp only
  rw [if_pos rfl]
  refine wpAny_bind (wpAny_cRoomFor hu ?_)
  refine wpAny_bind (wpAny_callSpecialIfBound?_slot ⟨_, hl, rfl⟩ PySem.F.slot_list_lt ?_)
  refine call_meetsIn PySem.F.slot_list_lt ⟨_, hl, rfl⟩ PySem.F.entry_list_lt (PySem.F.args_list_lt_2 _ _) ((list_lt_ints l b items items2 n n2 ns ms hi hj).inModel prog w) ⟨hl, hb, ?_⟩
  show wpAny (model prog w) A (truthOfDropped (Value.bool (HT.lexLt ns ms))) Q E s
  exact wpAny_truthy_bool h
/-- none or one: nothing is asked -/
theorem list_sort_few {prog : Program} {w : World} {A : Around} {E : Value → Shared → Prop} {s : Shared} {a : Addr} {vs : List Value} {n : Nat} {P : PySem.Fin → Shared → Prop}
    (hs : s.heap.get? a = some (seqObj "list" vs.toArray n)) (h2 : vs.length < 2)
    (h : P (Fin.done (Flow.ret Value.none)) { s with heap := sortedHeap s.heap a vs vs.toArray }) :
    wpAny (model prog w) A (Builtin.«list.sort» { pos := [Value.ref a] }) P E s := by
  rw [list_sort_plain]
  refine wpAny_bind (listItems_at hs rfl ?_)
  refine wpAny_bind (listUpdate_at hs rfl ?_ (by rw [List.size_toArray]; exact Nat.le_of_lt (small1000 (by omega))) (by simp))
  have e1 : ∃ e, (s.heap.update a (Obj.mapSeq fun x => #[])).get? a = some (seqObj "list" #[] e) := ⟨_, get?_update_seq hs (fun _ => #[])⟩
  obtain ⟨e1, he1⟩ := e1
  refine wpAny_bind (seqEpoch_at he1 rfl ?_)
  refine wpAny_bind (wpAny_newTuple ?_ (by show vs.toArray.toList.length ≤ sizeLine; rw [List.toList_toArray]; exact Nat.le_of_lt (small1000 (by omega))))
  refine wpAny_bind (wpAny_newList ?_ (by simp))
  refine wpAny_holding ?_
  have hsz : vs.toArray.size < 2 := by rw [List.size_toArray]; omega
  dsimp only
  rw [if_pos hsz]
  refine wpAny_bind (wpAny_pure ?_)
  rw [if_pos hsz]
  refine wpAny_bind (wpAny_pure ?_)
  have hae : (sortHeap s.heap a vs).get? a = some (seqObj "list" #[] e1) := by
    unfold sortHeap
    exact Heap.get?_push_of_some _ (Heap.get?_push_of_some _ he1)
  refine wpAny_bind (seqEpoch_at hae rfl ?_)
  have ha : Array.map (fun x : Keyed => x.snd) (arrOf (SortSt.mk' general' (vs.toArray.zip vs.toArray) #[] 7 none)) = vs.toArray := by
    show Array.map (fun x : Keyed => x.snd) (vs.toArray.zip vs.toArray) = vs.toArray
    rw [List.zip_toArray, List.map_toArray]
    congr 1
    exact List.map_snd_zip (Nat.le_refl _)
  refine wpAny_bind (listUpdate_at hae rfl ?_ (by simp) (by
    show (Array.map (fun x : Keyed => x.snd) (arrOf (SortSt.mk' general' (vs.toArray.zip vs.toArray) #[] 7 none))).size ≤ sizeLine + 1
    rw [ha, List.size_toArray]
    have := small1000 (n := vs.length) (by omega)
    omega))
  have hf : failedOf (((), SortSt.mk' general' (vs.toArray.zip vs.toArray) #[] 7 none) : Unit × SortSt).snd = none := rfl
  rw [hf]
  dsimp only
  rw [if_neg (by simp)]
  refine wpAny_pure ?_
  rw [ha]
  exact h
def rank (lt : Nat → Nat → Bool) (n i : Nat) : Nat := ((List.range n).filter fun j => lt j i).length
theorem filter_sub {n : Nat} {p q : Nat → Bool} (h : ∀ j, j < n → p j = true → q j = true) : ((List.range n).filter p).length ≤ ((List.range n).filter q).length := by
  induction n with
  | zero => simp
  | succ n ih =>
    have h1 := ih fun j hj => h j (by omega)
    have h2 := h n (by omega)
    rw [List.range_succ, List.filter_append, List.filter_append, List.length_append, List.length_append]
    by_cases c : p n = true
    · rw [List.filter_cons_of_pos c, List.filter_cons_of_pos (h2 c)]; simp; exact h1
    · rw [List.filter_cons_of_neg c]
      simp
      omega
theorem filter_ssub {n i : Nat} {p q : Nat → Bool} (hi : i < n) (h : ∀ j, j < n → p j = true → q j = true) (hp : p i = false) (hq : q i = true) : ((List.range n).filter p).length < ((List.range n).filter q).length := by
  induction n with
  | zero => omega
  | succ n ih =>
    have h2 := h n (by omega)
    rw [List.range_succ, List.filter_append, List.filter_append, List.length_append, List.length_append]
    rcases Nat.lt_or_ge i n with c | c
    · have h1 := ih c fun j hj => h j (by omega)
      by_cases c : p n = true
      · rw [List.filter_cons_of_pos c, List.filter_cons_of_pos (h2 c)]; simp; exact h1
      · rw [List.filter_cons_of_neg c]; simp; omega
    · have : i = n := by omega
      subst this
      have h1 := filter_sub (n := i) (p := p) (q := q) fun j hj => h j (by omega)
      rw [List.filter_cons_of_neg (by rw [hp]; decide), List.filter_cons_of_pos hq]
      simp
      omega
theorem rank_kl {lt : Nat → Nat → Bool} {n : Nat} (ir : ∀ i, lt i i = false) (tr : ∀ i j k, lt i j = true → lt j k = true → lt i k = true) (nt : ∀ i j k, lt i k = true → lt i j = true ∨ lt j k = true) {i j : Nat} (hi : i < n) (hj : j < n) :
    kl (rank lt n) i j = lt i j := by
  cases h : lt i j with
  | true =>
    exact decide_eq_true (filter_ssub hi (fun k _ hk => tr k i j hk h) (ir i) h)
  | false =>
    refine decide_eq_false (Nat.not_lt.mpr (filter_sub fun k _ hk => ?_))
    rcases nt k i j hk with z | z
    · exact z
    · rw [h] at z; cases z
theorem lex_irr : ∀ a : List Int, HT.lexLt a a = false
  | [] => rfl
  | x :: a => by rw [HT.lexLt_cons, if_pos rfl]; exact lex_irr a
theorem lex_tr : ∀ {a b c : List Int}, HT.lexLt a b = true → HT.lexLt b c = true → HT.lexLt a c = true
  | [], _, [], _, h => by cases ‹List Int› <;> simp [HT.lexLt] at h
  | [], _, _ :: _, _, _ => rfl
  | _ :: _, [], _, h, _ => by simp [HT.lexLt] at h
  | x :: a, y :: b, [], _, h => by simp [HT.lexLt] at h
  | x :: a, y :: b, z :: c, h1, h2 => by
    rw [HT.lexLt_cons] at h1 h2 ⊢
    by_cases e1 : x = y
    · subst e1
      rw [if_pos rfl] at h1
      by_cases e2 : x = z
      · subst e2
        rw [if_pos rfl] at h2 ⊢
        exact lex_tr h1 h2
      · rw [if_neg e2] at h2 ⊢; exact h2
    · rw [if_neg e1] at h1
      have h1 := of_decide_eq_true h1
      by_cases e2 : y = z
      · subst e2
        rw [if_neg e1]; exact decide_eq_true h1
      · rw [if_neg e2] at h2
        have h2 := of_decide_eq_true h2
        rw [if_neg (by omega)]; exact decide_eq_true (by omega)
theorem lex_tot : ∀ {a b : List Int}, HT.lexLt a b = false → HT.lexLt b a = false → a = b
  | [], [], _, _ => rfl
  | [], _ :: _, h, _ => by simp [HT.lexLt] at h
  | _ :: _, [], _, h => by simp [HT.lexLt] at h
  | x :: a, y :: b, h1, h2 => by
    rw [HT.lexLt_cons] at h1 h2
    by_cases e : x = y
    · subst e
      rw [if_pos rfl] at h1 h2
      rw [lex_tot h1 h2]
    · rw [if_neg e] at h1
      rw [if_neg (fun z => e z.symm)] at h2
      have h1 := of_decide_eq_false h1
      have h2 := of_decide_eq_false h2
      omega
theorem lex_nt {a b c : List Int} (h : HT.lexLt a c = true) : HT.lexLt a b = true ∨ HT.lexLt b c = true := by
  cases h1 : HT.lexLt a b with
  | true => exact .inl rfl
  | false =>
    right
    cases h2 : HT.lexLt b a with
    | true => exact lex_tr h2 h
    | false => rw [← lex_tot h1 h2]; exact h
end L2
namespace L2
open PySem PySem.Spec PyProof.Rows PySem.W
theorem sortHeap_old {h : Heap} {a b : Addr} {vs : List Value} {o : Obj} (hb : b ≠ a) (e : h.get? b = some o) : (sortHeap h a vs).get? b = some o := by
  unfold sortHeap
  exact Heap.get?_push_of_some _ (Heap.get?_push_of_some _ ((Heap.get?_update_other _ _ hb.symm).trans e))
/-- sorted(l), by what is known of each question -/
theorem sorted_list_by {prog : Program} {w : World} {A : Around} {E : Value → Shared → Prop} {s : Shared} {p : Addr} {vs : List Value} {Q : Value → Shared → Prop} (key : Nat → Nat) (κ : SortKind) (hL : s.heap.IsList p vs.toArray) (h64 : vs.length < 64) (hh : A.handled = none) (hu : A.units + 10 < cLine)
    (hk : 2 ≤ vs.length → ∀ (A' : Around) (E' : Value → Shared → Prop) (R : SortKind → Shared → Prop) (s' : Shared), A'.units + 5 < cLine → (∀ b o, s.heap.get? b = some o → s'.heap.get? b = some o) → (∀ tk, R κ { s' with toks := tk }) → wpAny (model prog w) A' (keyKind' vs.toArray) R E' s')
    (hc : 2 ≤ vs.length → ∀ (A' : Around) i j (C : Bool → Shared → Prop) (s' : Shared), A'.units + 5 < cLine → (∀ b o, s.heap.get? b = some o → s'.heap.get? b = some o) → i < vs.length → j < vs.length → (∀ tk, C (kl key i j) { s' with toks := tk }) → kas_ask prog w A' κ vs i j C s')
    (h : ∀ (h1 h2 : Heap) (tk e : Nat) (π : List Nat), π.Perm (List.range vs.length) → π.Pairwise (fun i j => key i ≤ key j) → (∀ b o, s.heap.get? b = some o → h1.get? b = some o) → h2.get? h1.objs.size = some (seqObj "list" (π.map fun i => vs.getD i Value.none).toArray e) →
      (∀ b o, h1.get? b = some o → h2.get? b = some o) → Q (.ref h1.objs.size) { s with heap := h2, toks := tk }) :
    wpAny (model prog w) A (call (.builtin "sorted") [.ref p]) Q E s := by
  refine Calls.call_function_entry kind_sorted plain_sorted entry_sorted (args_sorted1 _) ?_
  unfold Builtin.«sorted»
  refine wpAny_bind (m := checkCount "sorted" 1 1 _) (wpAny_pure ?_)
  have hz : vs.length ≤ sizeLine := Nat.le_of_lt (small1000 (by omega))
  refine wpAny_bind (collect_list hL ?_ hz)
  generalize hh' : (Heap.update _ _ _) = h'
  have hk' : ∀ b o, s.heap.get? b = some o → h'.get? b = some o := fun b o e => by
    rw [← hh']
    exact (Heap.get?_update_other _ _ (Nat.ne_of_gt (Heap.lt_size e))).trans (Heap.get?_push_of_some _ e)
  refine wpAny_bind (wpAny_newList ?_ hz)
  have hD : (h'.push (seqObj "list" vs.toArray 0)).get? h'.objs.size = some (seqObj "list" vs.toArray 0) := Heap.get?_push_size _ rfl
  have old : ∀ out b o, h'.get? b = some o → (sortedHeap (h'.push (seqObj "list" vs.toArray 0)) h'.objs.size vs out).get? b = some o := fun out b o q1 => by
    have q2 := Heap.lt_size q1
    rw [sortedHeap_old (Nat.ne_of_lt q2) (by rw [Heap.size_push]; exact Nat.lt_succ_of_lt q2)]
    exact Heap.get?_push_of_some _ q1
  have mid : ∀ b o, s.heap.get? b = some o → (sortHeap (h'.push (seqObj "list" vs.toArray 0)) h'.objs.size vs).get? b = some o := fun b o q1 => by
    have q2 := hk' b o q1
    exact sortHeap_old (Nat.ne_of_lt (Heap.lt_size q2)) (Heap.get?_push_of_some _ q2)
  rcases Nat.lt_or_ge vs.length 2 with c | c
  · refine wpAny_bind (wpAny_holding (wpAny_call_entry slot_list_sort ⟨_, Heap.get?_push_size _ rfl, rfl⟩ entry_list_sort (list_sort_few hD c ⟨_, rfl, ?_⟩) (args_list_sort _)))
    obtain ⟨e, he⟩ := sortedHeap_at (out := vs.toArray) (n := 0) hD
    have eπ : ((List.range vs.length).map fun i => vs.getD i Value.none) = vs := by
      refine List.ext_getElem? fun i => ?_
      by_cases hi : i < vs.length
      · simp [hi, List.getD_eq_getElem?_getD]
      · simp [hi]
    refine wpAny_pure ⟨_, rfl, h h' _ s.toks e (List.range vs.length) (List.Perm.refl _) ?_ hk' (by rw [eπ]; exact he) (old _)⟩
    refine List.pairwise_iff_getElem.mpr fun i j hi hj hij => ?_
    rw [List.length_range] at hi hj
    omega
  · refine wpAny_bind (wpAny_holding (wpAny_call_entry slot_list_sort ⟨_, Heap.get?_push_size _ rfl, rfl⟩ entry_list_sort (list_sort_by key κ hD c h64 (fun E' R tk hR => hk c _ E' R _ ?_ mid hR) (fun i j C tk hi hj hC => hc c _ i j C _ ?_ mid hi hj hC) (fun π tk p1 p2 => ⟨_, rfl, ?_⟩)) (args_list_sort _)))
    · simp; omega
    · simp; omega
    · obtain ⟨e, he⟩ := sortedHeap_at (out := (π.map fun i => vs.getD i Value.none).toArray) (n := 0) hD
      exact wpAny_pure ⟨_, rfl, h h' _ tk e π p1 p2 hk' he (old _)⟩
end L2
namespace L2
open PySem PySem.Spec PyProof.Rows PySem.W
section
variable {X : Cx}
theorem vals_refs : ∀ {as : List Addr} {us : List Value}, Vals (as.map V.ref) us → us = as.map Value.ref
  | [], _, h => by cases h; rfl
  | a :: as, _, h => by
    cases h with
    | cons r t =>
      cases (show _ = Value.ref a from r)
      rw [vals_refs t]; rfl
theorem refs_vals (as : List Addr) : Vals (as.map V.ref) (as.map Value.ref) := by
  induction as with
  | nil => exact .nil
  | cons a as ih => exact .cons rfl ih
/-- sorted of a list of lists of whole numbers -/
def rSortedLL (K : PySem.W.Frag) : List V → Hp → VK → Prop := fun xs H Q => ∃ (p : Addr) (as : List Addr) (Ms : List (List Int)), xs = [.ref p] ∧ SqL K H p (as.map V.ref) ∧ as.length < 64 ∧
  (∀ i, i < as.length → H (as.getD i 0) = some (.lst ((Ms.getD i []).map V.int))) ∧
  ∀ (l : Addr) (π : List Nat), H l = none → π.Perm (List.range as.length) → π.Pairwise (fun i j => HT.lexLt (Ms.getD j []) (Ms.getD i []) = false) → Q (.ref l) (upd H l (.lst ((π.map fun i => as.getD i 0).map V.ref)))
theorem call_sortedLL (hc : X.calm = true) (hu : X.A.units + 10 < cLine) : CallR X (.builtin "sorted") (rSortedLL X.K) := by
  intro pins s σ H xs us Q I rr h
  obtain ⟨p, as, Ms, rfl, hq, h64, hM, q⟩ := h
  obtain ⟨u, rfl, ru⟩ := vals1 rr
  obtain rfl : u = Value.ref p := ru
  obtain ⟨its, rv, pl, hz⟩ := I.list hq
  have ei := vals_refs rv
  subst ei
  have hlen : (as.map Value.ref).length = as.length := List.length_map ..
  have hget : ∀ i, i < as.length → (as.map Value.ref).getD i Value.none = .ref (as.getD i 0) := fun i hi => by
    simp [List.getD_eq_getElem?_getD, hi]
  let lt : Nat → Nat → Bool := fun i j => HT.lexLt (Ms.getD i []) (Ms.getD j [])
  have hkl : ∀ i j, i < as.length → j < as.length → kl (rank lt as.length) i j = lt i j := fun i j hi hj => rank_kl (lt := lt) (fun i => lex_irr (Ms.getD i [])) (fun i j k h1 h2 => lex_tr (b := Ms.getD j []) h1 h2) (fun i j k h => lex_nt (b := Ms.getD j []) h) hi hj
  have hobj : ∀ i, i < as.length → ∃ (items : List Value) (n : Nat), IntsAre items (Ms.getD i []) ∧ s.heap.get? (as.getD i 0) = some { cls := .type "list", data := .seq items.toArray n } := fun i hi => by
    obtain ⟨_, its, n, r, e⟩ := (show ObjOk X.prog X.w H s.heap (as.getD i 0) (.lst ((Ms.getD i []).map V.int)) from I.hok _ _ (hM i hi))
    exact ⟨its, n, intsAre_of r, e⟩
  refine sorted_list_by (rank lt as.length) oneType' pl.isList (by rw [hlen]; exact h64) (I.ok.hd hc) hu (fun c A' E' R s' _ hs hR => ?_) (fun c A' i j C s' hu' hs hi hj hC => ?_) (fun h1 h2 tk e π p1 p2 hk he hk2 => ?_)
  · refine kas_kind (T := .type "list") c (fun v hv => ?_) rfl rfl (hR s'.toks)
    obtain ⟨a, ha, rfl⟩ := List.mem_map.mp hv
    obtain ⟨i, hi, ei⟩ := List.mem_iff_getElem.mp ha
    obtain ⟨items, n, _, ho⟩ := hobj i hi
    have ea : as.getD i 0 = a := by rw [List.getD_eq_getElem?_getD, List.getElem?_eq_getElem hi, ei]; rfl
    rw [ea] at ho
    exact fun A'' Q'' E'' s'' hs'' q'' => wpAny_typeOf_ref (hs'' _ _ (hs _ _ ho)) q''
  · rw [hlen] at hi hj
    unfold kas_ask
    rw [hget i hi, hget j hj]
    obtain ⟨it1, n1, r1, o1⟩ := hobj i hi
    obtain ⟨it2, n2, r2, o2⟩ := hobj j hj
    have hC := hC s'.toks
    rw [hkl i j hi hj] at hC
    exact ask_lists (by omega) (hs _ _ o1) (hs _ _ o2) r1 r2 hC
  · rw [hlen] at p1
    have I1 : Inv X pins σ H { s with heap := h1, toks := tk } := I.kept hk
    have hl : (π.map fun i => as.getD i 0).length < 64 := by rw [List.length_map, p1.length_eq, List.length_range]; exact h64
    have hv : (π.map fun i => (as.map Value.ref).getD i Value.none) = (π.map fun i => as.getD i 0).map Value.ref := by
      rw [List.map_map]
      refine List.map_congr_left fun i hi => ?_
      exact hget i (List.mem_range.mp (p1.mem_iff.mp hi))
    rw [hv] at he
    refine ⟨.ref h1.objs.size, _, I1.laid (a := h1.objs.size) (o := .lst ((π.map fun i => as.getD i 0).map V.ref)) (h' := h2) (t' := tk) hk2 (Nat.le_refl _) ⟨?_, _, e, refs_vals _, he⟩, rfl, q _ π (I1.hok.fresh (Nat.le_refl _)) p1 ?_⟩
    · rw [List.length_map]; exact Nat.le_of_lt (small1000 (by omega))
    · refine p2.imp_of_mem fun {i j} hi hj hij => ?_
      have hi := List.mem_range.mp (p1.mem_iff.mp hi)
      have hj := List.mem_range.mp (p1.mem_iff.mp hj)
      have := hkl j i hj hi
      show lt j i = false
      rw [← this]
      exact decide_eq_false (by omega)
end
end L2
namespace K1
open PySem L2 Sq
theorem nd_depth : ∀ xs : List Nat, PyData.depthAll (nd xs) = 0
  | [] => rfl
  | x :: xs => by show max 0 (PyData.depthAll (nd xs)) = 0; rw [nd_depth xs]; rfl
def ld (r : List Nat) : PyData := .list (nd r)
theorem ld_dt {K : PySem.W.Frag} {H : Hp} {p : Addr} {r : List Nat} (h : SqL K H p (nv r)) : Dt K H (.ref p) (ld r) := .lst h (nd_all r)
theorem ld_eqv (r r' : List Nat) : PyData.eqv (ld r) (ld r') = decide (r = r') := nd_eqv r r'
theorem ld_lay (r : List Nat) : (ld r).canLay0 = true := nd_lay r
theorem ld_depth (r : List Nat) : (ld r).depth ≤ 64 := by
  show PyData.depthAll (nd r) + 1 ≤ 64
  rw [nd_depth]; decide
theorem unitsD {A : Around} {k : Nat} (hr : Room k A) {d e : PyData} (h : d.depth ≤ 64) : A.units + min d.depth e.depth < cLine :=
  Nat.lt_of_le_of_lt (Nat.add_le_add_left (Nat.le_trans (Nat.min_le_left _ _) h) _) hr.units
theorem ne_lt {H : Hp} {a l : Addr} {xs ys : List V} (h : H a = some (.tup xs)) (hl : H l = some (.lst ys)) : a ≠ l := fun e => by rw [e, hl] at h; cases h
end K1
namespace K1
open PySem L2 Sq
abbrev rLenB (K : PySem.W.Frag) : List V → Hp → VK → Prop := fun xs H Q => ∃ p ys, xs = [.ref p] ∧ (SqL K H p ys ∨ SqT K H p ys) ∧ Q (.int ys.length) H
abbrev teLenB (K : PySem.W.Frag) : TE := tCB (rLenB K) (tCons (tOp (rIxT K) (tVar 0) (tC (.int 0))) tNil)
theorem nd_besO : (["_law_one"] : List Str).Nodup := by decide +kernel
/-- [g(x) for x in xs], xs a list of whatever things -/
theorem compLx {K : PySem.W.Frag} {Hc : Hp} {p : Addr} {xs : List V} {tl te : TE} {pull : List Nat} {Q : VK} {σ : St} {rest : St} (ys : List V) (hl : ys.length = xs.length) (hj : ∀ R : VK, R (.ref p) Hc → tl σ Hc R) (hp : SqL K Hc p xs) (hb : bst 1 pull σ = none :: rest)
    (hte : ∀ (i : Nat) (x y : V) (H : Hp) (R : VK), xs[i]? = some x → ys[i]? = some y → Same Hc H → R y H → te (some x :: rest) H R) (hn : xs.length ≤ 1000)
    (k : ∀ (H' : Hp) (d : Addr), Same Hc H' → Hc d = none → H' d = some (.lst ys) → Q (.ref d) H') :
    tComp (iList K tl) 1 pull (gName 0) te σ Hc Q := by
  refine hj _ ⟨p, rfl, ⟨_, hp⟩, fun d hd => ?_⟩
  rw [hb]
  refine comp_by (Q := fun d H' => Q (.ref d) H') xs.length ys hl (fun i σ H3 => (∃ o, σ = o :: rest) ∧ Same Hc H3) ⟨⟨_, rfl⟩, same_upd (Same.refl _) hd⟩ ?_ ?_
  · rintro i σ H3 hi ⟨⟨o, rfl⟩, s3⟩ hd3
    have hp3 := s3.seq hp
    have hg : xs[i]? = some xs[i] := List.getElem?_eq_getElem hi
    have hy' : ys[i]? = some (ys[i]'(by omega)) := List.getElem?_eq_getElem _
    refine ⟨⟨_, _, hp3, hg⟩, fun y H4 ⟨e, hy⟩ => ?_⟩
    subst e
    have hy := hy _ hp3
    rw [hg] at hy
    cases hy
    refine hte i _ _ _ _ hg hy' s3 ?_
    exact cpost hi hn hd3 hy' ⟨⟨_, rfl⟩, same_upd s3 hd⟩
  · rintro σ H3 ⟨⟨o, rfl⟩, s3⟩ hd3
    exact ⟨⟨_, s3.seq hp, Nat.le_refl _⟩, k H3 d s3 hd hd3⟩
theorem sRoomB {A : Around} {k : Nat} (hr : Room k A) : A.units + 10 < cLine := by
  have := hr.units
  omega
theorem nv_intsB (m : List Nat) : nv m = (m.map fun (x : Nat) => (x : Int)).map V.int := by rw [List.map_map]; rfl
theorem lex_hd {a b : List Nat} (ha : a ≠ []) (hb : b ≠ []) (h : HT.lexLt (b.map fun (x : Nat) => (x : Int)) (a.map fun (x : Nat) => (x : Int)) = false) : hd0 a ≤ hd0 b := by
  cases a with
  | nil => exact absurd rfl ha
  | cons x a =>
    cases b with
    | nil => exact absurd rfl hb
    | cons y b =>
      show x ≤ y
      rcases Nat.lt_or_ge y x with c | c
      · have : HT.lexLt ((y :: b).map fun (x : Nat) => (x : Int)) ((x :: a).map fun (x : Nat) => (x : Int)) = true := by
          rw [List.map_cons, List.map_cons, HT.lexLt_cons, if_neg (by omega), decide_eq_true (by omega)]
        rw [this] at h; cases h
      · exact c
theorem cut_nv (t : List Nat) {a n : Nat} (h : a + n ≤ t.length) : cutV (nv t) (some (a : Int)) (some ((a : Int) + (n : Int))) = nv ((t.drop a).take n) := by
  unfold cutV
  have e : ((a : Int) + (n : Int)) = ((a + n : Nat) : Int) := by omega
  rw [e, HT.sIx_nat, HT.sIx_nat, nv_len, Nat.min_eq_left h, Nat.min_eq_left (show a ≤ t.length by omega), Nat.add_sub_cancel_left]
  show ((t.map _).drop a).take n = ((t.drop a).take n).map _
  rw [← List.map_drop, ← List.map_take]
/-- the sheets at ss are these -/
def ShsAt (H : Hp) (ss : List Addr) (Rs : List (List Nat × List Nat)) : Prop := ss.length = Rs.length ∧ ∀ (j : Nat) (s : Addr) (R : List Nat × List Nat), ss[j]? = some s → Rs[j]? = some R → ShAt H s R.1 R.2
theorem ShsAt.same {H H' : Hp} {ss : List Addr} {Rs : List (List Nat × List Nat)} (e : Same H H') (h : ShsAt H ss Rs) : ShsAt H' ss Rs := ⟨h.1, fun j s R h1 h2 => (h.2 j s R h1 h2).same e⟩
/-- what is there stays, but for two lists -/
def But2 (a b : Addr) (H H' : Hp) : Prop := ∀ c o, c ≠ a → c ≠ b → H c = some o → H' c = some o
def Eqs (t : List Nat) (Rs : List (List Nat × List Nat)) (i : Nat) (r u : List Nat) : Prop := ∀ j R, j < i → Rs[j]? = some R → ∀ k, k < R.1.length → nx r (nx t (off Rs j + k)) = nx t (off Rs j + nx R.1 k) ∧ nx u (nx t (off Rs j + k)) = nx t (off Rs j + nx R.2 k)
theorem nx_setB {l : List Nat} {i v j : Nat} (h : i < l.length) : nx (l.set i v) j = if j = i then v else nx l j := by
  show (l.set i v).getD j 0 = if j = i then v else l.getD j 0
  rw [List.getD_eq_getElem?_getD, List.getD_eq_getElem?_getD]
  by_cases e : j = i
  · subst e; rw [if_pos rfl, List.getElem?_set_self h]; rfl
  · rw [if_neg e, List.getElem?_set_ne (fun z => e z.symm)]
def spBes (K : PySem.W.Frag) : Sp := fun vs H Q _ => ∃ (p : Addr) (ss : List Addr) (Rs : List (List Nat × List Nat)) (c : Int), vs = [.ref p, .int c] ∧ SqL K H p (ss.map V.ref) ∧ ShsAt H ss Rs ∧ (∀ R ∈ Rs, Sheet R.1.length R.1 R.2) ∧ (Rs.map fun R => R.1.length).sum ≤ 36 ∧ ss.length ≤ 36 ∧
  ∀ (H' : Hp) (t pr pu l : Addr) (gs : List Addr) (r u : List Nat) (ps : List (List Nat)), Same H H' → H' t = some (.tup [.ref pr, .ref pu, .ref l]) → H' pr = some (.lst (nv r)) → H' pu = some (.lst (nv u)) → H' l = some (.lst (gs.map V.ref)) → ListsAt H' gs (grp ((Rs.map fun R => R.1.length).sum) r u) →
    Bes ((Rs.map fun R => R.1.length).sum) r u ps → ps.length = Rs.length → H pr = none → H pu = none → H l = none → pr ≠ pu → Q (.ref t) H'
section
variable {P : Program} {w : World} {K : PySem.W.Frag} {mg : Str → Option Value} {base : Heap}
abbrev n_bes : List Str := ["_law_sheets", "_law_number", "_law_many", "_law_names", "_law_right", "_law_up", "_law_parts", "_law_at", "_law_one", "_law_part", "_law_k", "_law_name"]
theorem sc_bes : FnScope n_bes ["_law_sheets", "_law_number"] (defScope sBeside) := ⟨rfl, rfl, rfl, by decide +kernel, rfl, by decide +kernel, by decide +kernel⟩
theorem nd_bes : (["_law_k"] : List Str).Nodup := by decide +kernel
theorem nd_bes1 : (["_law_k"] : List Str).Nodup := by decide +kernel
set_option maxHeartbeats 4000000 in
theorem ok_bes {f fp : Addr} {fd dp : FuncData} (T : Bi mg) (T_sum : mg "sum" = none) (F : Fn K mg "_law_beside" sBeside ["_law_sheets", "_law_number"] f fd) (FP : Fn K mg "_law_picked" sPicked ["_law_things", "_law_number"] fp dp) (GP : FnOk P w K mg base CX0 1 fp dp ["_law_things", "_law_number"] (spPicked K)) : FnOk P w K mg base CX0 2 f fd ["_law_sheets", "_law_number"] (spBes K) := by
  refine F.F.ok sc_bes (fun vs H Q E h => ?_) (fun cdv A outer s H vs Q E hr h => ?_)
  · obtain ⟨p, ss, Rs, c, rfl, _⟩ := h; rfl
  · obtain ⟨p, ss, Rs, c, rfl, hp, hss, hSh, htot, hn36, k⟩ := h
    have hr1 : Room 1 _ := hr.mono (by decide)
    refine ⟨_, (pss_cons (ps_set (i := 2) sc_bes.nd rfl (Or.inl rfl) (pe_callB (call_sumL rfl) rfl T_sum boot_sum (pa_cons (pe_comp (N := n_bes) (names := (defScope sBeside).names) (N' := ["_law_one"]) (k := 1) (pull := []) (te := teLenB K) rfl ⟨by rfl, by decide +kernel, by decide +kernel, by rfl, by decide +kernel, by decide +kernel⟩ rfl rfl (pi_list (pv 0)) (fun _ _ _ _ _ _ => pg_name (i := 0) nd_besO rfl (Or.inl rfl)) (fun _ _ _ _ _ _ => (pe_callB call_len_seq rfl T.len PySem.boot_len (pa_cons (pe_ix ix_tup (pv 0) pe_int (fun _ _ => rfl)) pa_nil)))) pa_nil)))
      (pss_cons (ps_set (i := 3) sc_bes.nd rfl (Or.inl rfl) (pe_call GP hr rfl FP.m FP.F.kp FP.b .nil pass0 (pa_cons (pe_callTy (call_list_rng rfl) rfl T.list boot_list (pa_cons (pe_callTy call_range1 rfl T.range PyProof.Rows.boot_range (pa_cons (pv 2) pa_nil)) pa_nil)) (pa_cons (pv 1) pa_nil))))
      (pss_cons (ps_comp (j := 4) (N := n_bes) (names := (defScope sBeside).names) (N' := ["_law_k"]) (k := 1) (pull := []) (te := (tC (.int 0))) rfl sc_bes.nd rfl rfl ⟨by rfl, by decide +kernel, by decide +kernel, by rfl, by decide +kernel, by decide +kernel⟩ rfl rfl (pi_range1 rfl T.range (pa_cons (pv 2) pa_nil)) (fun _ _ _ _ _ _ => pg_name (i := 0) nd_bes1 rfl (Or.inl rfl)) (fun _ _ _ _ _ _ => pe_int))
      (pss_cons (ps_comp (j := 5) (N := n_bes) (names := (defScope sBeside).names) (N' := ["_law_k"]) (k := 1) (pull := []) (te := (tC (.int 0))) rfl sc_bes.nd rfl rfl ⟨by rfl, by decide +kernel, by decide +kernel, by rfl, by decide +kernel, by decide +kernel⟩ rfl rfl (pi_range1 rfl T.range (pa_cons (pv 2) pa_nil)) (fun _ _ _ _ _ _ => pg_name (i := 0) nd_bes rfl (Or.inl rfl)) (fun _ _ _ _ _ _ => pe_int))
      (pss_cons (ps_set (i := 6) sc_bes.nd rfl (Or.inl rfl) (pe_lst pa_nil))
      (pss_cons (ps_set (i := 7) sc_bes.nd rfl (Or.inl rfl) pe_int)
      (pss_cons (ps_for PassesOwn.never rfl (pi_list (pv 0)) (pg_name (i := 8) sc_bes.nd rfl (Or.inl rfl)) (pss_cons (ps_set (i := 9) sc_bes.nd rfl (Or.inl rfl) (pe_slice sl_list (pv 3) (po_some (pv 7)) (po_some (pe_op op_add (pv 7) (pe_callB call_len_seq rfl T.len PySem.boot_len (pa_cons (pe_ix ix_tup (pv 8) pe_int (fun _ _ => rfl)) pa_nil))))))
      (pss_cons (ps_set (i := 7) sc_bes.nd rfl (Or.inl rfl) (pe_op op_add (pv 7) (pe_callB call_len_seq rfl T.len PySem.boot_len (pa_cons (pe_ix ix_tup (pv 8) pe_int (fun _ _ => rfl)) pa_nil))))
      (pss_cons (ps_for PassesOwn.never rfl (pi_enumL rfl T.enum (pa_cons (pv 9) pa_nil)) (pg_tupE rfl (pgs_cons (pg_name (i := 10) sc_bes.nd rfl (Or.inl rfl)) (pgs_cons (pg_name (i := 11) sc_bes.nd rfl (Or.inl rfl)) pgs_nil))) (pss_cons (ps_lput (pv 4) (pv 11) (pe_ix ix_list (pv 9) (pe_ix ix_tup (pe_ix ix_tup (pv 8) pe_int (fun _ _ => rfl)) (pv 10) (fun _ _ => rfl)) (fun _ _ => rfl)) rfl)
      (pss_one (ps_lput (pv 5) (pv 11) (pe_ix ix_list (pv 9) (pe_ix ix_tup (pe_ix ix_tup (pv 8) pe_int (fun _ _ => rfl)) (pv 10) (fun _ _ => rfl)) (fun _ _ => rfl)) rfl))))
      (pss_one (ps_expr (pe_bm PySem.F.plainAttrs_list PySem.F.slot_list_append PySem.F.type_list_append mt_append (pv 6) (pa_cons (pe_callB (call_sorted rfl) rfl T.sorted boot_sorted (pa_cons (pv 9) pa_nil)) pa_nil))))))))
      (pss_one (ps_ret (pe_tup (pa_cons (pv 4) (pa_cons (pv 5) (pa_cons (pe_callB (call_sortedLL rfl (sRoomB hr)) rfl T.sorted boot_sorted (pa_cons (pv 6) pa_nil)) pa_nil))))))))))))), ?_⟩
    have three : 3 ≤ sizeLine := by decide
    obtain ⟨hsl, hsA⟩ := hss
    obtain ⟨N, hN⟩ : ∃ N, (Rs.map fun R => R.1.length).sum = N := ⟨_, rfl⟩
    rw [hN] at htot k
    dsimp only [tNext, tSeq, tAsg, tCB, tCons, tNil]
    refine compLx (xs := ss.map V.ref) (rest := []) ((Rs.map fun R => ((R.1.length : Nat) : Int)).map V.int) (by simp [hsl]) (fun R hR => ⟨_, rfl, hR⟩) hp rfl (fun i x y H' R hx hy s' hR => ?_) (by rw [List.length_map]; omega) fun H1 d s1 _ hd1 => ?_
    · rw [List.getElem?_map] at hx
      obtain ⟨b, hb, rfl⟩ := Option.map_eq_some_iff.mp hx
      rw [List.getElem?_map] at hy
      obtain ⟨z, hz, rfl⟩ := Option.map_eq_some_iff.mp hy
      rw [List.getElem?_map] at hz
      obtain ⟨Ri, hRi, rfl⟩ := Option.map_eq_some_iff.mp hz
      obtain ⟨q1, q2, g1, g2, g3⟩ := (hsA i b Ri hb hRi).same s'
      exact ⟨_, rfl, b, _, 0, _, rfl, rfl, SqT.of g1, atI_nat (j := 0) rfl, q1, _, rfl, .inr (SqT.of g2), by rw [nv_len]; exact hR⟩
    refine ⟨d, _, rfl, SqL.of hd1, ?_⟩
    have eN : (Rs.map fun R => ((R.1.length : Nat) : Int)).sum = ((N : Nat) : Int) := by
      rw [← hN]
      clear hsA hsl hSh htot hN k hd1
      induction Rs with
      | nil => rfl
      | cons R Rs ih => rw [List.map_cons, List.sum_cons, ih, List.map_cons, List.sum_cons]; omega
    rw [eN]
    refine ⟨_, rfl, (N : Int), rfl, fun r0 hr0 => ⟨r0, N, rfl, upd_same, by omega, fun lf hlf => ?_⟩⟩
    have f0 := (same_upd (o := .rng 0 (N : Int)) (Same.refl H1) hr0).free hlf
    refine ⟨_, rfl, lf, List.range N, c, rfl, SqL.of upd_same, by rw [List.length_range]; omega, fun H2 ln t s2 hln0 hln hperm => ?_⟩
    have s12 := (same_upd (o := .lst (nv (List.range N))) (same_upd (o := .rng 0 (N : Int)) (Same.refl H1) hr0) f0).trans s2
    clear s2 f0 hlf hr0 hln0
    have s02 := s1.trans s12
    have rt : Row N t := Row.of_perm hperm
    dsimp only [gName, tSeq, tAsg]
    refine compRange (m := N) (rest := []) (fun _ => 0) (fun R hR => ⟨_, rfl, hR⟩) rfl (fun i H' R hi s' hR => hR) (by omega) fun H3 pr s3 hpr0 hpr => ?_
    refine compRange (m := N) (rest := []) (fun _ => 0) (fun R hR => ⟨_, rfl, hR⟩) rfl (fun i H' R hi s' hR => hR) (by omega) fun H4 pu s4 hpu0 hpu => ?_
    refine ⟨Nat.zero_le _, fun lp hlp => ?_⟩
    have npu : pr ≠ pu := ne_of_none hpr hpu0
    have hpu2 : H2 pu = none := s3.free hpu0
    have hpr4 := s4 _ _ hpr
    have nlp1 : pr ≠ lp := ne_of_none hpr4 hlp
    have nlp2 : pu ≠ lp := ne_of_none hpu hlp
    have hlp2 : H2 lp = none := (s3.trans s4).free hlp
    have s24 := s3.trans s4
    have hp2 := s02.seq hp
    have hsA2 : ShsAt H2 ss Rs := ShsAt.same s02 ⟨hsl, hsA⟩
    have repl : ((List.range N).map fun (_ : Nat) => (0 : Nat)).length = N := by simp
    refine ⟨_, rfl, p, rfl, ⟨_, (same_upd (o := .lst []) s24 hlp2).seq hp2⟩, for_list (K := K) (a := p) (xs := ss.map V.ref) (fun i σ H5 => ∃ (R U : List Nat) (gs : List Addr) (Ss : List (List Nat)) (o8 o9 o10 o11 : Option V),
      σ = [some (.ref p), some (.int c), some (.int (N : Int)), some (.ref ln), some (.ref pr), some (.ref pu), some (.ref lp), some (.int ((off Rs i : Nat) : Int)), o8, o9, o10, o11] ∧ Same H2 H5 ∧ H5 pr = some (.lst (nv R)) ∧ H5 pu = some (.lst (nv U)) ∧ H5 lp = some (.lst (gs.map V.ref)) ∧
      R.length = N ∧ U.length = N ∧ gs.length = i ∧ Ss.length = i ∧ (∀ g ∈ gs, g ≠ pr ∧ g ≠ pu ∧ g ≠ lp) ∧ (∀ (j : Nat) (g : Addr) (S : List Nat), gs[j]? = some g → Ss[j]? = some S → H5 g = some (.lst (nv S))) ∧ (∀ (j : Nat) (S : List Nat), Ss[j]? = some S → S.Perm (prt t Rs j) ∧ S.Pairwise (· ≤ ·)) ∧ Eqs t Rs i R U) ?_ (fun i σ H5 _ ⟨_, _, _, _, _, _, _, _, _, s5, _⟩ => s5.seq hp2) ?_ ?_⟩
    · refine ⟨(List.range N).map fun _ => 0, (List.range N).map fun _ => 0, [], [], none, none, none, none, rfl, same_upd s24 hlp2, by rw [upd_ne nlp1]; exact hpr4, by rw [upd_ne nlp2]; exact hpu, upd_same, repl, repl, rfl, rfl, fun g hg => absurd hg (by simp), fun j g S h => absurd h (by simp), fun j S h => absurd h (by simp), fun j R hj => absurd hj (Nat.not_lt_zero _)⟩
    · rintro i x σ H5 hx ⟨R, U, gs, Ss, o8, o9, o10, o11, rfl, s5, hpr5, hpu5, hlp5, lR, lU, lgs, lSs, hgs, hLs, hSs, hE⟩
      rw [List.getElem?_map] at hx
      obtain ⟨b, hb, rfl⟩ := Option.map_eq_some_iff.mp hx
      have hi : i < Rs.length := by rw [← hsl]; exact (List.getElem?_eq_some_iff.mp hb).1
      obtain ⟨Ri, hRi⟩ : ∃ Ri, Rs[i]? = some Ri := ⟨_, List.getElem?_eq_getElem hi⟩
      have hSi := hSh Ri (List.mem_of_getElem? hRi)
      have ha5 := (hsA2.2 i b Ri hb hRi).same s5
      obtain ⟨q1, q2, g1, g2, g3⟩ := id ha5
      have hoff : off Rs i + Ri.1.length ≤ N := by
        have := off_mono (Rs := Rs) (show i + 1 ≤ Rs.length from hi)
        rw [off_succ hRi, off_all (Nat.le_refl _), hN] at this
        exact this
      refine ⟨_, rfl, _, rfl, _, rfl, _, rfl, _, rfl, b, _, 0, _, rfl, rfl, SqT.of g1, atI_nat (j := 0) rfl, q1, _, rfl, .inr (SqT.of g2), _, _, rfl, rfl, _, rfl, ln, _, rfl, SqL.of (s5 _ _ hln), fun lq hlq => ?_⟩
      have ecut : cutV (nv t) (some ((off Rs i : Nat) : Int)) (some (((off Rs i : Nat) : Int) + ((nv Ri.1).length : Int))) = nv (prt t Rs i) := by
        rw [nv_len, cut_nv t (by rw [rt.len]; exact hoff), prt_eq hRi]
      rw [ecut]
      have s6 := same_upd (o := .lst (nv (prt t Rs i))) (Same.refl H5) hlq
      have hlq6 : (upd H5 lq (.lst (nv (prt t Rs i)))) lq = some (.lst (nv (prt t Rs i))) := upd_same
      revert s6 hlq6
      generalize (upd H5 lq (.lst (nv (prt t Rs i)))) = H6
      intro s6 hlq6
      have nq1 : lq ≠ pr := (ne_of_none hpr5 hlq).symm
      have nq2 : lq ≠ pu := (ne_of_none hpu5 hlq).symm
      refine ⟨_, rfl, _, rfl, b, _, 0, _, rfl, rfl, SqT.of (s6 _ _ g1), atI_nat (j := 0) rfl, q1, _, rfl, .inr (SqT.of (s6 _ _ g2)), _, _, rfl, rfl, ?_⟩
      have eat : ((off Rs i : Nat) : Int) + ((nv Ri.1).length : Int) = ((off Rs (i + 1) : Nat) : Int) := by rw [nv_len, off_succ hRi]; omega
      dsimp only
      rw [eat]
      have plen : (prt t Rs i).length = Ri.1.length := prt_len hRi (by rw [rt.len, hN])
      have nb1 : b ≠ pr := ne_lt g1 hpr5
      have nb2 : b ≠ pu := ne_lt g1 hpu5
      have n11 : q1 ≠ pr := ne_lt g2 hpr5
      have n12 : q1 ≠ pu := ne_lt g2 hpu5
      have n21 : q2 ≠ pr := ne_lt g3 hpr5
      have n22 : q2 ≠ pu := ne_lt g3 hpu5
      refine ⟨_, rfl, lq, rfl, ⟨_, SqL.of hlq6⟩, for_en (xs := nv (prt t Rs i)) (fun k' σ H7 => ∃ (R' U' : List Nat) (o10 o11 : Option V),
        σ = [some (.ref p), some (.int c), some (.int (N : Int)), some (.ref ln), some (.ref pr), some (.ref pu), some (.ref lp), some (.int ((off Rs (i + 1) : Nat) : Int)), some (.ref b), some (.ref lq), o10, o11] ∧ But2 pr pu H6 H7 ∧ H7 pr = some (.lst (nv R')) ∧ H7 pu = some (.lst (nv U')) ∧
        R'.length = N ∧ U'.length = N ∧ Eqs t Rs i R' U' ∧ ∀ k, k < k' → nx R' (nx t (off Rs i + k)) = nx t (off Rs i + nx Ri.1 k) ∧ nx U' (nx t (off Rs i + k)) = nx t (off Rs i + nx Ri.2 k)) ?_ (fun k' σ H7 _ ⟨_, _, _, _, _, b7, _⟩ => SqL.of (b7 _ _ nq1 nq2 hlq6)) ?_ ?_⟩
      · exact ⟨R, U, _, _, rfl, fun c o _ _ h => h, s6 _ _ hpr5, s6 _ _ hpu5, lR, lU, hE, fun k hk => absurd hk (Nat.not_lt_zero _)⟩
      · rintro k' v σ H7 T' hv hT ⟨R', U', o10, o11, rfl, b7, hpr7, hpu7, lR', lU', hE', hF⟩
        have hk : k' < Ri.1.length := by
          have := (List.getElem?_eq_some_iff.mp hv).1
          rw [nv_len, plen] at this; exact this
        have hvn : (nv (prt t Rs i))[k']? = some (.int ((nx t (off Rs i + k') : Nat) : Int)) := by
          rw [← prt_nx hRi hk]
          refine nv_get ?_
          show _ = some ((prt t Rs i).getD k' 0)
          rw [List.getD_eq_getElem?_getD, List.getElem?_eq_getElem (by omega)]; rfl
        rw [hvn] at hv
        cases hv
        have pget : ∀ {j : Nat}, j < Ri.1.length → (nv (prt t Rs i))[j]? = some (.int ((nx t (off Rs i + j) : Nat) : Int)) := fun {j} hj => by
          rw [← prt_nx hRi hj]
          refine nv_get ?_
          show _ = some ((prt t Rs i).getD j 0)
          rw [List.getD_eq_getElem?_getD, List.getElem?_eq_getElem (by omega)]; rfl
        have uT := same_upd (o := tupE T' [.int (k' : Int), .int ((nx t (off Rs i + k') : Nat) : Int)]) (Same.refl H7) hT
        refine ⟨T', _, rfl, upd_same, rfl, _, _, rfl, _, _, rfl, rfl, ?_⟩
        revert uT
        generalize (upd H7 T' (tupE T' [.int (k' : Int), .int ((nx t (off Rs i + k') : Nat) : Int)])) = H8
        intro uT
        have b8 : But2 pr pu H6 H8 := fun c o h1 h2 h => uT _ _ (b7 c o h1 h2 h)
        have hpr8 := uT _ _ hpr7
        have hpu8 := uT _ _ hpu7
        have hkN : off Rs i + k' < N := by omega
        have hnm : nx t (off Rs i + k') < N := rt.nlt hkN
        have v1 := hSi.row.nlt hk
        have v2 := hSi.col.nlt hk
        have g18 := b8 _ _ nb1 nb2 (s6 _ _ g1)
        have g28 := b8 _ _ n11 n12 (s6 _ _ g2)
        have g38 := b8 _ _ n21 n22 (s6 _ _ g3)
        have hlq8 := b8 _ _ nq1 nq2 hlq6
        refine ⟨_, rfl, _, rfl, b, _, 0, _, rfl, rfl, SqT.of g18, atI_nat (j := 0) rfl, _, rfl, q1, _, _, _, rfl, rfl, SqT.of g28, atI_nat (nv_get (hSi.row.get hk)), lq, _, _, _, rfl, rfl, SqL.of hlq8, atI_nat (pget v1), _, rfl, _, rfl, pr, _, _, nx t (off Rs i + k'), rfl, rfl, hpr8, ?_, ?_⟩
        · unfold ixN
          rw [if_pos (by omega), if_pos (by rw [nv_len, lR']; omega)]
          simp
        rw [nv_set]
        have g19 : (upd H8 pr (.lst (nv (R'.set (nx t (off Rs i + k')) (nx t (off Rs i + nx Ri.1 k')))))) b = _ := (upd_ne nb1).trans g18
        have g29 : (upd H8 pr (.lst (nv (R'.set (nx t (off Rs i + k')) (nx t (off Rs i + nx Ri.1 k')))))) q2 = _ := (upd_ne n21).trans g38
        have hlq9 : (upd H8 pr (.lst (nv (R'.set (nx t (off Rs i + k')) (nx t (off Rs i + nx Ri.1 k')))))) lq = _ := (upd_ne nq1).trans hlq8
        have hpu9 : (upd H8 pr (.lst (nv (R'.set (nx t (off Rs i + k')) (nx t (off Rs i + nx Ri.1 k')))))) pu = _ := (upd_ne npu.symm).trans hpu8
        refine ⟨_, rfl, _, rfl, b, _, 1, _, rfl, rfl, SqT.of g19, atI_nat (j := 1) rfl, _, rfl, q2, _, _, _, rfl, rfl, SqT.of g29, atI_nat (nv_get (hSi.col.get hk)), lq, _, _, _, rfl, rfl, SqL.of hlq9, atI_nat (pget v2), _, rfl, _, rfl, pu, _, _, nx t (off Rs i + k'), rfl, rfl, hpu9, ?_, ?_⟩
        · unfold ixN
          rw [if_pos (by omega), if_pos (by rw [nv_len, lU']; omega)]
          simp
        rw [nv_set]
        refine ⟨R'.set (nx t (off Rs i + k')) (nx t (off Rs i + nx Ri.1 k')), U'.set (nx t (off Rs i + k')) (nx t (off Rs i + nx Ri.2 k')), _, _, rfl, fun c o h1 h2 h => by rw [upd_ne h2, upd_ne h1]; exact b8 c o h1 h2 h, by rw [upd_ne npu, upd_same], upd_same, by rw [List.length_set]; exact lR', by rw [List.length_set]; exact lU', fun j R9 hj hR9 k9 hk9 => ?_, fun k9 hk9 => ?_⟩
        · have h9 : off Rs j + k9 < off Rs i := by
            have := off_mono (Rs := Rs) (show j + 1 ≤ i from hj)
            rw [off_succ hR9] at this
            omega
          have ne : nx t (off Rs j + k9) ≠ nx t (off Rs i + k') := fun z => by
            have := rt.inj (by omega) hkN z
            omega
          rw [nx_setB (by rw [lR']; exact hnm), nx_setB (by rw [lU']; exact hnm), if_neg ne, if_neg ne]
          exact hE' j R9 hj hR9 k9 hk9
        · rw [nx_setB (by rw [lR']; exact hnm), nx_setB (by rw [lU']; exact hnm)]
          by_cases e : k9 = k'
          · subst e; rw [if_pos rfl, if_pos rfl]; exact ⟨rfl, rfl⟩
          · have ne : nx t (off Rs i + k9) ≠ nx t (off Rs i + k') := fun z => by
              have := rt.inj (by omega) hkN z
              omega
            rw [if_neg ne, if_neg ne]
            exact hF k9 (by omega)
      · rintro σ H7 ⟨R', U', o10, o11, rfl, b7, hpr7, hpu7, lR', lU', hE', hF⟩
        rw [nv_len, plen] at hF
        have hlp7 := b7 _ _ nlp1.symm nlp2.symm (s6 _ _ hlp5)
        have hlq7 := b7 _ _ nq1 nq2 hlq6
        refine ⟨_, rfl, .inl ⟨rfl, _, SqL.of hlp7⟩, _, rfl, lq, prt t Rs i, rfl, .inl (SqL.of hlq7), by omega, fun g S hg pS sS => ?_⟩
        have ng1 : g ≠ pr := (ne_of_none hpr7 hg).symm
        have ng2 : g ≠ pu := (ne_of_none hpu7 hg).symm
        have ng3 : g ≠ lp := (ne_of_none hlp7 hg).symm
        refine ⟨lp, _, _, rfl, rfl, by rw [upd_ne ng3.symm]; exact hlp7, by rw [List.length_map]; exact small1000 (by omega), ?_⟩
        have old : ∀ a o, a ≠ pr → a ≠ pu → a ≠ lp → H6 a = some o → (upd (upd H7 g (.lst (nv S))) lp (.lst (gs.map V.ref ++ [.ref g]))) a = some o := fun a o h1 h2 h3 h => by
          have := b7 a o h1 h2 h
          rw [upd_ne h3, upd_ne (ne_of_none this hg)]; exact this
        refine ⟨R', U', gs ++ [g], Ss ++ [S], _, _, _, _, rfl, fun a o h => ?_, by rw [upd_ne nlp1, upd_ne ng1.symm]; exact hpr7, by rw [upd_ne nlp2, upd_ne ng2.symm]; exact hpu7, by rw [upd_same, List.map_append]; rfl, lR', lU', by rw [List.length_append, lgs]; rfl, by rw [List.length_append, lSs]; rfl, fun a ha => ?_, fun j a M h1 h2 => ?_, fun j M h => ?_, fun j R9 hj hR9 k9 hk9 => ?_⟩
        · exact old a o (ne_of_none h hpr0) (ne_of_none h hpu2) (ne_of_none h hlp2) (s6 _ _ (s5 _ _ h))
        · rcases List.mem_append.mp ha with h | h
          · exact hgs a h
          · rw [List.mem_singleton.mp h]; exact ⟨ng1, ng2, ng3⟩
        · rcases Nat.lt_or_ge j i with c' | c'
          · rw [List.getElem?_append_left (by omega)] at h1 h2
            obtain ⟨m1, m2, m3⟩ := hgs a (List.mem_of_getElem? h1)
            exact old a _ m1 m2 m3 (s6 _ _ (hLs j a M h1 h2))
          · have hj : j = i := by
              have := (List.getElem?_eq_some_iff.mp h1).1
              rw [List.length_append, lgs] at this
              simp at this; omega
            subst hj
            rw [List.getElem?_append_right (by omega), lgs, Nat.sub_self] at h1
            rw [List.getElem?_append_right (by omega), lSs, Nat.sub_self] at h2
            cases h1; cases h2
            rw [upd_ne ng3, upd_same]
        · rcases Nat.lt_or_ge j i with c' | c'
          · rw [List.getElem?_append_left (by omega)] at h
            exact hSs j M h
          · have hj : j = i := by
              have := (List.getElem?_eq_some_iff.mp h).1
              rw [List.length_append, lSs] at this
              simp at this; omega
            subst hj
            rw [List.getElem?_append_right (by omega), lSs, Nat.sub_self] at h
            cases h
            exact ⟨pS, sS⟩
        · rcases Nat.lt_or_ge j i with c' | c'
          · exact hE' j R9 c' hR9 k9 hk9
          · have hj : j = i := by omega
            subst hj
            rw [hRi] at hR9
            cases hR9
            exact hF k9 hk9
    · rintro σ H5 ⟨R, U, gs, Ss, o8, o9, o10, o11, rfl, s5, hpr5, hpu5, hlp5, lR, lU, lgs, lSs, hgs, hLs, hSs, hE⟩
      rw [List.length_map, hsl] at lgs lSs hE
      have hB := bes_of rt hN hSh lR lU fun j R9 hR9 k9 hk9 => hE j R9 (List.getElem?_eq_some_iff.mp hR9).1 hR9 k9 hk9
      refine ⟨_, rfl, _, rfl, _, rfl, lp, gs, Ss.map fun S => S.map fun (x : Nat) => (x : Int), rfl, SqL.of hlp5, by omega, fun j hj => ?_, fun l π hl hπ hpw => ⟨three, fun tt htt => ?_⟩⟩
      · have h1 : gs[j]? = some gs[j] := List.getElem?_eq_getElem hj
        have h2 : Ss[j]? = some (Ss[j]'(by omega)) := List.getElem?_eq_getElem _
        have h3 := hLs j _ _ h1 h2
        rw [List.getD_eq_getElem?_getD, h1, List.getD_eq_getElem?_getD, List.getElem?_map, h2]
        rw [nv_intsB] at h3
        exact h3
      have hπl : ∀ j ∈ π, j < Rs.length := fun j hj => by
        have := List.mem_range.mp (hπ.mem_iff.mp hj); omega
      have gS : ∀ {j : Nat}, j < Rs.length → ∃ S, Ss[j]? = some S ∧ Ss.getD j [] = S ∧ S.Perm (prt t Rs j) ∧ S.Pairwise (· ≤ ·) := fun {j} hj => by
        have h2 : Ss[j]? = some (Ss[j]'(by omega)) := List.getElem?_eq_getElem _
        exact ⟨_, h2, by rw [List.getD_eq_getElem?_getD, h2]; rfl, hSs j _ h2⟩
      have eL : (π.map fun j => Ss.getD j []) = grp N R U := by
        refine hB.grp (fun M => ?_) (by rw [List.length_map, List.length_map, List.length_range, hπ.length_eq, List.length_range, lgs]) ?_
        · rw [List.mem_map]
          constructor
          · rintro ⟨j, hj, e⟩
            obtain ⟨S, _, e2, e3, e4⟩ := gS (hπl j hj)
            rw [← e, e2]
            exact ⟨prt t Rs j, List.mem_map.mpr ⟨j, List.mem_range.mpr (hπl j hj), rfl⟩, e3, e4⟩
          · rintro ⟨q, hq, e3, e4⟩
            obtain ⟨j, hj, rfl⟩ := List.mem_map.mp hq
            have hj := List.mem_range.mp hj
            obtain ⟨S, _, e2, e5, e6⟩ := gS hj
            exact ⟨j, hπ.mem_iff.mpr (List.mem_range.mpr (by omega)), by rw [e2]; exact sorted_unique (e5.trans e3.symm) e6 e4⟩
        · rw [List.map_map]
          refine List.pairwise_map.mpr (List.Pairwise.imp_of_mem (fun {x y} hx hy hlt => ?_) hpw)
          obtain ⟨S, h1, e1, p1, _⟩ := gS (hπl x hx)
          obtain ⟨S', h1', e1', p1', _⟩ := gS (hπl y hy)
          have ne : ∀ {j : Nat} {S : List Nat}, j < Rs.length → S.Perm (prt t Rs j) → S ≠ [] := fun {j S} hj pS e => by
            rw [e] at pS
            exact hB.ne (List.mem_map.mpr ⟨j, List.mem_range.mpr hj, rfl⟩) pS.symm.eq_nil
          rw [List.getD_eq_getElem?_getD, List.getD_eq_getElem?_getD, List.getElem?_map, List.getElem?_map, h1, h1'] at hlt
          show hd0 (Ss.getD x []) ≤ hd0 (Ss.getD y [])
          rw [e1, e1']
          exact lex_hd (ne (hπl x hx) p1) (ne (hπl y hy) p1') hlt
      have sl := same_upd (o := .lst ((π.map fun i => gs.getD i 0).map V.ref)) (Same.refl H5) hl
      have hl6 : (upd H5 l (.lst ((π.map fun i => gs.getD i 0).map V.ref))) l = some (.lst ((π.map fun i => gs.getD i 0).map V.ref)) := upd_same
      revert sl hl6 htt
      generalize (upd H5 l (.lst ((π.map fun i => gs.getD i 0).map V.ref))) = H6
      intro htt sl hl6
      have st := same_upd (o := .tup [.ref pr, .ref pu, .ref l]) (Same.refl H6) htt
      refine k _ tt pr pu l (π.map fun i => gs.getD i 0) R U _ (s02.trans (s5.trans (sl.trans st))) upd_same (st _ _ (sl _ _ hpr5)) (st _ _ (sl _ _ hpu5)) (st _ _ hl6) ⟨by rw [← eL, List.length_map, List.length_map], fun j g S h1 h2 => ?_⟩ hB (by rw [List.length_map, List.length_range]) (s02.free hpr0) (s02.free hpu2) (s02.free (s5.free hl)) npu
      rw [← eL, List.getElem?_map] at h2
      rw [List.getElem?_map] at h1
      obtain ⟨j', hj', rfl⟩ := Option.map_eq_some_iff.mp h1
      rw [hj'] at h2
      cases h2
      have hjl := hπl j' (List.mem_of_getElem? hj')
      have h3 : gs[j']? = some (gs[j']'(by omega)) := List.getElem?_eq_getElem _
      obtain ⟨S, h4, e4, _⟩ := gS hjl
      dsimp only
      rw [List.getD_eq_getElem?_getD, h3, e4]
      exact st _ _ (sl _ _ (hLs j' _ _ h3 h4))
end
end K1
namespace K1
open PySem L2 Sq
section
variable {P : Program} {w : World} {K : PySem.W.Frag} {mg : Str → Option Value} {base : Heap}
end
end K1
namespace Sq
open PySem
def sg (k : Nat) : Nat := if k < 10 then 48 + k else 87 + k
def txt (l : List Nat) : Str := ⟨l.toArray⟩
theorem signs_eq : (Str.ofString "0123456789abcdefghijklmnopqrstuvwxyz") = txt ((List.range 36).map sg) := by decide +kernel
theorem txt_len (l : List Nat) : (txt l).length = l.length := by simp [txt, Str.length]
theorem txt_app (a b : List Nat) : txt a ++ txt b = txt (a ++ b) := Str.ext' (by rw [Str.cps_append]; simp [txt])
theorem txt_cps (l : List Nat) : (txt l).cps.toList = l := by simp [txt]
theorem txt_of (z : Str) : txt z.cps.toList = z := Str.ext' (by simp [txt])
theorem txt_inj {a b : List Nat} (h : txt a = txt b) : a = b := by rw [← txt_cps a, h, txt_cps]
theorem txt_one (c : Nat) : (⟨#[c]⟩ : Str) = txt [c] := rfl
theorem txt_get (l : List Nat) (i : Nat) : (txt l).cps[i]? = l[i]? := by simp [txt]
theorem empty_eq : (Str.ofString "") = txt [] := by decide +kernel
theorem blank_eq : (Str.ofString " ") = txt [32] := by decide +kernel
theorem join_signs : ∀ l : List Nat, Txt.join (txt []) (l.map fun c => txt [c]) = txt l := fun l => by
  show Builtin.Str.glued _ _ = _
  rw [StrLaws.glued_eq_join]
  induction l with
  | nil => rfl
  | cons c l ih => cases l with
    | nil => rfl
    | cons d l =>
      show txt [c] ++ txt [] ++ Str.join (txt []) ((d :: l).map fun c => txt [c]) = _
      rw [ih, txt_app, txt_app]; rfl
theorem join_two (a b s : List Nat) : Txt.join (txt s) [txt a, txt b] = txt (a ++ s ++ b) := by
  show Builtin.Str.glued _ _ = _
  rw [StrLaws.glued_eq_join]
  show txt a ++ txt s ++ txt b = _
  rw [txt_app, txt_app]
def joinL (c : Nat) : List (List Nat) → List Nat
  | [] => []
  | [x] => x
  | x :: y :: r => x ++ c :: joinL c (y :: r)
theorem join_cps (c : Nat) : ∀ ps : List Str, (Str.join (txt [c]) ps).cps.toList = joinL c (ps.map (·.cps.toList))
  | [] => rfl
  | [x] => rfl
  | x :: y :: r => by
    show (x ++ txt [c] ++ Str.join (txt [c]) (y :: r)).cps.toList = _
    rw [Str.cps_append, Str.cps_append, Array.toList_append, Array.toList_append, join_cps c (y :: r)]
    simp [joinL, txt]
theorem cut_unique {c : Nat} : ∀ {x y A B : List Nat}, c ∉ x → c ∉ y → x ++ c :: A = y ++ c :: B → x = y ∧ A = B
  | [], [], A, B, _, _, h => ⟨rfl, by simpa using h⟩
  | [], b :: y, A, B, _, hy, h => by
    have : c = b := by simpa using (List.cons.inj h).1
    exact absurd (by simp [this]) hy
  | a :: x, [], A, B, hx, _, h => by
    have : a = c := by simpa using (List.cons.inj h).1
    exact absurd (by simp [this]) hx
  | a :: x, b :: y, A, B, hx, hy, h => by
    obtain ⟨e1, e2⟩ := List.cons.inj h
    obtain ⟨q1, q2⟩ := cut_unique (fun z => hx (List.mem_cons_of_mem _ z)) (fun z => hy (List.mem_cons_of_mem _ z)) e2
    exact ⟨by rw [e1, q1], q2⟩
theorem joinL_inj {c : Nat} : ∀ {ps qs : List (List Nat)}, ps ≠ [] → qs ≠ [] → (∀ p ∈ ps, c ∉ p) → (∀ p ∈ qs, c ∉ p) → joinL c ps = joinL c qs → ps = qs
  | [], _, h, _, _, _, _ => absurd rfl h
  | _ :: _, [], _, h, _, _, _ => absurd rfl h
  | [x], [y], _, _, _, _, e => by show [x] = [y]; rw [show x = y from e]
  | [x], y :: y2 :: r, _, _, hp, _, e => by
    have e : x = y ++ c :: joinL c (y2 :: r) := e
    exact absurd (by rw [e]; simp) (hp x (by simp))
  | x :: x2 :: r, [y], _, _, _, hq, e => by
    have e : x ++ c :: joinL c (x2 :: r) = y := e
    exact absurd (by rw [← e]; simp) (hq y (by simp))
  | x :: x2 :: r, y :: y2 :: r', _, _, hp, hq, e => by
    have e : x ++ c :: joinL c (x2 :: r) = y ++ c :: joinL c (y2 :: r') := e
    obtain ⟨e1, e2⟩ := cut_unique (hp x (by simp)) (hq y (by simp)) e
    rw [e1, joinL_inj (by simp) (by simp) (fun p h => hp p (List.mem_cons_of_mem _ h)) (fun p h => hq p (List.mem_cons_of_mem _ h)) e2]
theorem split_is {c : Nat} {z : List Nat} {qs : List (List Nat)} (h0 : qs ≠ []) (hq : ∀ p ∈ qs, c ∉ p) (e : joinL c qs = z) : Txt.split (txt z) (txt [c]) = qs.map txt := by
  have h1 := StrLaws.join_split (txt z) (txt [c])
  have h2 := StrLaws.split_free (txt z) c
  have h3 : 1 ≤ (Txt.split (txt z) (txt [c])).length := PyProof.Rows.split_pos _ _
  have h4 := congrArg (fun s : Str => s.cps.toList) h1
  rw [join_cps, txt_cps] at h4
  have h5 : (Txt.split (txt z) (txt [c])).map (·.cps.toList) = qs := joinL_inj (by intro q; rw [List.map_eq_nil_iff] at q; rw [q] at h3; simp at h3) h0 (fun p hp => by
    obtain ⟨s, hs, rfl⟩ := List.mem_map.mp hp
    exact h2 s hs) hq (h4.trans e.symm)
  rw [← h5, List.map_map]
  have : (txt ∘ fun s : Str => s.cps.toList) = id := funext txt_of
  rw [this, List.map_id]
theorem sg_inj {a b : Nat} (h : sg a = sg b) : a = b := by unfold sg at h; split at h <;> split at h <;> omega
theorem occ_sign : ∀ k ∈ List.range 36, Builtin.Str.occurrences (txt ((List.range 36).map sg)) (txt [sg k]) 0 36 1 = [k] := by decide +kernel
theorem signs_len : (txt ((List.range 36).map sg)).length = 36 := by decide +kernel
theorem signs_get {k : Nat} (h : k < 36) : (txt ((List.range 36).map sg)).cps[k]? = some (sg k) := by
  rw [txt_get, List.getElem?_map, List.getElem?_range h]; rfl
/-- the word of a row -/
def word (r : List Nat) : List Nat := r.map sg
theorem word_len (r : List Nat) : (word r).length = r.length := by simp [word]
end Sq
namespace K1
open PySem L2 Sq
abbrev SG : Str := "0123456789abcdefghijklmnopqrstuvwxyz"
theorem SG_eq : SG = txt ((List.range 36).map sg) := signs_eq
theorem SG_len : SG.length = 36 := by rw [SG_eq]; exact signs_len
theorem SG_get {k : Nat} (h : k < 36) : atI SG.cps.toList (k : Int) = some (sg k) := by
  refine atI_nat ?_
  have := signs_get h
  rw [← SG_eq] at this
  rw [← this]; simp
def tv (l : List Nat) : List V := l.map fun c => V.str (txt [c])
theorem tv_len (l : List Nat) : (tv l).length = l.length := by simp [tv]
theorem tv_get {l : List Nat} {i c : Nat} (h : l[i]? = some c) : (tv l)[i]? = some (.str (txt [c])) := by simp [tv, h]
theorem tv_strs (l : List Nat) : tv l = (l.map fun c => txt [c]).map V.str := by simp [tv]
theorem tv_sum (l : List Nat) : ((l.map fun c => txt [c]).map (·.length)).sum = l.length := by
  induction l with
  | nil => rfl
  | cons c l ih => simp only [List.map_cons, List.sum_cons, List.length_cons, ih, txt_len]; simp; omega
/-- ''.join of signs -/
theorem joinSigns {K : PySem.W.Frag} {H : Hp} {d : Addr} {l : List Nat} {Q : VK} (h : H d = some (.lst (tv l))) (hn : l.length ≤ 1000) (q : Q (.str (txt l)) H) : rJoin K (.str (Str.ofString "")) [.ref d] H Q := by
  refine ⟨_, d, l.map fun c => txt [c], rfl, rfl, .inl (SqL.of (by rw [← tv_strs]; exact h)), ?_, ?_⟩
  · rw [tv_sum, List.length_map, empty_eq, txt_len]; simp; omega
  · rw [empty_eq, join_signs]; exact q
/-- [SIGNS[square] for square in row], the signs in z -/
theorem compSigns {K : PySem.W.Frag} {Hc : Hp} {p : Addr} {r : List Nat} {j : Nat} {pull : List Nat} {tz : TE} {Q : VK} {σ : St} (hj : σ[j]? = some (some (.ref p))) (hp : SqT K Hc p (nv r) ∨ SqL K Hc p (nv r)) (hr : ∀ x ∈ r, x < 36) (hn : r.length ≤ 1000)
    (hz : ∀ o H Q, Q (.str SG) H → tz (o :: (bst 1 pull σ).tail) H Q)
    (k : ∀ (H' : Hp) (d : Addr), Same Hc H' → H' d = some (.lst (tv (word r))) → Q (.ref d) H') :
    tComp (fun σ H R => iTup K (tVar j) σ H R ∨ iList K (tVar j) σ H R) 1 pull (gName 0) (tOp rIxS tz (tVar 0)) σ Hc Q := by
  have core : ∀ (J : It), (∀ H3, Same Hc H3 → (∀ i (hi : i < r.length), J.go i H3 ∧ ∀ x H2, J.yld i H3 x H2 → H2 = H3 ∧ x = .int (r[i] : Int)) ∧ J.stop r.length H3) → ∀ d, Hc d = none →
      ∃ W : Nat → Nat → St → Hp → Prop, (∃ m, W 0 m (bst 1 pull σ) (upd Hc d (.lst []))) ∧ ∀ i m σ' H', W i m σ' H' →
        (J.stop i H' ∧ Q (.ref d) H') ∨ (J.go i H' ∧ ∀ x H2, J.yld i H' x H2 → gName 0 x σ' H2 fun σ3 H3 => tOp rIxS tz (tVar 0) σ3 H3 fun y H4 => ∃ xs, H4 d = some (.lst xs) ∧ xs.length < sizeLine ∧ ∃ m', m' < m ∧ W (i + 1) m' σ3 (upd H4 d (.lst (xs ++ [y])))) := by
    intro J hJ d hd
    refine comp_by (Q := fun d H' => Q (.ref d) H') r.length (tv (word r)) (by rw [tv_len, word_len]) (fun i σ' H3 => ∃ o, σ' = o :: (bst 1 pull σ).tail ∧ Same Hc H3) ⟨none, rfl, same_upd (Same.refl _) hd⟩ ?_ ?_
    · rintro i σ' H3 hi ⟨o, rfl, s3⟩ hd3
      obtain ⟨g1, g2⟩ := (hJ H3 s3).1 i hi
      refine ⟨g1, fun x H4 hy => ?_⟩
      obtain ⟨e1, e2⟩ := g2 x H4 hy
      subst e1 e2
      have hlt := hr _ (List.getElem_mem hi)
      refine hz _ _ _ ⟨_, rfl, _, _, sg r[i], rfl, rfl, by rw [SG_len]; decide, SG_get hlt, cpost hi hn hd3 (tv_get ?_) ⟨_, rfl, same_upd s3 hd⟩⟩
      unfold word
      rw [List.getElem?_map, List.getElem?_eq_getElem hi]; rfl
    · rintro σ' H3 ⟨o, rfl, s3⟩ hd3
      exact ⟨(hJ H3 s3).2, k H3 d s3 hd3⟩
  rcases hp with h | h
  · refine .inl ⟨_, hj, p, rfl, ⟨_, h⟩, core _ fun H3 s3 => ⟨fun i hi => ⟨⟨_, _, Same.tseq s3 h, nv_get (List.getElem?_eq_getElem hi)⟩, fun x H2 ⟨e, hy⟩ => ⟨e, ?_⟩⟩, ⟨_, Same.tseq s3 h, by rw [nv_len]; exact Nat.le_refl _⟩⟩⟩
    have := hy _ (Same.tseq s3 h)
    rw [nv_get (List.getElem?_eq_getElem hi)] at this
    exact (Option.some.inj this).symm
  · refine .inr ⟨_, hj, p, rfl, ⟨_, h⟩, core _ fun H3 s3 => ⟨fun i hi => ⟨⟨_, _, s3.seq h, nv_get (List.getElem?_eq_getElem hi)⟩, fun x H2 ⟨e, hy⟩ => ⟨e, ?_⟩⟩, ⟨_, s3.seq h, by rw [nv_len]; exact Nat.le_refl _⟩⟩⟩
    have := hy _ (s3.seq h)
    rw [nv_get (List.getElem?_eq_getElem hi)] at this
    exact (Option.some.inj this).symm
theorem PI.or' {X : Cx} {tg iter : Expr} {w1 w2 : TI} (h1 : PI X tg iter w1) (h2 : PI X tg iter w2) : PI X tg iter (fun σ H R => w1 σ H R ∨ w2 σ H R) := by
  intro pins s σ H R I h
  rcases h with h | h
  · exact h1 pins s σ H R I h
  · exact h2 pins s σ H R I h
/-- is it a word of signs -/
def wordOk (z : List Nat) : Bool := decide (1 ≤ z.length) && decide (z.length ≤ 36) && z.all fun c => decide (c ∈ (List.range 36).map sg)
def spIsWord : Sp := fun vs H Q _ => ∃ z : List Nat, vs = [.str (txt z)] ∧ z.length ≤ 1000 ∧ ∀ H' : Hp, Same H H' → Q (.bl (wordOk z)) H'
def pairOk : List (List Nat) → Bool
  | [a, b] => decide (a.length = b.length) && wordOk a && wordOk b
  | _ => false
def wv (ws : List (List Nat)) : List V := ws.map fun z => V.str (txt z)
def spIsPair (K : PySem.W.Frag) : Sp := fun vs H Q _ => ∃ (p : Addr) (ws : List (List Nat)), vs = [.ref p] ∧ SqL K H p (wv ws) ∧ (∀ z ∈ ws, z.length ≤ 1000) ∧ ∀ H' : Hp, Same H H' → Q (.bl (pairOk ws)) H'
def spSquaresOf : Sp := fun vs H Q _ => ∃ r : List Nat, vs = [.str (txt (word r))] ∧ (∀ x ∈ r, x < 36) ∧ r.length ≤ 1000 ∧ ∀ (H' : Hp) (l : Addr), Same H H' → H l = none → H' l = some (.lst (nv r)) → Q (.ref l) H'
theorem compIn {K : PySem.W.Frag} {Hc : Hp} {z : List Nat} {j : Nat} {Q : VK} {σ : St} (hj : σ[j]? = some (some (.str (txt z)))) (hn : z.length ≤ 1000)
    (k : ∀ (H' : Hp) (d : Addr), Same Hc H' → H' d = some (.lst ((z.map fun c => decide (c ∈ (List.range 36).map sg)).map V.bl)) → Q (.ref d) H') :
    tComp (iStr (tVar j)) 1 [] (gName 0) (tOp (fun x y H Q => ∃ i j, x = .str i ∧ y = .str j ∧ Q (.bl (!(Builtin.Str.occurrences j i 0 j.length 1).isEmpty)) H) (tVar 0) (tC (.str SG))) σ Hc Q := by
  refine ⟨_, hj, txt z, rfl, fun d hd => ?_⟩
  refine comp_by (Q := fun d H' => Q (.ref d) H') z.length ((z.map fun c => decide (c ∈ (List.range 36).map sg)).map V.bl) (by simp) (fun i σ H3 => ∃ o, σ = [o] ∧ Same Hc H3) ⟨none, rfl, same_upd (Same.refl _) hd⟩ ?_ ?_
  · rintro i σ H3 hi ⟨o, rfl, s3⟩ hd3
    refine ⟨by show i < (txt z).length; rw [txt_len]; exact hi, fun y H4 ⟨e, c, hc, ey⟩ => ?_⟩
    subst e ey
    rw [txt_get] at hc
    refine ⟨_, rfl, _, _, rfl, rfl, cpost hi hn hd3 ?_ ⟨_, rfl, same_upd s3 hd⟩⟩
    rw [StrLaws.found_one, SG_eq, txt_cps]
    simp [hc]
  · rintro σ H3 ⟨o, rfl, s3⟩ hd3
    exact ⟨by show (txt z).length = _; rw [txt_len], k H3 d s3 hd3⟩
theorem compIndex {K : PySem.W.Frag} {Hc : Hp} {r : List Nat} {j : Nat} {Q : VK} {σ : St} (hj : σ[j]? = some (some (.str (txt (word r))))) (hr : ∀ x ∈ r, x < 36) (hn : r.length ≤ 1000)
    (k : ∀ (H' : Hp) (d : Addr), Same Hc H' → Hc d = none → H' d = some (.lst (nv r)) → Q (.ref d) H') :
    tComp (iStr (tVar j)) 1 [] (gName 0) (tBM K "str" rIndexS (tC (.str SG)) (tCons (tVar 0) tNil)) σ Hc Q := by
  refine ⟨_, hj, txt (word r), rfl, fun d hd => ?_⟩
  refine comp_by (Q := fun d H' => Q (.ref d) H') r.length (nv r) (nv_len r) (fun i σ H3 => ∃ o, σ = [o] ∧ Same Hc H3) ⟨none, rfl, same_upd (Same.refl _) hd⟩ ?_ ?_
  · rintro i σ H3 hi ⟨o, rfl, s3⟩ hd3
    refine ⟨by show i < (txt _).length; rw [txt_len, word_len]; exact hi, fun y H4 ⟨e, c, hc, ey⟩ => ?_⟩
    subst e ey
    rw [txt_get] at hc
    have hc : c = sg r[i] := by
      unfold word at hc
      rw [List.getElem?_map, List.getElem?_eq_getElem hi] at hc
      exact (Option.some.inj hc).symm
    subst hc
    have hlt := hr _ (List.getElem_mem hi)
    refine ⟨rfl, _, rfl, SG, txt [sg r[i]], r[i], [], rfl, rfl, ?_, cpost hi hn hd3 (nv_get (List.getElem?_eq_getElem hi)) ⟨_, rfl, same_upd s3 hd⟩⟩
    rw [SG_len, SG_eq]
    exact occ_sign _ (List.mem_range.mpr hlt)
  · rintro σ H3 ⟨o, rfl, s3⟩ hd3
    exact ⟨by show (txt _).length = _; rw [txt_len, word_len], k H3 d s3 hd hd3⟩
section
variable {P : Program} {w : World} {K : PySem.W.Frag} {mg : Str → Option Value} {base : Heap}
theorem ndSi : (["sign"] : List Str).Nodup := by decide +kernel
theorem scIsWord : FnScope ["word"] ["word"] (defScope sIsWord) := ⟨rfl, rfl, rfl, by decide +kernel, rfl, by decide +kernel, by decide +kernel⟩
theorem line1000 {n : Nat} (h : n ≤ 1000) : n ≤ sizeLine := Nat.le_of_lt (small1000 h)
theorem all_map_id {α : Type} (p : α → Bool) (l : List α) : (l.map p).all id = l.all p := by rw [List.all_map]; rfl
theorem ok_isWord {f : Addr} {fd : FuncData} {tS : Tok} (T : Bi mg) (hS : mg "SIGNS" = some (.str SG tS)) (F : Fn K mg "is_word" sIsWord ["word"] f fd) : FnOk P w K mg base CX0 1 f fd ["word"] spIsWord := by
  refine F.F.ok scIsWord (fun vs H Q E h => ?_) (fun cdv A outer s H vs Q E hr h => ?_)
  · obtain ⟨z, rfl, _⟩ := h; rfl
  · obtain ⟨z, rfl, hn, k⟩ := h
    refine ⟨_, pss_one (ps_ret (pe_and (pe_chain op_le op_le pe_int (pe_callB call_len_str (by rfl) T.len PySem.boot_len (pa_cons (pv 0) pa_nil)) (pe_callB call_len_str (by rfl) T.len PySem.boot_len (pa_cons (pe_glob (v := .str SG) (by rfl) hS ⟨_, rfl⟩) pa_nil)))
      (pe_one (pe_callB (call_all_bools rfl) (by rfl) T.all boot_all (pa_cons
      (pe_comp (N := ["word"]) (names := (defScope sIsWord).names) (N' := ["sign"]) (k := 1) (pull := []) (te := tOp (fun x y H Q => ∃ i j, x = .str i ∧ y = .str j ∧ Q (.bl (!(Builtin.Str.occurrences j i 0 j.length 1).isEmpty)) H) (tVar 0) (tC (.str SG))) rfl
        ⟨by rfl, by decide +kernel, by decide +kernel, by rfl, by decide +kernel, by decide +kernel⟩ rfl rfl (pi_str (pv 0)) (fun _ _ _ _ _ _ => pg_name (i := 0) ndSi rfl (Or.inl rfl))
        (fun _ _ _ _ _ _ => pe_cmpR op_in_str (pv 0) (pe_glob (v := .str SG) (by rfl) hS ⟨_, rfl⟩) (by with_unfolding_all rfl))) pa_nil))))), ?_⟩
    refine ⟨_, rfl, _, rfl, by rw [txt_len]; exact line1000 hn, _, _, rfl, rfl, _, rfl, ?_⟩
    rw [txt_len]
    have k' : ∀ b, wordOk z = b → ∀ H', Same H H' → Q (.bl b) H' := fun b e H' s' => by rw [← e]; exact k H' s'
    refine ite2 (fun h1 => ?_) (fun h1 => ?_)
    · have h1 : (1 : Int) ≤ (z.length : Int) := of_decide_eq_true h1
      refine ⟨_, rfl, by rw [SG_len]; decide, _, _, rfl, rfl, _, rfl, ?_⟩
      rw [SG_len]
      refine ite2 (fun h2 => ?_) (fun h2 => ?_)
      · have h2 : (z.length : Int) ≤ ((36 : Nat) : Int) := of_decide_eq_true h2
        dsimp only [tCB, tCons, tNil]
        refine compIn (K := K) rfl hn fun H1 d s1 hd => ?_
        refine ⟨d, _, rfl, SqL.of hd, k' _ ?_ H1 s1⟩
        unfold wordOk
        rw [decide_eq_true (show 1 ≤ z.length by omega), decide_eq_true (show z.length ≤ 36 by omega), all_map_id]; rfl
      · have h2 : ¬ (z.length : Int) ≤ ((36 : Nat) : Int) := fun e => h2 (decide_eq_true e)
        refine k' false ?_ H (Same.refl H)
        unfold wordOk
        rw [decide_eq_false (show ¬ z.length ≤ 36 by omega)]; simp
    · have h1 : ¬ (1 : Int) ≤ (z.length : Int) := fun e => h1 (decide_eq_true e)
      refine ⟨_, rfl, ?_⟩
      refine iteF ?_
      refine k' false ?_ H (Same.refl H)
      unfold wordOk
      rw [decide_eq_false (show ¬ 1 ≤ z.length by omega)]; simp
theorem scIsPair : FnScope ["words"] ["words"] (defScope sIsPair) := ⟨rfl, rfl, rfl, by decide +kernel, rfl, by decide +kernel, by decide +kernel⟩
theorem wv_len (ws : List (List Nat)) : (wv ws).length = ws.length := by simp [wv]
theorem ok_isPair {f fw : Addr} {fd fdw : FuncData} (T : Bi mg) (F : Fn K mg "is_pair" sIsPair ["words"] f fd) (FW : Fn K mg "is_word" sIsWord ["word"] fw fdw) (GW : FnOk P w K mg base CX0 1 fw fdw ["word"] spIsWord) :
    FnOk P w K mg base CX0 2 f fd ["words"] (spIsPair K) := by
  refine F.F.ok scIsPair (fun vs H Q E h => ?_) (fun cdv A outer s H vs Q E hr h => ?_)
  · obtain ⟨p, ws, rfl, _⟩ := h; rfl
  · obtain ⟨p, ws, rfl, hp, hn, k⟩ := h
    refine ⟨_, pss_one (ps_ret (pe_and (pe_cmpR op_eq (pe_callB call_len_seq (by rfl) T.len PySem.boot_len (pa_cons (pv 0) pa_nil)) pe_int (nomark _))
      (pe_and (pe_cmpR op_eq (pe_callB call_len_str (by rfl) T.len PySem.boot_len (pa_cons (pe_ix ix_list (pv 0) pe_int (fun _ _ => rfl)) pa_nil)) (pe_callB call_len_str (by rfl) T.len PySem.boot_len (pa_cons (pe_ix ix_list (pv 0) pe_int (fun _ _ => rfl)) pa_nil)) (nomark _))
      (pe_and (pe_call GW hr rfl FW.m FW.F.kp FW.b .nil pass0 (pa_cons (pe_ix ix_list (pv 0) pe_int (fun _ _ => rfl)) pa_nil))
      (pe_one (pe_call GW hr rfl FW.m FW.F.kp FW.b .nil pass0 (pa_cons (pe_ix ix_list (pv 0) pe_int (fun _ _ => rfl)) pa_nil))))))), ?_⟩
    refine ⟨_, rfl, p, _, rfl, .inl hp, rfl, _, rfl, ?_⟩
    have k' : ∀ b, pairOk ws = b → ∀ H', Same H H' → Q (.bl b) H' := fun b e H' s' => by rw [← e]; exact k H' s'
    refine ite2 (fun h1 => ?_) (fun h1 => ?_)
    · have h1 : ws.length = 2 := by
        have := V.int.inj (of_decide_eq_true h1)
        rw [wv_len] at this; omega
      obtain ⟨a, b, rfl⟩ := len2 h1
      have ha := hn a (by simp)
      have hb := hn b (by simp)
      refine ⟨_, rfl, p, _, 0, _, rfl, rfl, hp, atI_nat (j := 0) rfl, _, rfl, by rw [txt_len]; exact line1000 ha, _, rfl, p, _, 1, _, rfl, rfl, hp, atI_nat (j := 1) rfl, _, rfl, by rw [txt_len]; exact line1000 hb, rfl, _, rfl, ?_⟩
      rw [txt_len, txt_len]
      refine ite2 (fun h2 => ?_) (fun h2 => ?_)
      · have h2 : a.length = b.length := by have := V.int.inj (of_decide_eq_true h2); omega
        refine ⟨_, rfl, p, _, 0, _, rfl, rfl, hp, atI_nat (j := 0) rfl, a, rfl, ha, fun H1 s1 => ?_⟩
        refine ⟨_, rfl, ?_⟩
        refine ite2 (fun h3 => ?_) (fun h3 => ?_)
        · refine ⟨_, rfl, p, _, 1, _, rfl, rfl, s1.seq hp, atI_nat (j := 1) rfl, b, rfl, hb, fun H2 s2 => ?_⟩
          refine k' _ ?_ H2 (s1.trans s2)
          show (decide (a.length = b.length) && wordOk a && wordOk b) = _; rw [decide_eq_true h2, h3]; rfl
        · refine k' false ?_ H1 s1
          show (decide (a.length = b.length) && wordOk a && wordOk b) = _; rw [Bool.not_eq_true] at h3; rw [h3]; simp
      · have h2 : ¬ a.length = b.length := fun e => h2 (by rw [e]; exact decide_eq_true rfl)
        refine k' false ?_ H (Same.refl H)
        show (decide (a.length = b.length) && wordOk a && wordOk b) = _; rw [decide_eq_false h2]; simp
    · refine k' false ?_ H (Same.refl H)
      unfold pairOk
      split
      · rename_i a b
        exact absurd (decide_eq_true (by rfl)) h1
      · rfl
theorem scSquaresOf : FnScope ["word"] ["word"] (defScope sSquaresOf) := ⟨rfl, rfl, rfl, by decide +kernel, rfl, by decide +kernel, by decide +kernel⟩
theorem ok_squaresOf {f : Addr} {fd : FuncData} {tS : Tok} (hS : mg "SIGNS" = some (.str SG tS)) (F : Fn K mg "squares_of" sSquaresOf ["word"] f fd) : FnOk P w K mg base CX0 1 f fd ["word"] spSquaresOf := by
  refine F.F.ok scSquaresOf (fun vs H Q E h => ?_) (fun cdv A outer s H vs Q E hr h => ?_)
  · obtain ⟨r, rfl, _⟩ := h; rfl
  · obtain ⟨r, rfl, hlt, hn, k⟩ := h
    refine ⟨_, pss_one (ps_ret (pe_comp (N := ["word"]) (names := (defScope sSquaresOf).names) (N' := ["sign"]) (k := 1) (pull := []) (te := tBM K "str" rIndexS (tC (.str SG)) (tCons (tVar 0) tNil)) rfl
        ⟨by rfl, by decide +kernel, by decide +kernel, by rfl, by decide +kernel, by decide +kernel⟩ rfl rfl (pi_str (pv 0)) (fun _ _ _ _ _ _ => pg_name (i := 0) ndSi rfl (Or.inl rfl))
        (fun _ _ _ _ _ _ => pe_bm PySem.F.plainAttrs_str PySem.F.slot_str_index PySem.F.type_str_index mt_indexS (pe_glob (v := .str SG) (by rfl) hS ⟨_, rfl⟩) (pa_cons (pv 0) pa_nil)))), ?_⟩
    exact compIndex rfl hlt hn fun H1 d s1 h0 hd => k H1 d s1 h0 hd
end
end K1
namespace K1
open PySem L2 Sq
def spLSigns : Sp := fun vs H Q _ => vs = [] ∧ Q (.str SG) H
def spTx7 (K : PySem.W.Frag) : Sp := fun vs H Q _ => ∃ (a p q : Addr) (r u : List Nat), vs = [.ref a] ∧ H a = some (.lst [.ref p, .ref q]) ∧ H p = some (.lst (nv r)) ∧ H q = some (.lst (nv u)) ∧ (∀ x ∈ r, x < 36) ∧ (∀ x ∈ u, x < 36) ∧ r.length ≤ 36 ∧ u.length ≤ 36 ∧ ∀ H' : Hp, Same H H' → Q (.str (txt (word r ++ [32] ++ word u))) H'
section
variable {P : Program} {w : World} {K : PySem.W.Frag} {mg : Str → Option Value} {base : Heap}
theorem scLSigns : FnScope [] [] (defScope sLSigns) := ⟨rfl, rfl, rfl, by decide +kernel, rfl, by decide +kernel, by decide +kernel⟩
theorem ok_lsigns {f : Addr} {fd : FuncData} (F : Fn K mg "_law_signs" sLSigns [] f fd) : FnOk P w K mg base CX0 1 f fd [] spLSigns := by
  refine F.F.ok scLSigns (fun vs H Q E h => ?_) (fun cdv A outer s H vs Q E hr h => ?_)
  · obtain ⟨rfl, _⟩ := h; rfl
  · obtain ⟨rfl, k⟩ := h
    exact ⟨_, pss_one (ps_ret pe_str), k⟩
theorem scText : FnScope ["_law_lines_here", "_law_some"] ["_law_lines_here"] (defScope sText) := ⟨rfl, rfl, rfl, by decide +kernel, rfl, by decide +kernel, by decide +kernel⟩
theorem ndT1 : (["_law_line", "_law_some"] : List Str).Nodup := by decide +kernel
theorem ndT2 : (["_law_square", "_law_some"] : List Str).Nodup := by decide +kernel
def relN (o sc : Scope) : List (Str × NameKind) := sc.names.map fun (n, k) => if (k == .free && o.kind == .function && o.names.lookup n == some .cell) then (n, .cell) else (n, k)
def compSc : Expr → Scope
  | .ListComp _ _ sc _ => sc
  | _ => { kind := .function, names := [], isGenerator := false, isCoroutine := false }
def argOf : Expr → Nat → Expr
  | .Call _ args _ _, i => args.getD i (.Constant .none 0 ⟨0, 0, 0, 0⟩)
  | e, _ => e
def retOf : Stmt → Expr
  | .Return (some e) _ => e
  | _ => .Constant .none 0 ⟨0, 0, 0, 0⟩
def outSc : Scope := compSc (argOf (retOf ((defBody sText).getD 1 (.Pass ⟨0, 0, 0, 0⟩))) 0)
abbrev teIn : TE := tOp rIxS (tVar 1) (tVar 0)
abbrev teOut (K : PySem.W.Frag) : TE := tBM K "str" (rJoin K) (tC (.str (Str.ofString ""))) (tCons (tComp (fun σ H R => iTup K (tVar 0) σ H R ∨ iList K (tVar 0) σ H R) 1 [1] (gName 0) teIn) tNil)
set_option maxHeartbeats 4000000 in
theorem ok_tx7 {f fs : Addr} {fd fds : FuncData} (F : Fn K mg "_law_text" sText ["_law_lines_here"] f fd) (FS : Fn K mg "_law_signs" sLSigns [] fs fds) (GS : FnOk P w K mg base CX0 1 fs fds [] spLSigns) :
    FnOk P w K mg base CX0 2 f fd ["_law_lines_here"] (spTx7 K) := by
  refine F.F.ok scText (fun vs H Q E h => ?_) (fun cdv A outer s H vs Q E hr h => ?_)
  · obtain ⟨a, p, q, r, u, rfl, _⟩ := h; rfl
  · obtain ⟨a, p, q, r, u, rfl, h1, h2, h3, g1, g2, l1, l2, k⟩ := h
    refine ⟨_, pss_cons (ps_set (i := 1) scText.nd rfl (Or.inr rfl) (pe_call0 GS hr rfl FS.m FS.F.kp FS.b .nil pass0))
      (pss_one (ps_ret (pe_bm PySem.F.plainAttrs_str PySem.F.slot_str_join PySem.F.type_str_join mt_join pe_str (pa_cons
        (pe_comp (N := ["_law_lines_here", "_law_some"]) (names := (defScope sText).names) (N' := ["_law_line", "_law_some"]) (k := 1) (pull := [1]) (te := teOut K) rfl
          ⟨by rfl, by decide +kernel, by decide +kernel, by rfl, by decide +kernel, by decide +kernel⟩ rfl rfl (pi_list (pv 0)) (fun _ _ _ _ _ _ => pg_name (i := 0) ndT1 rfl (Or.inl rfl))
          (fun _ _ _ _ _ _ => pe_bm PySem.F.plainAttrs_str PySem.F.slot_str_join PySem.F.type_str_join mt_join pe_str (pa_cons
            (pe_comp (N := ["_law_line", "_law_some"]) (names := relN (defScope sText) outSc) (N' := ["_law_square", "_law_some"]) (k := 1) (pull := [1]) (te := teIn) rfl
              ⟨by rfl, by decide +kernel, by decide +kernel, by rfl, by decide +kernel, by decide +kernel⟩ rfl rfl (PI.or' (pi_tup (pv 0)) (pi_list (pv 0))) (fun _ _ _ _ _ _ => pg_name (i := 0) ndT2 rfl (Or.inl rfl))
              (fun _ _ _ _ _ _ => pe_ix ix_str (pv 1) (pv 0) (fun _ _ => rfl))) pa_nil))) pa_nil)))), ?_⟩
    refine ⟨rfl, ?_⟩
    refine ⟨rfl, ?_⟩
    dsimp only [tCons, tNil]
    refine ⟨_, rfl, a, rfl, ⟨_, SqL.of h1⟩, fun d hd => ?_⟩
    refine comp_by (Q := fun d H' => rJoin K (.str (Str.ofString " ")) [.ref d] H' Q) 2 (wv [word r, word u]) rfl (fun i σ H3 => ∃ o, σ = [o, some (.str SG)] ∧ Same H H3) ⟨_, rfl, same_upd (Same.refl _) hd⟩ ?_ ?_
    · rintro i σ H3 hi ⟨o, rfl, s3⟩ hd3
      obtain ⟨b, row, hb, hrow, hlt, hlen, hw⟩ : ∃ b row, ([V.ref p, V.ref q])[i]? = some (.ref b) ∧ H b = some (.lst (nv row)) ∧ (∀ x ∈ row, x < 36) ∧ row.length ≤ 36 ∧ (wv [word r, word u])[i]? = some (.str (txt (word row))) := by
        match i, hi with
        | 0, _ => exact ⟨p, r, rfl, h2, g1, l1, rfl⟩
        | 1, _ => exact ⟨q, u, rfl, h3, g2, l2, rfl⟩
      refine ⟨⟨_, _, SqL.of (s3 _ _ h1), hb⟩, fun y H4 ⟨e, hy⟩ => ?_⟩
      subst e
      have hy := hy _ (SqL.of (s3 _ _ h1))
      rw [hb] at hy
      cases hy
      refine ⟨rfl, ?_⟩
      dsimp only [tCons, tNil]
      refine compSigns rfl (.inr (SqL.of (s3 _ _ hrow))) hlt (by omega) (fun _ _ _ z => ⟨_, rfl, z⟩) fun H5 d5 s5 hd5 => ?_
      refine joinSigns hd5 (by rw [word_len]; omega) ?_
      have hdd := s5 _ _ hd3
      exact cpost hi (by decide) hdd hw ⟨_, rfl, same_upd (s3.trans s5) hd⟩
    · rintro σ H3 ⟨o, rfl, s3⟩ hd3
      refine ⟨⟨_, SqL.of (s3 _ _ h1), by show 2 ≤ 2; decide⟩, ?_⟩
      refine ⟨_, d, [txt (word r), txt (word u)], rfl, rfl, .inl (SqL.of hd3), ?_, ?_⟩
      · rw [blank_eq]; simp [txt_len, word_len]; omega
      · rw [blank_eq, join_two]; exact k H3 s3
end
end K1
namespace L2
open PySem PySem.Spec PyProof.Rows
def XW (n : Nat) (Pv : Nat → List V → St → Hp → Prop) (d : Addr) (i m : Nat) (σ : St) (H : Hp) : Prop := m = n - i ∧ i ≤ n ∧ ∃ xs, Pv i xs σ H ∧ H d = some (.lst xs)
def XPost (n : Nat) (Pv : Nat → List V → St → Hp → Prop) (d : Addr) (i : Nat) (σ3 : St) (y : V) (H4 : Hp) : Prop := ∃ xs, H4 d = some (.lst xs) ∧ xs.length < sizeLine ∧ ∃ m', m' < n - i ∧ XW n Pv d (i + 1) m' σ3 (upd H4 d (.lst (xs ++ [y])))
def XSkip (n : Nat) (Pv : Nat → List V → St → Hp → Prop) (d : Addr) (i : Nat) (σ3 : St) (H4 : Hp) : Prop := ∃ m', m' < n - i ∧ XW n Pv d (i + 1) m' σ3 H4
theorem xpost {n : Nat} {Pv : Nat → List V → St → Hp → Prop} {d : Addr} {i : Nat} {σ3 : St} {y : V} {H4 : Hp} {xs : List V} (hi : i < n) (hd : H4 d = some (.lst xs)) (hl : xs.length ≤ 1000) (hp : Pv (i + 1) (xs ++ [y]) σ3 (upd H4 d (.lst (xs ++ [y])))) : XPost n Pv d i σ3 y H4 :=
  ⟨xs, hd, small1000 hl, n - (i + 1), by omega, rfl, hi, _, hp, upd_same⟩
theorem xskip {n : Nat} {Pv : Nat → List V → St → Hp → Prop} {d : Addr} {i : Nat} {σ3 : St} {H4 : Hp} {xs : List V} (hi : i < n) (hd : H4 d = some (.lst xs)) (hp : Pv (i + 1) xs σ3 H4) : XSkip n Pv d i σ3 H4 :=
  ⟨n - (i + 1), by omega, rfl, hi, _, hp, hd⟩
theorem comp_ex {J : It} {g : TG} {te : TE} {d : Addr} {σ0 : St} {H1 : Hp} {Q : Addr → Hp → Prop} (n : Nat) (Pv : Nat → List V → St → Hp → Prop) (h0 : Pv 0 [] σ0 (upd H1 d (.lst [])))
    (go : ∀ i xs σ H, i < n → Pv i xs σ H → H d = some (.lst xs) → J.go i H ∧ ∀ x H2, J.yld i H x H2 → g x σ H2 fun σ3 H3 => te σ3 H3 fun y H4 => XPost n Pv d i σ3 y H4)
    (stop : ∀ xs σ H, Pv n xs σ H → H d = some (.lst xs) → J.stop n H ∧ Q d H) :
    ∃ W : Nat → Nat → St → Hp → Prop, (∃ m, W 0 m σ0 (upd H1 d (.lst []))) ∧ ∀ i m σ' H', W i m σ' H' →
      (J.stop i H' ∧ Q d H') ∨ (J.go i H' ∧ ∀ x H2, J.yld i H' x H2 → g x σ' H2 fun σ3 H3 => te σ3 H3 fun y H4 => ∃ xs, H4 d = some (.lst xs) ∧ xs.length < sizeLine ∧ ∃ m', m' < m ∧ W (i + 1) m' σ3 (upd H4 d (.lst (xs ++ [y])))) := by
  refine ⟨XW n Pv d, ⟨n, by simp, Nat.zero_le _, [], h0, upd_same⟩, ?_⟩
  rintro i m σ H ⟨rfl, hi, xs, p, hd⟩
  by_cases hlt : i < n
  · exact .inr (go i xs σ H hlt p hd)
  · have : i = n := by omega
    subst this
    exact .inl (stop xs σ H p hd)
theorem compIf_ex {J : It} {g : TG} {tt : TT} {te : TE} {d : Addr} {σ0 : St} {H1 : Hp} {Q : Addr → Hp → Prop} (n : Nat) (Pv : Nat → List V → St → Hp → Prop) (h0 : Pv 0 [] σ0 (upd H1 d (.lst [])))
    (go : ∀ i xs σ H, i < n → Pv i xs σ H → H d = some (.lst xs) → J.go i H ∧ ∀ x H2, J.yld i H x H2 → g x σ H2 fun σ3 H3 => tt σ3 H3 fun b H4 => if b = true then te σ3 H4 fun y H5 => XPost n Pv d i σ3 y H5 else XSkip n Pv d i σ3 H4)
    (stop : ∀ xs σ H, Pv n xs σ H → H d = some (.lst xs) → J.stop n H ∧ Q d H) :
    ∃ W : Nat → Nat → St → Hp → Prop, (∃ m, W 0 m σ0 (upd H1 d (.lst []))) ∧ ∀ i m σ' H', W i m σ' H' →
      (J.stop i H' ∧ Q d H') ∨ (J.go i H' ∧ ∀ x H2, J.yld i H' x H2 → g x σ' H2 fun σ3 H3 => tt σ3 H3 fun b H4 => if b = true then te σ3 H4 fun y H5 => ∃ xs, H5 d = some (.lst xs) ∧ xs.length < sizeLine ∧ ∃ m', m' < m ∧ W (i + 1) m' σ3 (upd H5 d (.lst (xs ++ [y])))
        else ∃ m', m' < m ∧ W (i + 1) m' σ3 H4) := by
  refine ⟨XW n Pv d, ⟨n, by simp, Nat.zero_le _, [], h0, upd_same⟩, ?_⟩
  rintro i m σ H ⟨rfl, hi, xs, p, hd⟩
  by_cases hlt : i < n
  · exact .inr (go i xs σ H hlt p hd)
  · have : i = n := by omega
    subst this
    exact .inl (stop xs σ H p hd)
end L2
namespace K1
open PySem L2 Sq
/-- [k for k in range(m) if test(k)] -/
theorem compFil {Hc : Hp} {m : Nat} {ta : TA} {tt : TT} {pull : List Nat} {Q : VK} {σ : St} {rest : St} (p : Nat → Bool) (hj : ∀ R : List V → Hp → Prop, R [.int (m : Int)] Hc → ta σ Hc R) (hb : bst 1 pull σ = none :: rest)
    (htt : ∀ (i : Nat) (H : Hp) (R : Bool → Hp → Prop), i < m → Same Hc H → R (p i) H → tt (some (.int (i : Int)) :: rest) H R) (hm : m ≤ 1000)
    (k : ∀ (H' : Hp) (d : Addr), Same Hc H' → Hc d = none → H' d = some (.lst (nv ((List.range m).filter p))) → Q (.ref d) H') :
    tCompIf (iRng1 ta) 1 pull (gName 0) tt (tVar 0) σ Hc Q := by
  refine hj _ ⟨(m : Int), rfl, by omega, by omega, fun d hd => ?_⟩
  rw [Int.toNat_natCast, hb]
  refine compIf_ex (J := Itr 0 m) (Q := fun d H' => Q (.ref d) H') m (fun i xs σ H9 => (∃ o, σ = o :: rest) ∧ Same Hc H9 ∧ xs = nv ((List.range i).filter p)) ⟨⟨_, rfl⟩, same_upd (Same.refl _) hd, rfl⟩ ?_ ?_
  · rintro i xs σ H9 hi ⟨⟨o, rfl⟩, s9, rfl⟩ hd9
    refine ⟨hi, fun x H4 ⟨e1, e2⟩ => ?_⟩
    subst e1 e2
    rw [show (0 : Int) + (i : Int) = (i : Int) from by omega]
    refine htt i _ _ hi s9 ?_
    have el : ((List.range i).filter p).length ≤ i := by have := List.length_filter_le p (List.range i); simpa using this
    have ef : (List.range (i + 1)).filter p = (List.range i).filter p ++ [i].filter p := by rw [List.range_succ, List.filter_append]
    cases e : p i with
    | true =>
      have e3 : [i].filter p = [i] := by simp [e]
      rw [if_pos rfl]
      refine ⟨_, rfl, xpost hi hd9 (by rw [nv_len]; omega) ⟨⟨_, rfl⟩, same_upd s9 hd, ?_⟩⟩
      rw [ef, e3, nv_snoc]
    | false =>
      have e3 : [i].filter p = [] := by simp [e]
      rw [if_neg (by decide)]
      refine xskip hi hd9 ⟨⟨_, rfl⟩, s9, ?_⟩
      rw [ef, e3, List.append_nil]
  · rintro xs σ H9 ⟨⟨o, rfl⟩, s9, rfl⟩ hd9
    exact ⟨Nat.le_refl _, k H9 d s9 hd hd9⟩
end K1
namespace L2
open PySem PySem.Spec PyProof.Rows
theorem met_more (val : Nat → Int) (i : Nat) : ∀ k, (firstMet val (i + k)).length ≤ (firstMet val i).length + k
  | 0 => Nat.le_refl _
  | k + 1 => by
    have ih := met_more val i k
    rw [show i + (k + 1) = (i + k) + 1 from rfl, firstMet_succ]
    unfold step_dedup
    split
    · omega
    · rw [List.length_append]; simp; omega
theorem dcount_lt {r : List Nat} (h : ¬ r.Nodup) : dcount r < r.length := by
  have : ∃ i j, i < j ∧ ∃ (hj : j < r.length) (hi : i < r.length), r[i] = r[j] := by
    apply Classical.byContradiction
    intro hn
    refine h (List.pairwise_iff_getElem.mpr fun i j hi hj hij e => hn ⟨i, j, hij, hj, hi, e⟩)
  obtain ⟨i, j, hij, hj, hi, e⟩ := this
  unfold dcount
  have v : ∀ (k : Nat) (hk : k < r.length), (r.map fun (n : Nat) => (n : Int)).getD k 0 = (r[k] : Int) := fun k hk => by simp [List.getD_eq_getElem?_getD, hk]
  have hany : (firstMet (fun i => (r.map fun (n : Nat) => (n : Int)).getD i 0) j).any (· == (r[j] : Int)) = true := by
    rw [firstMet_any, List.any_eq_true]
    refine ⟨(r[i] : Int), List.mem_map.mpr ⟨i, List.mem_range.mpr hij, v i hi⟩, ?_⟩
    rw [e]; simp
  have hs : (firstMet (fun i => (r.map fun (n : Nat) => (n : Int)).getD i 0) (j + 1)).length ≤ j := by
    rw [firstMet_succ]
    unfold step_dedup
    rw [v j hj, if_pos hany]
    exact firstMet_length_le _ _
  have := met_more (fun i => (r.map fun (n : Nat) => (n : Int)).getD i 0) (j + 1) (r.length - (j + 1))
  rw [show j + 1 + (r.length - (j + 1)) = r.length by omega] at this
  omega
end L2
namespace K1
open PySem L2 Sq
inductive Thing (H : Hp) : V → Prop
  | non : Thing H .non
  | bl (b : Bool) : Thing H (.bl b)
  | int (i : Int) : Thing H (.int i)
  | str (s : Str) : Thing H (.str s)
  | lst {a : Addr} {xs : List V} : H a = some (.lst xs) → Thing H (.ref a)
  | tup {a : Addr} {xs : List V} : H a = some (.tup xs) → Thing H (.ref a)
theorem Thing.same {H H' : Hp} {x : V} (e : Same H H') (h : Thing H x) : Thing H' x := by
  cases h with
  | non => exact .non
  | bl b => exact .bl b
  | int i => exact .int i
  | str s => exact .str s
  | lst h => exact .lst (e _ _ h)
  | tup h => exact .tup (e _ _ h)
def sqV (n : Nat) : V → Bool
  | .int i => decide (0 ≤ i ∧ i < (n : Int))
  | _ => false
theorem kit_non_int (K : PySem.W.Frag) : PySem.W.kitOne K (.type "NoneType") (.type "int") = some false := by kernel_rfl
theorem kit_bool_int (K : PySem.W.Frag) : PySem.W.kitOne K (.type "bool") (.type "int") = some true := by kernel_rfl
theorem kit_bool_bool (K : PySem.W.Frag) : PySem.W.kitOne K (.type "bool") (.type "bool") = some true := by kernel_rfl
theorem kit_str_int (K : PySem.W.Frag) : PySem.W.kitOne K (.type "str") (.type "int") = some false := by kernel_rfl
theorem kit_list_int (K : PySem.W.Frag) : PySem.W.kitOne K (.type "list") (.type "int") = some false := by kernel_rfl
theorem kit_tup_int (K : PySem.W.Frag) : PySem.W.kitOne K (.type "tuple") (.type "int") = some false := by kernel_rfl
def whV : V → Bool
  | .int _ => true
  | _ => false
def spIsWhG : Sp := fun vs H Q _ => ∃ (x : V), vs = [x] ∧ Thing H x ∧ Q (.bl (whV x)) H
def spIsSqG : Sp := fun vs H Q _ => ∃ (x : V) (n : Nat), vs = [x, .int (n : Int)] ∧ Thing H x ∧ Q (.bl (sqV n x)) H
section
variable {P : Program} {w : World} {K : PySem.W.Frag} {mg : Str → Option Value} {base : Heap}
theorem scIsSqG : FnScope ["thing", "squares"] ["thing", "squares"] (defScope sIsSq) := ⟨rfl, rfl, rfl, by decide +kernel, rfl, by decide +kernel, by decide +kernel⟩
theorem scIsWhG : FnScope ["thing"] ["thing"] (defScope sIsWhole) := ⟨rfl, rfl, rfl, by decide +kernel, rfl, by decide +kernel, by decide +kernel⟩
theorem ok_isWhG {f : Addr} {fd : FuncData} (T : Bi mg) (F : Fn K mg "is_whole" sIsWhole ["thing"] f fd) : FnOk P w K mg base CX0 1 f fd ["thing"] spIsWhG := by
  refine F.F.ok scIsWhG (fun vs H Q E h => ?_) (fun cdv A outer s H vs Q E hr h => ?_)
  · obtain ⟨x, rfl, _⟩ := h; rfl
  · obtain ⟨x, rfl, hx, k⟩ := h
    refine ⟨_, pss_one (ps_ret (pe_and (pe_callB call_isinst (by rfl) T.isin boot_isin (pa_cons (pv 0) (pa_cons (pe_bltn (v := .ty "int") (by rfl) T.int boot_int rfl) pa_nil)))
      (pe_one (pe_not (pe_callB call_isinst (by rfl) T.isin boot_isin (pa_cons (pv 0) (pa_cons (pe_bltn (v := .ty "bool") (by rfl) T.bool boot_bool rfl) pa_nil))))))), ?_⟩
    cases hx with
    | int i =>
      refine ⟨_, rfl, _, _, _, _, rfl, .int i, kit_int_int K, _, rfl, ?_⟩
      refine iteT ?_
      exact ⟨_, rfl, _, _, _, _, rfl, .int i, kit_int_bool K, _, rfl, k⟩
    | bl b =>
      refine ⟨_, rfl, _, _, _, _, rfl, .bl b, kit_bool_int K, _, rfl, ?_⟩
      refine iteT ?_
      exact ⟨_, rfl, _, _, _, _, rfl, .bl b, kit_bool_bool K, _, rfl, k⟩
    | non =>
      refine ⟨_, rfl, _, _, _, _, rfl, .non, kit_non_int K, _, rfl, ?_⟩
      exact iteF k
    | str z =>
      refine ⟨_, rfl, _, _, _, _, rfl, .str z, kit_str_int K, _, rfl, ?_⟩
      exact iteF k
    | lst h =>
      refine ⟨_, rfl, _, _, _, _, rfl, .lst h, kit_list_int K, _, rfl, ?_⟩
      exact iteF k
    | tup h =>
      refine ⟨_, rfl, _, _, _, _, rfl, .tup h, kit_tup_int K, _, rfl, ?_⟩
      exact iteF k
theorem ok_isSqG {f fw : Addr} {fd fdw : FuncData} (T : Bi mg) (F : Fn K mg "is_square" sIsSq ["thing", "squares"] f fd) (FW : Fn K mg "is_whole" sIsWhole ["thing"] fw fdw) : FnOk P w K mg base CX0 2 f fd ["thing", "squares"] spIsSqG := by
  have GW : FnOk P w K mg base CX0 1 fw fdw ["thing"] spIsWhG := ok_isWhG T FW
  refine F.F.ok scIsSqG (fun vs H Q E h => ?_) (fun cdv A outer s H vs Q E hr h => ?_)
  · obtain ⟨x, n, rfl, _⟩ := h; rfl
  · obtain ⟨x, n, rfl, hx, k⟩ := h
    refine ⟨_, pss_one (ps_ret (pe_and (pe_call GW hr rfl FW.m FW.F.kp FW.b .nil pass0 (pa_cons (pv 0) pa_nil)) (pe_one (pe_chain op_le op_lt pe_int (pv 0) (pv 1))))), ?_⟩
    refine ⟨_, rfl, x, rfl, hx, _, rfl, ?_⟩
    cases x with
    | int i =>
      refine iteT ?_
      refine ⟨_, rfl, _, _, rfl, rfl, _, rfl, ?_⟩
      have k : Q (.bl (decide (0 ≤ i ∧ i < (n : Int)))) H := k
      refine ite2 (fun h => ?_) (fun h => ?_)
      · have h : 0 ≤ i := of_decide_eq_true h
        refine ⟨_, rfl, _, _, rfl, rfl, ?_⟩
        have e : decide (0 ≤ i ∧ i < (n : Int)) = decide (i < (n : Int)) := by simp [h]
        rw [e] at k; exact k
      · have h : ¬ 0 ≤ i := fun z => h (decide_eq_true z)
        have e : decide (0 ≤ i ∧ i < (n : Int)) = false := by simp [h]
        rw [e] at k; exact k
    | non => exact iteF k
    | bl b => exact iteF k
    | str z => exact iteF k
    | ref a => exact iteF k
    | _ => exact iteF k
end
end K1
namespace K1
open PySem L2 Sq
def RowV (K : PySem.W.Frag) (H : Hp) (p : Addr) (xs : List V) : Prop := SqL K H p xs ∨ SqT K H p xs
theorem RowV.same {K : PySem.W.Frag} {H H' : Hp} {p : Addr} {xs : List V} (e : Same H H') (h : RowV K H p xs) : RowV K H' p xs := h.imp e.seq (Same.tseq e)
/-- a row of a sheet of n squares -/
def Good (n : Nat) (xs : List V) : Prop := ∃ r, xs = nv r ∧ Row n r
theorem all_sq {n : Nat} : ∀ {xs : List V}, xs.all (sqV n) = true → ∃ r : List Nat, xs = nv r ∧ ∀ y ∈ r, y < n
  | [], _ => ⟨[], rfl, by simp⟩
  | x :: xs, h => by
    rw [List.all_cons, Bool.and_eq_true] at h
    obtain ⟨r, rfl, hr⟩ := all_sq h.2
    cases x with
    | int i =>
      have hi : 0 ≤ i ∧ i < (n : Int) := of_decide_eq_true h.1
      obtain ⟨m, rfl⟩ := Int.eq_ofNat_of_zero_le hi.1
      refine ⟨m :: r, rfl, fun y hy => ?_⟩
      rcases List.mem_cons.mp hy with e | e
      · subst e; omega
      · exact hr y e
    | _ => exact absurd h.1 (by simp [sqV])
theorem good_all {n : Nat} {xs : List V} (h : Good n xs) : xs.all (sqV n) = true := by
  obtain ⟨r, rfl, hr⟩ := h
  rw [List.all_eq_true]
  intro x hx
  obtain ⟨m, hm, rfl⟩ := List.mem_map.mp hx
  have := hr.lt m hm
  exact decide_eq_true (by omega)
def spEachG (K : PySem.W.Frag) : Sp := fun vs H Q _ => ∃ (p : Addr) (xs : List V), vs = [.ref p] ∧ RowV K H p xs ∧ (∀ x ∈ xs, Thing H x) ∧ xs.length ≤ 500 ∧ ∀ (H' : Hp) (b : Bool), Same H H' → (b = true ↔ Good xs.length xs) → Q (.bl b) H'
abbrev rLenG (K : PySem.W.Frag) : List V → Hp → VK → Prop := fun xs H Q => ∃ p ys, xs = [.ref p] ∧ (SqL K H p ys ∨ SqT K H p ys) ∧ Q (.int (ys.length : Int)) H
theorem compSqG {K : PySem.W.Frag} {Hc : Hp} {p : Addr} {xs : List V} {Q : VK} {σ : St} (h0 : σ[0]? = some (some (.ref p))) (hb : bst 1 [0] σ = [none, some (.ref p)]) (hp : RowV K Hc p xs) (ht : ∀ x ∈ xs, Thing Hc x) (hn : xs.length ≤ 500)
    (k : ∀ (H' : Hp) (d : Addr), Same Hc H' → H' d = some (.lst ((xs.map (sqV xs.length)).map V.bl)) → Q (.ref d) H') :
    tComp (fun σ H R => iList K (tVar 0) σ H R ∨ iTup K (tVar 0) σ H R) 1 [0] (gName 0) (tCall spIsSqG [] E0 (tCons (tVar 0) (tCons (tCB (rLenG K) (tCons (tVar 1) tNil)) tNil))) σ Hc Q := by
  have core : ∀ (J : It), (∀ H3, Same Hc H3 → (∀ i (hi : i < xs.length), J.go i H3 ∧ ∀ x H2, J.yld i H3 x H2 → H2 = H3 ∧ x = xs[i]) ∧ J.stop xs.length H3) → ∀ d, Hc d = none →
      ∃ W : Nat → Nat → St → Hp → Prop, (∃ m, W 0 m (bst 1 [0] σ) (upd Hc d (.lst []))) ∧ ∀ i m σ' H', W i m σ' H' →
        (J.stop i H' ∧ Q (.ref d) H') ∨ (J.go i H' ∧ ∀ x H2, J.yld i H' x H2 → gName 0 x σ' H2 fun σ3 H3 => tCall spIsSqG [] E0 (tCons (tVar 0) (tCons (tCB (rLenG K) (tCons (tVar 1) tNil)) tNil)) σ3 H3 fun y H4 => ∃ xs, H4 d = some (.lst xs) ∧ xs.length < sizeLine ∧ ∃ m', m' < m ∧ W (i + 1) m' σ3 (upd H4 d (.lst (xs ++ [y])))) := by
    intro J hJ d hd
    rw [hb]
    refine comp_by (Q := fun d H' => Q (.ref d) H') xs.length ((xs.map (sqV xs.length)).map V.bl) (by simp) (fun i σ H3 => ∃ o, σ = [o, some (.ref p)] ∧ Same Hc H3) ⟨_, rfl, same_upd (Same.refl _) hd⟩ ?_ ?_
    · rintro i σ H3 hi ⟨o, rfl, s3⟩ hd3
      obtain ⟨g1, g2⟩ := (hJ H3 s3).1 i hi
      refine ⟨g1, fun x H4 hy => ?_⟩
      obtain ⟨e1, e2⟩ := g2 x H4 hy
      subst e1 e2
      refine ⟨_, rfl, _, rfl, p, _, rfl, hp.same s3, xs[i], xs.length, rfl, (ht _ (List.getElem_mem hi)).same s3, ?_⟩
      exact cpost hi (by omega) hd3 (by simp [hi]) ⟨_, rfl, same_upd s3 hd⟩
    · rintro σ H3 ⟨o, rfl, s3⟩ hd3
      exact ⟨(hJ H3 s3).2, k H3 d s3 hd3⟩
  rcases id hp with h | h
  · refine .inl ⟨_, h0, p, rfl, ⟨_, h⟩, core _ fun H3 s3 => ⟨fun i hi => ⟨⟨_, _, s3.seq h, List.getElem?_eq_getElem hi⟩, fun x H2 ⟨e, hy⟩ => ⟨e, ?_⟩⟩, ⟨_, s3.seq h, Nat.le_refl _⟩⟩⟩
    have := hy _ (s3.seq h)
    rw [List.getElem?_eq_getElem hi] at this
    exact (Option.some.inj this).symm
  · refine .inr ⟨_, h0, p, rfl, ⟨_, h⟩, core _ fun H3 s3 => ⟨fun i hi => ⟨⟨_, _, Same.tseq s3 h, List.getElem?_eq_getElem hi⟩, fun x H2 ⟨e, hy⟩ => ⟨e, ?_⟩⟩, ⟨_, Same.tseq s3 h, Nat.le_refl _⟩⟩⟩
    have := hy _ (Same.tseq s3 h)
    rw [List.getElem?_eq_getElem hi] at this
    exact (Option.some.inj this).symm
section
variable {P : Program} {w : World} {K : PySem.W.Frag} {mg : Str → Option Value} {base : Heap}
theorem scEach : FnScope ["row"] ["row"] (defScope sEach) := ⟨rfl, rfl, rfl, by decide +kernel, rfl, by decide +kernel, by decide +kernel⟩
theorem ndT : (["thing", "row"] : List Str).Nodup := by decide +kernel
theorem ok_eachG {f fs : Addr} {fd fds : FuncData} (T : Bi mg) (F : Fn K mg "has_each_once" sEach ["row"] f fd) (FS : Fn K mg "is_square" sIsSq ["thing", "squares"] fs fds) (GS : FnOk P w K mg base CX0 2 fs fds ["thing", "squares"] spIsSqG) :
    FnOk P w K mg base CX0 3 f fd ["row"] (spEachG K) := by
  refine F.F.ok scEach (fun vs H Q E h => ?_) (fun cdv A outer s H vs Q E hr h => ?_)
  · obtain ⟨p, xs, rfl, _⟩ := h; rfl
  · obtain ⟨p, xs, rfl, hp, ht, hn, k⟩ := h
    refine ⟨_, pss_cons (ps_if (pt_not (pt_val (pe_callB (call_all_bools rfl) (by rfl) T.all boot_all (pa_cons
          (pe_comp (N := ["row"]) (names := (defScope sEach).names) (N' := ["thing", "row"]) (k := 1) (pull := [0]) (te := tCall spIsSqG [] E0 (tCons (tVar 0) (tCons (tCB (rLenG K) (tCons (tVar 1) tNil)) tNil))) rfl
            ⟨by rfl, by decide +kernel, by decide +kernel, by rfl, by decide +kernel, by decide +kernel⟩ rfl rfl (PI.or (pi_list (pv 0)) (pi_tup (pv 0))) (fun _ _ _ _ _ _ => pg_name (i := 0) ndT rfl (Or.inl rfl))
            (fun _ _ _ _ _ _ => pe_call GS hr rfl FS.m FS.F.kp FS.b .nil pass0 (pa_cons (pv 0) (pa_cons (pe_callB call_len_seq (by rfl) T.len PySem.boot_len (pa_cons (pv 1) pa_nil)) pa_nil)))) pa_nil)))) (pss_one (ps_ret pe_bl)) pss_nil)
      (pss_one (ps_ret (pe_cmpR op_eq (pe_callB call_len_set' (by rfl) T.len PySem.boot_len (pa_cons (pe_callTy (call_set rfl) (by rfl) T.set boot_set (pa_cons (pv 0) pa_nil)) pa_nil)) (pe_callB call_len_seq (by rfl) T.len PySem.boot_len (pa_cons (pv 0) pa_nil)) (nomark _)))), ?_⟩
    dsimp only [tNext, tSeq, tIfS, tNot, tB, tCB, tCons]
    refine compSqG rfl rfl hp ht hn fun H3 d s3 hd3 => ?_
    refine ⟨d, _, rfl, SqL.of hd3, _, rfl, ?_⟩
    have eall : ((xs.map (sqV xs.length)).all id) = xs.all (sqV xs.length) := by rw [List.all_map]; rfl
    rw [eall]
    cases ha : xs.all (sqV xs.length) with
    | false =>
      refine iteT ?_
      refine k H3 false s3 ⟨fun z => (by cases z), fun z => ?_⟩
      rw [good_all z] at ha; cases ha
    | true =>
      refine iteF ?_
      obtain ⟨r, er, hr'⟩ := all_sq ha
      have hrl : r.length = xs.length := by rw [er, nv_len]
      have hp3 : RowV K H3 p (nv r) := by rw [← er]; exact hp.same s3
      refine ⟨_, rfl, p, r, rfl, hp3, by omega, fun d2 S hd2 => ?_⟩
      have s4 : Same H (upd H3 d2 (.set S (dcount r))) := same_upd s3 (s3.free hd2)
      refine ⟨d2, S, _, rfl, upd_same, _, rfl, p, _, rfl, hp.same s4, rfl, ?_⟩
      refine k _ _ s4 ?_
      rw [decide_eq_true_iff]
      constructor
      · intro z
        have z := V.int.inj z
        have hnd : r.Nodup := Classical.byContradiction fun hnn => by have := dcount_lt hnn; omega
        exact ⟨r, er, ⟨hrl, hnd, hr'⟩⟩
      · rintro ⟨r', e', hR⟩
        have : r' = r := nv_inj (e'.symm.trans er)
        subst this
        rw [dcount_nd hR.nd, hrl]
end
end K1
namespace K1
open PySem L2 Sq
section
variable {P : Program} {w : World} {K : PySem.W.Frag} {mg : Str → Option Value} {base : Heap}
/-- a row handed in: a list, or a tuple of ours -/
def RowW (K : PySem.W.Frag) (H : Hp) (p : Addr) (xs : List V) : Prop := SqL K H p xs ∨ H p = some (.tup xs)
theorem RowW.v {K : PySem.W.Frag} {H : Hp} {p : Addr} {xs : List V} (h : RowW K H p xs) : RowV K H p xs := h.imp id SqT.of
theorem RowW.same {K : PySem.W.Frag} {H H' : Hp} {p : Addr} {xs : List V} (e : Same H H') (h : RowW K H p xs) : RowW K H' p xs := h.imp e.seq (e _ _)
def rTupG (K : PySem.W.Frag) : List V → Hp → VK → Prop := fun xs H Q => ∃ p ys, xs = [.ref p] ∧ ((SqL K H p ys ∧ ∀ l, H l = none → Q (.ref l) (upd H l (.tup ys))) ∨ (SqT K H p ys ∧ Q (.ref p) H))
theorem call_tupleG {X : Cx} : CallR X (.type "tuple") (rTupG X.K) := call_tuple_of
theorem tupG {K : PySem.W.Frag} {H : Hp} {p : Addr} {xs : List V} {Q : VK} (h : RowW K H p xs) (k : ∀ (H' : Hp) (l : Addr), Same H H' → H' l = some (.tup xs) → Q (.ref l) H') : rTupG K [.ref p] H Q := by
  rcases h with h | h
  · exact ⟨p, _, rfl, .inl ⟨h, fun l hl => k _ l (same_upd (Same.refl H) hl) upd_same⟩⟩
  · exact ⟨p, _, rfl, .inr ⟨SqT.of h, k H p (Same.refl H) h⟩⟩
/-- the rows of a sheet of n squares, hanging together or not -/
def Good2 (n : Nat) (xs ys : List V) : Prop := 1 ≤ n ∧ n ≤ 36 ∧ Good n xs ∧ Good n ys
def spCheckedG (K : PySem.W.Frag) (CS : Addr) : Sp := fun vs H Q E => ∃ (p q : Addr) (xs ys : List V), vs = [.ref p, .ref q] ∧ RowW K H p xs ∧ RowW K H q ys ∧ (∀ x ∈ xs, Thing H x) ∧ (∀ y ∈ ys, Thing H y) ∧ xs.length ≤ 500 ∧ ys.length ≤ 500 ∧
  ((¬ ∃ n, Good2 n xs ys) → ∀ H' : Hp, Same H H' → E (.ref CS) none H') ∧
  (∀ (n : Nat) (r u : List Nat), xs = nv r → ys = nv u → Row n r → Row n u → 1 ≤ n → n ≤ 36 → ∀ (H' : Hp) (a : Addr), Same H H' → ShAt H' a r u → Q (.ref a) H')
theorem scChecked : FnScope ["right", "up"] ["right", "up"] (defScope sChecked) := ⟨rfl, rfl, rfl, by decide +kernel, rfl, by decide +kernel, by decide +kernel⟩
theorem ok_checkedG {f fe CS : Addr} {fd fde : FuncData} {tm : Tok} (T : Bi mg) (hC : ExCls K CS) (hCm : mg "NoSheet" = some (.ref CS)) (hm : mg "MOST_SQUARES" = some (.int 36 tm)) (F : Fn K mg "checked_rows" sChecked ["right", "up"] f fd) (FE : Fn K mg "has_each_once" sEach ["row"] fe fde) (GE : FnOk P w K mg base CX0 3 fe fde ["row"] (spEachG K)) :
    FnOk P w K mg base (CX1 P w) 4 f fd ["right", "up"] (spCheckedG K CS) := by
  refine F.F.ok1 scChecked (fun vs H Q E h => ?_) (fun cdv A outer s H vs Q E hr h => ?_)
  · obtain ⟨p, q, xs, ys, rfl, _⟩ := h; rfl
  · obtain ⟨p, q, xs, ys, rfl, hp, hq, tx, ty, lx, ly, kb, kg⟩ := h
    refine ⟨_, pss_cons (ps_if (pt_cmpR op_ne (pe_callB call_len_seq (by rfl) T.len PySem.boot_len (pa_cons (pv 0) pa_nil)) (pe_callB call_len_seq (by rfl) T.len PySem.boot_len (pa_cons (pv 1) pa_nil)) (nomark _)) (pss_one (ps_raise rfl hC rfl hCm throw1 (pa_cons pe_str pa_nil))) pss_nil)
      (pss_cons (ps_if (pt_not (pt_chain op_le op_le pe_int (pe_callB call_len_seq (by rfl) T.len PySem.boot_len (pa_cons (pv 0) pa_nil)) (pe_glob (v := .int 36) (by rfl) hm ⟨_, rfl⟩))) (pss_one (ps_raise rfl hC rfl hCm throw1 (pa_cons (pe_fstr (.cons pe_str (.cons (pe_fmtI (pe_glob (v := .int 36) (by rfl) hm ⟨_, rfl⟩)) (.cons pe_str .nil)))) pa_nil))) pss_nil)
      (pss_cons (ps_if (pt_not (PW.pt (pw_and (pt_val (pe_call GE hr rfl FE.m FE.F.kp FE.b .nil pass0 (pa_cons (pv 0) pa_nil))) (pw_and1 (pt_val (pe_call GE hr rfl FE.m FE.F.kp FE.b .nil pass0 (pa_cons (pv 1) pa_nil))))))) (pss_one (ps_raise rfl hC rfl hCm throw1 (pa_cons pe_str pa_nil))) pss_nil)
      (pss_one (ps_ret (pe_tup (pa_cons (pe_callTy call_tupleG (by rfl) T.tuple boot_tuple (pa_cons (pv 0) pa_nil)) (pa_cons (pe_callTy call_tupleG (by rfl) T.tuple boot_tuple (pa_cons (pv 1) pa_nil)) pa_nil))))))), ?_⟩
    have one : 1 ≤ sizeLine := by decide
    have glen : ∀ {n : Nat} {zs : List V}, Good n zs → zs.length = n := by rintro n zs ⟨r, rfl, hr⟩; rw [nv_len, hr.len]
    have far : (∀ n, 1 ≤ n → n ≤ 36 → Good n xs → False) → tRaise (tCons (tParts [tC (.str (Str.ofString "a sheet has 1 to ")), tFmtI (tC (.int 36)), tC (.str (Str.ofString " squares"))] Str.empty) tNil) CS E { nx := fun _ H' => Q .non H', rt := Q } [some (.ref p), some (.ref q)] H := by
      intro hno
      refine ⟨_, rfl, by decide +kernel, 36, rfl, by decide +kernel, _, rfl, by decide +kernel, _, rfl, by decide +kernel, one, ?_⟩
      exact kb (fun ⟨n, n1, n36, g1, _⟩ => hno n n1 n36 g1) H (Same.refl H)
    refine ⟨_, rfl, p, _, rfl, hp.v, _, rfl, q, _, rfl, hq.v, rfl, _, rfl, ?_⟩
    by_cases hl : xs.length = ys.length
    · refine iteNS (by rw [hl]) ?_
      refine ⟨_, rfl, p, _, rfl, hp.v, _, _, rfl, rfl, _, rfl, ?_⟩
      by_cases h1 : 1 ≤ xs.length
      · have e1 : decide ((1 : Int) ≤ (xs.length : Int)) = true := decide_eq_true (by omega)
        rw [e1]
        refine iteT ?_
        refine ⟨_, _, rfl, rfl, _, rfl, ?_⟩
        by_cases h2 : xs.length ≤ 36
        · have e2 : decide ((xs.length : Int) ≤ 36) = true := decide_eq_true (by omega)
          rw [e2]
          refine iteF ?_
          refine ⟨_, rfl, p, xs, rfl, hp.v, tx, lx, fun H1 b1 s1 hb1 => ?_⟩
          refine ⟨_, rfl, ?_⟩
          cases b1 with
          | false =>
            refine iteF ?_
            refine iteT ?_
            refine ⟨one, kb (fun ⟨n, _, _, g1, _⟩ => ?_) H1 s1⟩
            have := hb1.mpr (by rw [glen g1]; exact g1)
            cases this
          | true =>
            refine iteT ?_
            refine ⟨_, rfl, q, ys, rfl, (hq.same s1).v, fun y hy => (ty y hy).same s1, ly, fun H2 b2 s2 hb2 => ?_⟩
            refine ⟨_, rfl, ?_⟩
            have s12 := s1.trans s2
            cases b2 with
            | false =>
              refine iteT ?_
              refine ⟨one, kb (fun ⟨n, _, _, _, g2⟩ => ?_) H2 s12⟩
              have := hb2.mpr (by rw [glen g2]; exact g2)
              cases this
            | true =>
              refine iteF ?_
              obtain ⟨r, er, Rr⟩ := hb1.mp rfl
              obtain ⟨u, eu, Ru⟩ := hb2.mp rfl
              rw [← hl] at Ru
              refine ⟨_, rfl, ?_⟩
              dsimp only [tCB, tCons, tNil]
              refine tupG (hp.same s12) fun H3 t1 s3 ht1 => ?_
              refine ⟨_, rfl, ?_⟩
              try dsimp only [tCB, tCons, tNil]
              refine tupG (hq.same (s12.trans s3)) fun H4 t2 s4 ht2 => ?_
              refine ⟨by show 2 ≤ sizeLine; decide, fun a ha => ?_⟩
              have s34 := s12.trans (s3.trans s4)
              have e3 := s4 _ _ ht1
              refine kg xs.length r u er eu Rr Ru h1 h2 _ a (same_upd s34 (s34.free ha)) ⟨t1, t2, upd_same, ?_, ?_⟩
              · rw [upd_ne (ne_of_none e3 ha), e3, er]
              · rw [upd_ne (ne_of_none ht2 ha), ht2, eu]
        · have e2 : decide ((xs.length : Int) ≤ 36) = false := decide_eq_false (by omega)
          rw [e2]
          refine iteT ?_
          exact far (fun n _ h36 g1 => h2 (by rw [glen g1]; exact h36))
      · have e1 : decide ((1 : Int) ≤ (xs.length : Int)) = false := decide_eq_false (by omega)
        rw [e1]
        refine iteF ?_
        refine ⟨_, rfl, ?_⟩
        refine iteT ?_
        exact far (fun n hn1 _ g1 => h1 (by rw [glen g1]; exact hn1))
    · have e0 : decide (V.int (xs.length : Int) = V.int (ys.length : Int)) = false := decide_eq_false (fun z => hl (by have := V.int.inj z; omega))
      rw [e0]
      refine iteT ?_
      exact ⟨one, kb (fun ⟨n, _, _, g1, g2⟩ => hl (by rw [glen g1, glen g2])) H (Same.refl H)⟩
end
end K1
namespace K1
open PySem L2 Sq
def spSox (K : PySem.W.Frag) (CN CT : Addr) : Sp := fun vs H Q E => ∃ (p q : Addr) (xs ys : List V), vs = [.ref p, .ref q] ∧ RowW K H p xs ∧ RowW K H q ys ∧ (∀ x ∈ xs, Thing H x) ∧ (∀ y ∈ ys, Thing H y) ∧ xs.length ≤ 500 ∧ ys.length ≤ 500 ∧
  ((¬ ∃ n, Good2 n xs ys) → ∀ H' : Hp, Same H H' → E (.ref CN) none H') ∧
  (∀ (n : Nat) (r u : List Nat), xs = nv r → ys = nv u → Row n r → Row n u → 1 ≤ n → n ≤ 36 → ((grp n r u).length ≤ 1 → ∀ (H' : Hp) (a : Addr), Same H H' → ShAt H' a r u → Q (.ref a) H') ∧
    ∀ g f0 t0 gs0, grp n r u = g :: (f0 :: t0) :: gs0 → ∀ (H' : Hp) (dx : Addr), Same H H' → H' dx = some (.xd [("square", .int (f0 : Int))]) → E (.ref CT) (some dx) H')
section
variable {P : Program} {w : World} {K : PySem.W.Frag} {mg : Str → Option Value} {base : Heap}
abbrev n_sox : List Str := ["right", "up", "sheet", "parts"]
theorem sc_sox : FnScope n_sox ["right", "up"] (defScope sSheetOf) := ⟨rfl, rfl, rfl, by decide +kernel, rfl, by decide +kernel, by decide +kernel⟩
theorem ok_sox {f fg fc : Addr} {fd dg dc : FuncData} {CN CT fI : Addr} {dI : FuncData} (T : Bi mg) (N : XNew K CT fI "square") (mT : mg "NotTogether" = some (.ref CT)) (bI : Binds K dI ["self", "square"] []) (GI : FnOk P w K mg base CX0 1 fI dI ["self", "square"] (spXinit CT "square" OkI)) (F : Fn K mg "sheet_of" sSheetOf ["right", "up"] f fd) (FG : Fn K mg "groups_of" sGroups ["rows"] fg dg) (GG : FnOk P w K mg base CX0 4 fg dg ["rows"] spGroupsG)
    (FC : Fn K mg "checked_rows" sChecked ["right", "up"] fc dc) (GC : FnOk P w K mg base (CX1 P w) 4 fc dc ["right", "up"] (spCheckedG K CN)) : FnOk P w K mg base (CX1 P w) 5 f fd ["right", "up"] (spSox K CN CT) := by
  refine F.F.ok1 sc_sox (fun vs H Q E h => ?_) (fun cdv A outer s H vs Q E hr h => ?_)
  · obtain ⟨p, q, xs, ys, rfl, _⟩ := h; rfl
  · obtain ⟨p, q, xs, ys, rfl, hp, hq, hx, hy, hlx, hly, k1, k2⟩ := h
    have hr2 : Room 2 _ := hr.mono (by decide)
    have hr1 : Room 1 _ := hr.mono (by decide)
    have hr4 : Room 4 _ := hr.mono (by decide)
    refine ⟨_, (pss_cons (ps_set (i := 2) sc_sox.nd rfl (Or.inl rfl) (pe_call GC hr4 rfl FC.m FC.F.kp FC.b .nil (pass1 fun _ _ _ z => z) (pa_cons (pv 0) (pa_cons (pv 1) pa_nil))))
      (pss_cons (ps_set (i := 3) sc_sox.nd rfl (Or.inl rfl) (pe_call GG hr4 rfl FG.m FG.F.kp FG.b .nil pass0 (pa_cons (pv 2) pa_nil)))
      (pss_cons (ps_if (pt_cmpR op_gt (pe_callB call_len_seq rfl T.len PySem.boot_len (pa_cons (pv 3) pa_nil)) pe_int (nomark _)) (pss_one (ps_raiseX rfl N rfl mT GI bI hr2 throwX1 (pa_cons (pe_ix ix_list (pe_ix ix_list (pv 3) pe_int (fun _ _ => rfl)) pe_int (fun _ _ => rfl)) pa_nil))) pss_nil)
      (pss_one (ps_ret (pv 2)))))), ?_⟩
    refine ⟨_, rfl, _, rfl, p, q, xs, ys, rfl, hp, hq, hx, hy, hlx, hly, k1, fun n r u e1 e2 rr ru h1 h36 H1 a s1 ha => ?_⟩
    obtain ⟨k2, k3⟩ := k2 n r u e1 e2 rr ru h1 h36
    refine ⟨_, rfl, a, n, r, u, rfl, ha, rr, ru, h36, fun H2 l gs s2 hl hg nd hL hgs => ?_⟩
    refine ⟨_, rfl, l, _, rfl, .inl (SqL.of hL), _, _, rfl, rfl, _, rfl, ?_⟩
    have lg : gs.length = (grp n r u).length := hgs.1
    by_cases c : (grp n r u).length ≤ 1
    · rw [decide_eq_false (by rw [List.length_map]; omega)]
      refine iteF ?_
      exact ⟨_, rfl, k2 c H2 a (s1.trans s2) (ha.same s2)⟩
    · rw [decide_eq_true (by rw [List.length_map]; omega)]
      refine iteT ?_
      obtain ⟨g, f0, t0, gs0, eg⟩ : ∃ g f0 t0 gs0, grp n r u = g :: (f0 :: t0) :: gs0 := by
        match eg : grp n r u with
        | [] => rw [eg] at c; exact absurd (Nat.zero_le _) c
        | [g] => rw [eg] at c; exact absurd (Nat.le_refl _) c
        | g :: [] :: gs0 =>
          obtain ⟨f1, hf1, hL1, e1⟩ := grp_mem.mp (show [] ∈ grp n r u by rw [eg]; simp)
          obtain ⟨t1, e2⟩ := clsG_hd hf1 hL1
          rw [e2] at e1; cases e1
        | g :: (f0 :: t0) :: gs0 => exact ⟨g, f0, t0, gs0, rfl⟩
      have f36 : f0 < n := by
        obtain ⟨f1, hf1, hL1, e1⟩ := grp_mem.mp (show (f0 :: t0) ∈ grp n r u by rw [eg]; simp)
        exact (mem_clsG.mp (show f0 ∈ clsG n r u f1 by rw [← e1]; simp)).1
      obtain ⟨g0, g1, gr, egs⟩ : ∃ g0 g1 gr, gs = g0 :: g1 :: gr := by
        match gs, lg with
        | [], z => rw [eg] at z; simp at z
        | [_], z => rw [eg] at z; simp at z
        | g0 :: g1 :: gr, _ => exact ⟨g0, g1, gr, rfl⟩
      subst egs
      have hg1 := hgs.2 1 g1 (f0 :: t0) rfl (by rw [eg]; rfl)
      refine ⟨_, rfl, l, _, 1, _, rfl, rfl, SqL.of hL, atI_nat (j := 1) rfl, g1, _, 0, _, rfl, rfl, SqL.of hg1, atI_nat (j := 0) rfl, _, rfl, ⟨_, rfl, by omega⟩, fun dx H3 hdx e3 => ?_⟩
      subst e3
      exact k3 g f0 t0 gs0 eg _ dx (same_upd (s1.trans s2) ((s1.trans s2).free hdx)) upd_same
end
end K1
namespace L2
open PySem PySem.Spec PyProof.Rows
structure RoomU (k : Nat) (A : Around) : Prop where
  dp : A.depth + 3 * k + 5 < recursionLimit
  un : A.units + 16 * k + 200 < cLine
theorem Room.u {k : Nat} {A : Around} (r : Room k A) : RoomU k A := ⟨r.dp, r.un⟩
theorem RoomU.mono {j k : Nat} {A : Around} (r : RoomU k A) (h : j ≤ k) : RoomU j A := ⟨by have := r.dp; omega, by have := r.un; omega⟩
theorem RoomU.deeper {k : Nat} {A : Around} (r : RoomU (k + 1) A) (env : Env) : RoomU k (A.deeper env) :=
  ⟨by have := r.dp; show A.depth + 1 + 3 * k + 5 < _; omega, by have := r.un; show A.units + 3 + 16 * k + 200 < _; omega⟩
theorem RoomU.mark {k : Nat} {A : Around} (r : RoomU k A) (o : Option Value) : RoomU k (A.mark o) := ⟨r.dp, r.un⟩
theorem RoomU.depth {k : Nat} {A : Around} (r : RoomU k A) : A.depth < recursionLimit := by have := r.dp; omega
structure FnOkU (P : Program) (w : World) (K : PySem.W.Frag) (mg : Str → Option Value) (base : Heap) (k : Nat) (f : Addr) (fd : FuncData) (ps : List Str) (sp : Sp) : Prop where
  len : ∀ vs H Q E, sp vs H Q E → vs.length = ps.length
  run : ∀ (A : Around) (outer : List Env) (s : Shared) (H : Hp) (args : Args) (us : List Value) (vs : List V) (Q : VK) (E : XK), RoomU k A → Env0 P w K mg base A outer s H → BindsTo s fd args (ps.zip us) → Vals vs us → sp vs H Q E →
    codeAny (model P w) A (.call (.ref f) args) (CR CX0 outer P w H s Q E) s
section
variable {X : Cx} {k : Nat} {f C : Addr} {fd : FuncData} {ps : List Str} {sp : Sp} {dvs : List V} {ds : List Value} {E : XK} {x : Str} {p pos : Pos} {e : Expr} {es : List Expr} {t : TA}
theorem pe_callU (F : FnOkU X.prog X.w X.K X.mg X.base k f fd ps sp) (hr : RoomU k X.A) (hg : Gl X x) (hm : X.mg x = some (.ref f)) (hk : PySem.W.keepIn X.K (.ref f) = true) (hb : Binds X.K fd ps ds) (hd : Vals dvs ds)
    (ha : PA X (e :: es) t) (hdb : (x == ("__debug__" : Str)) = false := by decide) (he : starEach (e :: es) X.env = (false, eval e X.env) :: starEach es X.env := by rfl) (hpl : (backTo pos (starEach es X.env)).any (·.1) = false := by rfl) :
    PE X (.Call (.Name x p) (e :: es) [] pos) (tCall sp dvs E t) := by
  intro pins s σ H Q I h
  refine wpAny_Call_Name_kw (ld_glob I hg hm ?_ hdb)
  refine PySem.W.callWith_K (h₀ := X.base) I.ok.mod.kin hk (thn (ha pos pins s σ H _ I h) fun us s1 ⟨vs, H1, I1, r, q⟩ => ⟨I1.kIn, ?_⟩) he hpl
  have r2 : Vals (vs ++ dvs) (us ++ ds) := r.append hd
  have hl : (us ++ ds).length = ps.length := by rw [← r2.length]; exact F.len _ _ _ _ q
  refine wpAny_call (codeAny_mono (F.run X.A X.stack s1 H1 ⟨us, []⟩ (us ++ ds) (vs ++ dvs) Q E hr I1.env0 (hb s1 us I1.kIn hl) r2 q) fun r s' hq => ?_)
  cases r with
  | error ev => exact absurd hq (by intro z; exact z.elim)
  | ok fl =>
    cases fl with
    | ret u => exact I1.after hq
    | next => exact False.elim hq
    | brk => exact False.elim hq
    | cont => exact False.elim hq
end
/-- the body's context there -/
abbrev cxU (P : Program) (w : World) (K : PySem.W.Frag) (mg : Str → Option Value) (base : Heap) (N : List Str) (qual : Str) (scope : Scope) (f : Addr) (cd : Value) (A : Around) (outer : List Env) (s : Shared) (H : Hp) : Cx :=
  { cxOf CX0 P w K mg base N qual scope f cd A outer s H E0 with calm := false, xe := fun _ _ => False }
/-- THE RULE for a def that may be called while an exception is handled -/
theorem Fun.okU {P : Program} {w : World} {K : PySem.W.Frag} {mg : Str → Option Value} {base : Heap} {x qual : Str} {st : Stmt} {f : Addr} {fd : FuncData} {N ps : List Str} {k : Nat} {sp : Sp} (F : Fun K x qual st f fd) (S : FnScope N ps (defScope st)) (len : ∀ vs H Q E, sp vs H Q E → vs.length = ps.length)
    (hbody : ∀ (cdv : Value) (A : Around) (outer : List Env) (s : Shared) (H : Hp) (vs : List V) (Q : VK) (E : XK), RoomU k (A.deeper (envOfC qual (defScope st) s.heap.objs.size f cdv)) → sp vs H Q E →
      ∃ t, PSs (cxU P w K mg base N qual (defScope st) f cdv A outer s H) (defBody st) t ∧ t { nx := fun _ H' => Q .non H', rt := Q } (start N vs) H) : FnOkU P w K mg base (k + 1) f fd ps sp := by
  obtain ⟨oc, od, kV, doc, pm, an, cdv, ct, osl, rfl, lk, hcd⟩ := F.ex
  refine ⟨len, fun A outer s H args us vs Q E hr e0 hb r hsp => ?_⟩
  have hl := len _ _ _ _ hsp
  have KX : K.In s.heap := e0.mod.kin.keeps fun b o e => (e0.bs b o e).1
  have lim : s.heap.NoLimit := e0.mod.nolimit.keeps fun b o e => (e0.bs b o e).1
  have hkind : ∀ y ∈ ps.zip us, (defScope st).names.lookup y.1 = some .local ∨ ((defScope st).names.lookup y.1 = some .cell ∧ ((cellsFrom (s.heap.objs.size + 1) (defScope st).names []).lookup y.1).isSome = true) := fun ⟨n, v⟩ hy => by
    rcases S.par n (List.of_mem_zip hy).1 with q | q
    · exact .inl q
    · exact .inr ⟨q, PySem.W.cellsFrom_some _ _ _ (.inl q)⟩
  refine codeAny_call_function hr.depth (KX _ _ lk) rfl S.co S.gen rfl (PySem.W.codeRec_of KX hcd) (hb _ _ _ _ ?_)
  refine wpAny_newFunctionEnv_cells S.kind hkind fun env he s1 z => ?_
  subst he
  refine ⟨lim.keeps z.toInCall.keep, codeAny_func ?_⟩
  obtain ⟨t, ht, hq⟩ := hbody cdv A outer s H vs Q E (hr.deeper _) hsp
  have I0 : Inv (cxOf CX0 P w K mg base N qual (defScope st) f cdv { A with handled := none } outer s H E0) [] (start N vs) H s1 := inv_start S rfl ⟨e0.frames, e0.mod, e0.bs, e0.bsz, e0.funs, e0.frf, e0.hok, e0.bare⟩ hl r z
  have I : Inv (cxU P w K mg base N qual (defScope st) f cdv A outer s H) [] (start N vs) H s1 :=
    ⟨⟨I0.ok.mod, I0.ok.kind, I0.ok.glob, I0.ok.blt, I0.ok.above, I0.ok.inj, I0.ok.has, I0.ok.cab, fun z => (nomatch z), I0.ok.frames, I0.ok.stk, I0.ok.exf, I0.ok.bs, I0.ok.bsz, I0.ok.noex, I0.ok.exfs, I0.ok.funs, I0.ok.frf⟩, I0.os, I0.bare, I0.base, I0.loc, I0.cell, I0.free, I0.freeC, I0.pin, I0.hok, I0.len⟩
  refine wpAny_mono (ht [] s1 (start N vs) H _ I hq) (fun fl s' hs => ?_) fun e s' hs => hs.elim
  have fin : ∀ {σ' : St} {H' : Hp} {v : V} {u : Value}, Inv (cxU P w K mg base N qual (defScope st) f cdv A outer s H) [] σ' H' s' → RelV v u → Q v H' → CE outer P w H s Q u s' :=
    fun {σ' H' v u} J rv q => ⟨v, H', J.os, J.bare, J.base, J.hok, rv, q⟩
  cases fl with
  | ret u =>
    obtain ⟨v, σ', H', J, rv, q⟩ := hs
    exact fin J rv q
  | next =>
    obtain ⟨σ', H', J, q⟩ := hs
    exact fin (v := V.non) (u := Value.none) J rfl q
  | brk =>
    obtain ⟨_, _, _, q⟩ := hs
    exact False.elim q
  | cont =>
    obtain ⟨_, _, _, q⟩ := hs
    exact False.elim q
end L2
namespace L2
open PySem PySem.Spec PyProof.Rows
section
variable {prog : Program} {w : World} {A : Around} {E : Value → Shared → Prop} {s : Shared}
end
end L2
namespace L2
open PySem PySem.Spec PyProof.Rows
section
variable {X : Cx} {elt tg a0 : Expr} {sc : Scope} {pos p0 pos0 : Pos} {ta : TA} {g : TG} {te : TE} {N : List Str} {names : List (Str × NameKind)} {N' : List Str} {k : Nat} {pull : List Nat}
end
end L2
namespace K1
open PySem L2 Sq
theorem thing_nv {H : Hp} {r : List Nat} : ∀ x ∈ nv r, Thing H x := fun x hx => by
  obtain ⟨i, hi, e⟩ := List.mem_iff_getElem.mp hx
  obtain ⟨y, _, rfl⟩ := nv_get' ((List.getElem?_eq_getElem hi).trans (congrArg some e))
  exact .int _
end K1
namespace Sq
open PySem
theorem snoc_ind {P : List Nat → Prop} (h0 : P []) (hs : ∀ z c, P z → P (z ++ [c])) (z : List Nat) : P z := by
  have : ∀ y : List Nat, P y.reverse := fun y => by
    induction y with
    | nil => exact h0
    | cons c y ih => rw [List.reverse_cons]; exact hs _ c ih
  rw [← List.reverse_reverse z]; exact this _
def stw (ws : List (List Nat)) (c : Nat) : List (List Nat) := if c = 32 then ws ++ [[]] else ws.dropLast ++ [ws.getLastD [] ++ [c]]
def spf (z : List Nat) : List (List Nat) := z.foldl stw [[]]
theorem spf_snoc (z : List Nat) (c : Nat) : spf (z ++ [c]) = stw (spf z) c := by unfold spf; rw [List.foldl_append]; rfl
theorem stw_ne {ws : List (List Nat)} {c : Nat} : stw ws c ≠ [] := by unfold stw; split <;> simp
theorem spf_ne (z : List Nat) : spf z ≠ [] := by
  rcases List.eq_nil_or_concat z with rfl | ⟨y, c, rfl⟩
  · decide
  · rw [List.concat_eq_append, spf_snoc]; exact stw_ne
theorem last_split {ws : List (List Nat)} (h : ws ≠ []) : ws.dropLast ++ [ws.getLastD []] = ws := by
  rcases List.eq_nil_or_concat ws with rfl | ⟨y, c, rfl⟩
  · exact absurd rfl h
  · simp
theorem joinL_snoc (d : Nat) : ∀ (ws : List (List Nat)) (w : List Nat), ws ≠ [] → joinL d (ws ++ [w]) = joinL d ws ++ d :: w
  | [], _, h => absurd rfl h
  | [x], w, _ => rfl
  | x :: y :: r, w, _ => by
    show x ++ d :: joinL d (y :: r ++ [w]) = (x ++ d :: joinL d (y :: r)) ++ d :: w
    rw [joinL_snoc d (y :: r) w (by simp)]; simp
theorem joinL_last (d c : Nat) (ws : List (List Nat)) (w : List Nat) : joinL d (ws ++ [w ++ [c]]) = joinL d (ws ++ [w]) ++ [c] := by
  cases ws with
  | nil => rfl
  | cons x ws => rw [joinL_snoc d (x :: ws) _ (by simp), joinL_snoc d (x :: ws) _ (by simp)]; simp
theorem spf_join : ∀ z : List Nat, joinL 32 (spf z) = z := fun z => by
  induction z using snoc_ind with
  | h0 => rfl
  | hs z c ih =>
    rw [spf_snoc]
    unfold stw
    by_cases h : c = 32
    · rw [if_pos h, joinL_snoc 32 _ _ (spf_ne z), ih, h]
    · rw [if_neg h, joinL_last, last_split (spf_ne z), ih]
theorem spf_free : ∀ z : List Nat, ∀ p ∈ spf z, 32 ∉ p := fun z => by
  induction z using snoc_ind with
  | h0 => intro p hp; rw [show p = [] by simpa [spf] using hp]; simp
  | hs z c ih =>
    intro p hp
    rw [spf_snoc] at hp
    unfold stw at hp
    by_cases h : c = 32
    · rw [if_pos h] at hp
      rcases List.mem_append.mp hp with g | g
      · exact ih p g
      · rw [List.mem_singleton.mp g]; simp
    · rw [if_neg h] at hp
      rcases List.mem_append.mp hp with g | g
      · exact ih p (List.dropLast_subset _ g)
      · rw [List.mem_singleton.mp g]
        intro hm
        rcases List.mem_append.mp hm with g | g
        · exact ih (spf z |>.getLastD []) (by
            have := last_split (spf_ne z)
            rw [← this]; simp) g
        · exact h (List.mem_singleton.mp g).symm
theorem spf_split (z : List Nat) : Txt.split (txt z) (txt [32]) = (spf z).map txt := split_is (spf_ne z) (spf_free z) (spf_join z)
theorem spf_small : ∀ (z : List Nat), (spf z).length ≤ z.length + 1 ∧ ∀ p ∈ spf z, p.length ≤ z.length := fun z => by
  induction z using snoc_ind with
  | h0 => refine ⟨by decide, fun p hp => ?_⟩; rw [show p = [] by simpa [spf] using hp]; simp
  | hs z c ih =>
    rw [spf_snoc, List.length_append, List.length_singleton]
    unfold stw
    obtain ⟨i1, i2⟩ := ih
    by_cases h : c = 32
    · rw [if_pos h]
      refine ⟨by rw [List.length_append]; simp only [List.length_cons, List.length_nil]; omega, fun p hp => ?_⟩
      rcases List.mem_append.mp hp with g | g
      · have := i2 p g; omega
      · rw [List.mem_singleton.mp g]; simp
    · rw [if_neg h]
      have hl : 0 < (spf z).length := List.length_pos_iff.mpr (spf_ne z)
      refine ⟨by rw [List.length_append, List.length_dropLast]; simp only [List.length_cons, List.length_nil]; omega, fun p hp => ?_⟩
      rcases List.mem_append.mp hp with g | g
      · have := i2 p (List.dropLast_subset _ g); omega
      · rw [List.mem_singleton.mp g, List.length_append, List.length_singleton]
        have := i2 (spf z |>.getLastD []) (by
            have := last_split (spf_ne z)
            rw [← this]; simp)
        omega
/-- a sign's number, or -1 -/
def sgn (c : Nat) : Int := if c ∈ (List.range 36).map sg then (((List.range 36).map sg).idxOf c : Int) else -1
theorem sgn_sg {k : Nat} (h : k < 36) : sgn (sg k) = (k : Int) := by
  unfold sgn
  rw [if_pos (List.mem_map.mpr ⟨k, List.mem_range.mpr h, rfl⟩)]
  have : ∀ k ∈ List.range 36, ((List.range 36).map sg).idxOf (sg k) = k := by decide
  rw [this k (List.mem_range.mpr h)]
theorem sgn_of {c : Nat} (h : 0 ≤ sgn c) : ∃ k, k < 36 ∧ c = sg k ∧ sgn c = (k : Int) := by
  unfold sgn at h
  by_cases m : c ∈ (List.range 36).map sg
  · obtain ⟨k, hk, e⟩ := List.mem_map.mp m
    have hk := List.mem_range.mp hk
    exact ⟨k, hk, e.symm, by rw [← e]; exact sgn_sg hk⟩
  · rw [if_neg m] at h; exact absurd h (by decide)
theorem words_of : ∀ {w : List Nat}, (∀ c ∈ w, 0 ≤ sgn c) → ∃ r : List Nat, w = word r ∧ (∀ x ∈ r, x < 36) ∧ w.map sgn = r.map fun (k : Nat) => (k : Int)
  | [], _ => ⟨[], rfl, by simp, rfl⟩
  | c :: w, h => by
    obtain ⟨k, hk, e, es⟩ := sgn_of (h c (by simp))
    obtain ⟨r, e1, e2, e3⟩ := words_of (w := w) fun d hd => h d (by simp [hd])
    refine ⟨k :: r, by rw [e1, e]; rfl, fun x hx => ?_, by rw [List.map_cons, List.map_cons, es, e3]⟩
    rcases List.mem_cons.mp hx with rfl | hx
    · exact hk
    · exact e2 x hx
end Sq
namespace K1
open PySem L2 Sq
theorem pair_of {ws : List (List Nat)} (h : pairOk ws = true) : ∃ r u, ws = [word r, word u] ∧ (∀ x ∈ r, x < 36) ∧ (∀ x ∈ u, x < 36) ∧ r.length = u.length ∧ 1 ≤ r.length ∧ r.length ≤ 36 := by
  match ws, h with
  | [a, b], h =>
    have h : (decide (a.length = b.length) && wordOk a && wordOk b) = true := h
    rw [Bool.and_eq_true, Bool.and_eq_true, decide_eq_true_iff] at h
    obtain ⟨⟨h1, h2⟩, h3⟩ := h
    unfold wordOk at h2 h3
    rw [Bool.and_eq_true, Bool.and_eq_true, decide_eq_true_iff, decide_eq_true_iff, List.all_eq_true] at h2 h3
    have of : ∀ {w : List Nat}, (∀ c ∈ w, decide (c ∈ (List.range 36).map sg) = true) → ∃ r : List Nat, w = word r ∧ (∀ x ∈ r, x < 36) := fun {w} hw => by
      obtain ⟨r, e1, e2, _⟩ := words_of (w := w) fun c hc => by
        have := of_decide_eq_true (hw c hc)
        unfold sgn; rw [if_pos this]; omega
      exact ⟨r, e1, e2⟩
    obtain ⟨r, e1, hr⟩ := of h2.2
    obtain ⟨u, e2, hu⟩ := of h3.2
    subst e1 e2
    rw [word_len, word_len] at h1
    rw [word_len] at h2
    exact ⟨r, u, rfl, hr, hu, h1, h2.1.1, h2.1.2⟩
def spRd7 (CX CN CT : Addr) : Sp := fun vs H Q E => ∃ (z : List Nat), vs = [.str (txt z)] ∧ z.length ≤ 900 ∧ (pairOk (spf z) = false → ∀ H' : Hp, Same H H' → E (.ref CX) none H') ∧
  (∀ (r u : List Nat), spf z = [word r, word u] → (∀ x ∈ r, x < 36) → (∀ x ∈ u, x < 36) → r.length = u.length → 1 ≤ r.length → r.length ≤ 36 → ((¬ ∃ n, Good2 n (nv r) (nv u)) → ∀ H' : Hp, Same H H' → E (.ref CN) none H') ∧
    ∀ (n : Nat), Row n r → Row n u → 1 ≤ n → n ≤ 36 → ((grp n r u).length ≤ 1 → ∀ (H' : Hp) (a : Addr), Same H H' → ShAt H' a r u → Q (.ref a) H') ∧
      ∀ g f0 t0 gs0, grp n r u = g :: (f0 :: t0) :: gs0 → ∀ (H' : Hp) (dx : Addr), Same H H' → H' dx = some (.xd [("square", .int (f0 : Int))]) → E (.ref CT) (some dx) H')
section
variable {P : Program} {w : World} {K : PySem.W.Frag} {mg : Str → Option Value} {base : Heap}
theorem sc_rd7 : FnScope ["text", "words"] ["text"] (defScope sRead) := ⟨rfl, rfl, rfl, by decide +kernel, rfl, by decide +kernel, by decide +kernel⟩
theorem ok_rd7 {f fp fs fo CN CT CX : Addr} {fd fdp fds fdo : FuncData} (hC : ExCls K CX) (hm : mg "NoText" = some (.ref CX)) (F : Fn K mg "read" sRead ["text"] f fd) (FP : Fn K mg "is_pair" sIsPair ["words"] fp fdp) (GP : FnOk P w K mg base CX0 2 fp fdp ["words"] (spIsPair K))
    (FS : Fn K mg "squares_of" sSquaresOf ["word"] fs fds) (GS : FnOk P w K mg base CX0 1 fs fds ["word"] spSquaresOf) (FO : Fn K mg "sheet_of" sSheetOf ["right", "up"] fo fdo) (GO : FnOk P w K mg base (CX1 P w) 5 fo fdo ["right", "up"] (spSox K CN CT)) :
    FnOk P w K mg base (CX1 P w) 6 f fd ["text"] (spRd7 CX CN CT) := by
  refine F.F.ok1 sc_rd7 (fun vs H Q E h => ?_) (fun cdv A outer s H vs Q E hr h => ?_)
  · obtain ⟨z, rfl, _⟩ := h; rfl
  · obtain ⟨z, rfl, hz, k1, k2⟩ := h
    have hr1 : Room 1 _ := hr.mono (by decide)
    have hr2 : Room 2 _ := hr.mono (by decide)
    refine ⟨_, pss_cons (ps_set (i := 1) sc_rd7.nd rfl (Or.inl rfl) (pe_bm PySem.F.plainAttrs_str PySem.F.slot_str_split PySem.F.type_str_split mt_split (pv 0) (pa_cons pe_str pa_nil)))
      (pss_cons (ps_if (pt_not (pt_val (pe_call GP hr2 rfl FP.m FP.F.kp FP.b .nil pass0 (pa_cons (pv 1) pa_nil)))) (pss_one (ps_raise rfl hC rfl hm throw1 (pa_cons pe_str pa_nil))) pss_nil)
      (pss_one (ps_ret (pe_call GO hr rfl FO.m FO.F.kp FO.b .nil (pass1 fun _ _ _ z => z) (pa_cons (pe_call GS hr1 rfl FS.m FS.F.kp FS.b .nil pass0 (pa_cons (pe_ix ix_list (pv 1) pe_int (fun _ _ => rfl)) pa_nil)) (pa_cons (pe_call GS hr1 rfl FS.m FS.F.kp FS.b .nil pass0 (pa_cons (pe_ix ix_list (pv 1) pe_int (fun _ _ => rfl)) pa_nil)) pa_nil)))))), ?_⟩
    refine ⟨_, rfl, rfl, _, _, rfl, rfl, by decide, by rw [txt_len]; omega, fun l hl => ?_⟩
    have hsp : (Txt.split (txt z) (Str.ofString " ")).map V.str = wv (spf z) := by
      rw [blank_eq, spf_split, List.map_map]; rfl
    rw [hsp]
    have s1 : Same H (upd H l (.lst (wv (spf z)))) := same_upd (Same.refl H) hl
    have hw : (upd H l (.lst (wv (spf z)))) l = some (.lst (wv (spf z))) := upd_same
    revert s1 hw
    generalize (upd H l (.lst (wv (spf z)))) = H1
    intro s1 hw
    obtain ⟨_, sm⟩ := spf_small z
    refine ⟨_, rfl, l, spf z, rfl, SqL.of hw, fun y hy => by have := sm y hy; omega, fun H2 s2 => ?_⟩
    refine ⟨_, rfl, ?_⟩
    cases hp : pairOk (spf z) with
    | false =>
      refine iteT ?_
      exact ⟨by show 1 ≤ sizeLine; decide, k1 hp H2 (s1.trans s2)⟩
    | true =>
      refine iteF ?_
      obtain ⟨r, u, e, hr36, hu36, hru, h1, h36⟩ := pair_of hp
      have hw2 := s2 _ _ hw
      rw [e] at hw2
      have k3 := k2 r u e hr36 hu36 hru h1 h36
      refine ⟨_, rfl, l, _, 0, _, rfl, rfl, SqL.of hw2, atI_nat (j := 0) rfl, r, rfl, hr36, by omega, fun H3 p s3 _ hp => ?_⟩
      refine ⟨_, rfl, l, _, 1, _, rfl, rfl, SqL.of (s3 _ _ hw2), atI_nat (j := 1) rfl, u, rfl, hu36, by omega, fun H4 q s4 _ hq => ?_⟩
      have s14 := s1.trans (s2.trans (s3.trans s4))
      refine ⟨p, q, nv r, nv u, rfl, .inl (SqL.of (s4 _ _ hp)), .inl (SqL.of hq), thing_nv, thing_nv, by rw [nv_len]; omega, by rw [nv_len]; omega, fun hn H' s' => k3.1 hn H' (s14.trans s'), fun n r' u' e1 e2 rr ru h1' h36' => ?_⟩
      have e1 := nv_inj e1
      have e2 := nv_inj e2
      subst e1; subst e2
      obtain ⟨q1, q2⟩ := k3.2 n rr ru h1' h36'
      exact ⟨fun c H' a s' ha => q1 c H' a (s14.trans s') ha, fun g f0 t0 gs0 eg H' dx s' hdx => q2 g f0 t0 gs0 eg H' dx (s14.trans s') hdx⟩
end
end K1
namespace Sq
theorem shut_back {n : Nat} {r M : List Nat} (rr : Row n r) (nd : M.Nodup) (lt : ∀ x ∈ M, x < n) (sh : ∀ x ∈ M, nx r x ∈ M) {x : Nat} (hx : x ∈ M) : nx (back r) x ∈ M := by
  have ex : ∃ y ∈ M, nx r y = x := by
    apply Classical.byContradiction
    intro hn
    have hs : ∀ z ∈ M.map (nx r), z ∈ M.erase x := fun z hz => by
      obtain ⟨y, hy, rfl⟩ := List.mem_map.mp hz
      exact (List.mem_erase_of_ne fun e => hn ⟨y, hy, e⟩).mpr (sh y hy)
    have nd2 : (M.map (nx r)).Nodup := by
      rw [List.nodup_iff_pairwise_ne, List.pairwise_map]
      refine nd.imp_of_mem fun {a b} ha hb hab e => hab ?_
      have h1 := rr.idx_nx (lt a ha)
      have h2 := rr.idx_nx (lt b hb)
      rw [e] at h1
      exact h1.symm.trans h2
    have := sub_len _ _ nd2 hs
    rw [List.length_map, List.length_erase_of_mem hx] at this
    have := List.length_pos_of_mem hx
    omega
  obtain ⟨y, hy, rfl⟩ := ex
  rw [back_nx rr (rr.nlt (lt y hy)), rr.idx_nx (lt y hy)]
  exact hy
theorem MetAll.con {n : Nat} {r u M : List Nat} (rr : Row n r) (ru : Row n u) (h : MetAll n r u 0 M) {x : Nat} : x ∈ M ↔ Con r u 0 x := by
  constructor
  · exact h.least (fun x => Con r u 0 x) (Con.refl _ _ _) (fun x _ hc => ⟨hc.trans (Con.step x 0 (by decide)), hc.trans (Con.step x 2 (by decide))⟩) x
  · rintro ⟨p, h4, rfl⟩
    have : ∀ (p : List Nat) (y : Nat), y ∈ M → (∀ c ∈ p, c < 4) → go r u y p ∈ M := by
      intro p
      induction p with
      | nil => intro y hy _; exact hy
      | cons c p ih =>
        intro y hy h4
        refine ih _ ?_ (fun z hz => h4 z (by simp [hz]))
        match c, h4 c (by simp) with
        | 0, _ => exact (h.shut y hy).1
        | 1, _ => exact shut_back rr h.nd h.lt (fun z hz => (h.shut z hz).1) hy
        | 2, _ => exact (h.shut y hy).2
        | 3, _ => exact shut_back ru h.nd h.lt (fun z hz => (h.shut z hz).2) hy
    exact this p 0 h.hd h4
def lack (n : Nat) (M : List Nat) : List Nat := (List.range n).filter fun x => decide (x ∉ M)
theorem mem_lack {n : Nat} {M : List Nat} {x : Nat} : x ∈ lack n M ↔ x < n ∧ x ∉ M := by unfold lack; rw [List.mem_filter, List.mem_range]; simp
theorem lack_sorted (n : Nat) (M : List Nat) : (lack n M).Pairwise (· ≤ ·) := (range_sorted n).filter _
/-- none lacks: one group; or the first that lacks is the first of the second group -/
theorem lack_grp {n : Nat} {r u M : List Nat} (rr : Row n r) (ru : Row n u) (hn : 1 ≤ n) (h : MetAll n r u 0 M) :
    (lack n M = [] ∧ (grp n r u).length = 1) ∨ ∃ f t g t' gs, lack n M = f :: t ∧ grp n r u = g :: (f :: t') :: gs ∧ f < n := by
  have L0 : Least n r u 0 := fun x _ _ => Nat.zero_le _
  have inL : ∀ f, f < n → Least n r u f → f ≠ 0 → f ∈ lack n M := fun f hf hL h0 => by
    refine mem_lack.mpr ⟨hf, fun hM => h0 ?_⟩
    have := hL 0 (by omega) ((h.con rr ru).mp hM |>.symm rr ru (by omega))
    omega
  have hh := grp_heads n r u
  generalize hfl : (List.range n).filter (fun f => @decide (Least n r u f) (Classical.propDecidable _)) = Hd at hh
  have memH : ∀ f, f ∈ Hd ↔ f < n ∧ Least n r u f := fun f => by rw [← hfl, List.mem_filter, List.mem_range]; simp
  have soH : Hd.Pairwise (· < ·) := by rw [← hfl]; exact List.pairwise_lt_range.filter _
  cases hg : grp n r u with
  | nil =>
    rw [hg] at hh
    have : 0 ∈ Hd := (memH 0).mpr ⟨hn, L0⟩
    rw [← hh] at this
    exact absurd this (by simp)
  | cons g gs =>
    rw [hg, List.map_cons] at hh
    have h0 : hd0 g = 0 := by
      have : 0 ∈ Hd := (memH 0).mpr ⟨hn, L0⟩
      rw [← hh] at this soH
      rcases List.mem_cons.mp this with e | e
      · exact e.symm
      · have := (List.pairwise_cons.mp soH).1 0 e
        omega
    cases hgs : gs with
    | nil =>
      refine .inl ⟨?_, rfl⟩
      subst hgs
      cases hl : lack n M with
      | nil => rfl
      | cons x t =>
        have hx : x ∈ lack n M := by rw [hl]; simp
        have hx' := mem_lack.mp hx
        have Lx : Least n r u x := fun y hy hc => by
          have so := lack_sorted n M
          rw [hl] at so
          have : y ∈ lack n M := mem_lack.mpr ⟨hy, fun hM => hx'.2 ((h.con rr ru).mpr (((h.con rr ru).mp hM).trans (hc.symm rr ru hx'.1)))⟩
          rw [hl] at this
          rcases List.mem_cons.mp this with e | e
          · omega
          · exact (List.pairwise_cons.mp so).1 y e
        have : x ∈ Hd := (memH x).mpr ⟨hx'.1, Lx⟩
        rw [← hh] at this
        have e : x = 0 := by simpa [h0] using this
        rw [e] at hx'
        exact absurd h.hd hx'.2
    | cons g2 gs2 =>
      subst hgs
      rw [List.map_cons] at hh
      have m2 : hd0 g2 ∈ Hd := by rw [← hh]; simp
      have m2' := (memH _).mp m2
      obtain ⟨f, hf, hL, e2⟩ := grp_mem.mp (show g2 ∈ grp n r u by rw [hg]; simp)
      obtain ⟨t', e3⟩ := clsG_hd hf hL
      have ef : hd0 g2 = f := by rw [e2, e3]; rfl
      have fpos : f ≠ 0 := by
        rw [← hh] at soH
        have := (List.pairwise_cons.mp soH).1 (hd0 g2) (by simp)
        omega
      have fl := inL f hf hL fpos
      cases hl : lack n M with
      | nil => rw [hl] at fl; exact absurd fl (by simp)
      | cons x t =>
        have hx : x ∈ lack n M := by rw [hl]; simp
        have hx' := mem_lack.mp hx
        have so := lack_sorted n M
        rw [hl] at so
        have Lx : Least n r u x := fun y hy hc => by
          have : y ∈ lack n M := mem_lack.mpr ⟨hy, fun hM => hx'.2 ((h.con rr ru).mpr (((h.con rr ru).mp hM).trans (hc.symm rr ru hx'.1)))⟩
          rw [hl] at this
          rcases List.mem_cons.mp this with e | e
          · omega
          · exact (List.pairwise_cons.mp so).1 y e
        have xH : x ∈ Hd := (memH x).mpr ⟨hx'.1, Lx⟩
        have x0 : x ≠ 0 := fun e => hx'.2 (e ▸ h.hd)
        rw [← hh] at xH soH
        have fx : f ≤ x := by
          rcases List.mem_cons.mp xH with e | e
          · omega
          · rcases List.mem_cons.mp e with e | e
            · omega
            · have := (List.pairwise_cons.mp (List.pairwise_cons.mp soH).2).1 x e
              omega
        have xf : x ≤ f := by
          rw [hl] at fl
          rcases List.mem_cons.mp fl with e | e
          · omega
          · exact (List.pairwise_cons.mp so).1 f e
        have e : x = f := by omega
        refine .inr ⟨f, t, g, t', gs2, by rw [e], by rw [e2, e3], hf⟩
end Sq
namespace L2
open PySem PySem.Spec PyProof.Rows
section
variable {X : Cx} {x : Str} {p pos : Pos} {e : Expr} {te : TE} {σ : St} {r : List V → Hp → VK → Prop} {id : String}
end
end L2
namespace L2
open PySem PySem.Spec PyProof.Rows
section
variable {X : Cx}
theorem mt_findS : MtM X "str.find" rFindS := by
  intro pins s σ H x vs v us Q I rx rv h
  obtain ⟨z, y, rfl, rfl, q⟩ := h
  obtain ⟨t, rfl⟩ := rx
  obtain ⟨u, rfl, t', rfl⟩ := rv.one
  exact SC.find ⟨.int _, H, I.tok _, ⟨_, rfl⟩, q⟩
/-- (e, f), the second read where the slots stand -/
theorem pe1_tup2 {e f : Expr} {te tf : TE} {σ : St} {x1} {pos : Pos} (he : PE X e te) (hf : PE1 X σ f tf)
    (h1 : starEach [e, f] X.env = [(false, eval e X.env), (false, eval f X.env)] := by rfl) : PE1 X σ (.Tuple [e, f] x1 pos) (tTup (tCons te (tCons tf tNil))) := by
  intro pins s H Q I hq
  refine wpAny_Tuple_spliced ?_
  rw [h1]
  refine Calls.spliced_cons (thn (he pins s σ H _ I hq) fun u s1 ⟨x, H1, I1, r1, q1⟩ => ?_)
  refine Calls.spliced_cons (thn (hf pins s1 H1 _ I1 q1) fun v s2 ⟨y, H2, I2, r2, q2⟩ => ?_)
  refine Calls.spliced_nil ?_
  obtain ⟨z, q⟩ := q2
  refine ⟨by show 2 ≤ sizeLine; decide, ?_⟩
  have hf : H2 s2.heap.objs.size = none := I2.hok.fresh (Nat.le_refl _)
  have rr : Vals [x, y] [u, v] := .cons r1 (.cons r2 .nil)
  refine ⟨.ref s2.heap.objs.size, upd H2 s2.heap.objs.size (.tup [x, y]), I2.laid (t' := s2.toks) (fun b u e => Heap.get?_push_of_some _ e) (Nat.le_refl _) ?_, rfl, q _ hf⟩
  exact ⟨⟨z, _, Heap.get?_push_size _ rfl, rfl⟩, [u, v], rr, ⟨_, Heap.get?_push_size _ rfl, rfl, _, rfl⟩⟩
end
end L2
namespace L2
open PySem PySem.Spec PyProof.Rows
theorem best_lt (val : Nat → Int) : ∀ n : Nat, argBest (fun i j => decide (val i < val j)) n ≤ n ∧ ∀ j, j ≤ n → val (argBest (fun i j => decide (val i < val j)) n) ≤ val j
  | 0 => ⟨Nat.le_refl _, fun j hj => by have : j = 0 := by omega
                                        subst this; exact Int.le_refl _⟩
  | n + 1 => by
    obtain ⟨h1, h2⟩ := best_lt val n
    show (if decide (val (n + 1) < val (argBest (fun i j => decide (val i < val j)) n)) = true then n + 1 else argBest (fun i j => decide (val i < val j)) n) ≤ n + 1 ∧ _
    show _ ∧ ∀ j, j ≤ n + 1 → val (if decide (val (n + 1) < val (argBest (fun i j => decide (val i < val j)) n)) = true then n + 1 else argBest (fun i j => decide (val i < val j)) n) ≤ val j
    by_cases c : val (n + 1) < val (argBest (fun i j => decide (val i < val j)) n)
    · rw [if_pos (decide_eq_true c)]
      refine ⟨Nat.le_refl _, fun j hj => ?_⟩
      rcases Nat.lt_or_ge j (n + 1) with d | d
      · have := h2 j (by omega); omega
      · have : j = n + 1 := by omega
        subst this; exact Int.le_refl _
    · rw [if_neg (by rw [decide_eq_true_iff]; exact c)]
      refine ⟨by omega, fun j hj => ?_⟩
      rcases Nat.lt_or_ge j (n + 1) with d | d
      · exact h2 j (by omega)
      · have : j = n + 1 := by omega
        subst this; omega
section
variable {X : Cx}
theorem boot_min : bootBuiltins "min" = some (.builtin "min") := by decide +kernel
theorem call_minL (hc : X.calm = true) : CallR X (.builtin "min") (fun xs H Q => ∃ (p : Addr) (ns : List Int), xs = [.ref p] ∧ SqL X.K H p (ns.map V.int) ∧ ns ≠ [] ∧ ∀ m, m ∈ ns → (∀ y ∈ ns, m ≤ y) → Q (.int m) H) := by
  intro pins s σ H xs us Q I r h
  obtain ⟨p, ns, rfl, hq, hne, q⟩ := h
  obtain ⟨u, rfl, ru⟩ := vals1 r
  obtain rfl : u = Value.ref p := ru
  obtain ⟨its, rv, pl, hz⟩ := I.list hq
  have hL := pl.isList
  have hlt : p < s.heap.objs.size := by obtain ⟨o, ho, _⟩ := id hL; exact Heap.lt_size ho
  have hlen : its.length = ns.length := by rw [← rv.length]; simp
  have hpos : 0 < ns.length := List.length_pos_iff.mpr hne
  have hval : ∀ i v, its.toArray[i]? = some v → ∃ t, v = Value.int (ns.getD i 0) t := fun i v hP => by
    have hv : its[i]? = some v := by simpa using hP
    have hi : i < ns.length := by rw [← hlen]; exact (List.getElem?_eq_some_iff.mp hv).1
    have hb : (ns.map V.int)[i]? = some (.int ns[i]) := by simp [hi]
    obtain ⟨u, hu, t, rfl⟩ := rv.get hb
    rw [hv] at hu; cases hu
    exact ⟨t, by simp [List.getD_eq_getElem?_getD, hi]⟩
  refine call_min_walk (wpAny_pyIter_list hL ⟨s.heap.objs.size, _, _, its.toArray.size, _, _, _, rfl, Walks.list (A := X.A.in1) (I.ok.hd hc) s.heap.objs.size p (Nat.ne_of_lt hlt) its.toArray, ⟨⟨_, Heap.get?_push_size _ rfl, rfl, rfl⟩, hL.push _⟩, fun b hb => ?_, by rw [List.size_toArray]; omega, CmpOf.ints_lt (fun i => ns.getD i 0) hval, fun v h' tk hP hk => ?_⟩)
  · rw [Heap.size_push]
    simp at hb
    rcases hb with rfl | rfl
    · exact Nat.lt_succ_self _
    · exact Nat.lt_succ_of_lt hlt
  · obtain ⟨t, rfl⟩ := hval _ v hP
    obtain ⟨b1, b2⟩ := best_lt (fun i => ns.getD i 0) (its.toArray.size - 1)
    rw [List.size_toArray, hlen] at b1 b2 hP ⊢
    generalize argBest (fun i j => decide (ns.getD i 0 < ns.getD j 0)) (ns.length - 1) = k at b1 b2 hP ⊢
    have hk' : k < ns.length := by omega
    refine ⟨.int (ns.getD k 0), H, ?_, ⟨t, rfl⟩, q _ ?_ fun y hy => ?_⟩
    · refine I.kept fun b o e => hk b o (fun hb => ?_) (Heap.get?_push_of_some _ e)
      have := Heap.lt_size e
      simp at hb
      rw [hb] at this
      exact Nat.lt_irrefl _ this
    · simp [List.getD_eq_getElem?_getD, hk']
    · obtain ⟨j, hj, rfl⟩ := List.mem_iff_getElem.mp hy
      have := b2 j (by omega)
      simpa [List.getD_eq_getElem?_getD, hj] using this
end
end L2
namespace L2
open PySem PySem.Spec PyProof.Rows
section
variable {X : Cx} {elt tg iter : Expr} {sc : Scope} {pos py spos : Pos} {cnd : Expr} {tt : TT} {wi : TI} {g : TG} {te : TE} {N : List Str} {names : List (Str × NameKind)} {N' : List Str} {k j : Nat} {pull : List Nat} {y : Str}
theorem ps_compIf (hc : X.calm = true) (hNd : X.N.Nodup) (hj : X.N[j]? = some y) (hy : X.env.scope.names.lookup y = some .local) (B : BScope N names N' k pull sc) (hN : X.N = N) (hnm : X.env.scope.names = names) (hi : PI X tg iter wi)
    (hg : ∀ cl C s₂ H₁ fp pins, PG (blk X sc cl C N' s₂ H₁ fp pins) tg g) (hcn : ∀ cl C s₂ H₁ fp pins, PT (blk X sc cl C N' s₂ H₁ fp pins) cnd tt) (he : ∀ cl C s₂ H₁ fp pins, PE (blk X sc cl C N' s₂ H₁ fp pins) elt te)
    (hs : ∀ x, foldedSetIterable iter X.env x = pure x := by intro _; rfl) (hsw : swapsWith (.ListComp elt [⟨tg, iter, [cnd], 0⟩] sc pos) (some (.Name y py)) spos.line X.env = pure true := by rfl) : PS X (.Assign [.Name y py] (.ListComp elt [⟨tg, iter, [cnd], 0⟩] sc pos) spos) (tAsg (tCompIf wi k pull g tt te) (gName j)) := by
  intro pins s σ H D I h
  rw [exec_Assign_Name_used _ _ _ _ hsw]
  refine wpAny_bind (wpAny_standAt (wpAny_bind ?_))
  show wpAny _ X.A (do let _ ← comprehension (.ListComp elt [⟨tg, iter, [cnd], 0⟩] sc pos) sc X.env _ (newList []) false (eval iter X.env) (some (assign (.Name y py) X.env))) _ _ s
  have hcells : ∀ y ∈ sc.names, y.2 = .free → ∃ c, X.env.cells.lookup y.1 = some c := fun y hy hf => I.ok.has y.1 (.inl (by
    show X.env.scope.names.lookup y.1 = _
    rw [hnm]; exact B.fre y hy hf))
  obtain ⟨cl, ecl, c1, _, c3⟩ := closureFor_is (env := X.env) sc.names [] hcells (fun x c e => nomatch e)
  rw [← closureFor_eq] at ecl
  refine wpAny_bind (wpAny_mono (wpAny_comprehension_free (Q := fun _ s' => SP X pins D .next s') (use := some (assign (.Name y py) X.env)) rfl hs ecl B.kind B.loc (thn (hi pins s σ H _ I h) fun xv s1 h1 => thn h1 fun itv s2 h2 => ?_)) (fun _ s' hq => wpAny_pure (wpAny_pure hq)) fun _ _ e => e)
  obtain ⟨it, fp, tn, J, H1, e, I2, T, st2, f2, hW⟩ := h2
  subst e
  have ho : ∀ b ∈ fp, ∃ o, s2.heap.get? b = some o := fun b hb => let ⟨o, e, _⟩ := T.obj _ _ st2 b hb; ⟨o, e⟩
  refine wpAny_newObj_type (wpAny_newFunctionEnv B.nocell (by intro y hy; simp at hy) (fun h₁ hns₁ hsb₁ => ?_) B.kind)
  dsimp only at hns₁ hsb₁ ⊢
  rw [Heap.size_push] at hns₁ hsb₁ ⊢
  have old : ∀ b o, s2.heap.get? b = some o → h₁.get? b = some o := fun b o e => by
    have hlt := Heap.lt_size e
    exact (hsb₁.2 b (Nat.ne_of_lt (Nat.lt_succ_of_lt hlt))).trans (Heap.get?_push_of_some _ (Heap.get?_push_of_some _ e))
  have hd : h₁.get? s2.heap.objs.size = some { cls := .type "list", data := .seq ([] : List Value).toArray } :=
    (hsb₁.2 _ (Nat.ne_of_lt (Nat.lt_succ_self _))).trans (Heap.get?_push_of_some _ (Heap.get?_push_size _ rfl))
  have I4 := blk_start (tk := s2.toks + ([] : List (Str × Value)).length) B hN hnm I2 f2 ho c1 c3 hns₁ old hd
  have st4 : tn 0 h₁ := T.keep _ _ _ st2 fun b _ o e => old b o e
  obtain ⟨W, ⟨m0, w0⟩, turn⟩ := hW s2.heap.objs.size (I2.hok.fresh (Nat.le_refl _))
  have fr4 : ∀ b ∈ fp, (upd H1 s2.heap.objs.size (.lst [])) b = none := fun b hb => by
    obtain ⟨o, e⟩ := ho b hb
    rw [upd_ne (Nat.ne_of_lt (Heap.lt_size e))]
    exact (f2 b hb).1
  -- what stays true of the iterator's objects
  have stat : ∀ {H' : Hp}, (∀ b ∈ fp, H' b = none) → ∀ b ∈ fp, FpOk (blk X sc cl (s2.heap.objs.size + 1) N' s2 H1 fp pins) [] H' b := fun hn b hb => by
    refine ⟨hn b hb, (I4.ok.exf b hb).1, I4.ok.exfs b hb, .inl hb, (I4.ok.exf b hb).2, fun p hp => ?_⟩
    have hp : p ∈ X.pn ++ pins := by simpa [blk] using hp
    exact (f2 b hb).2.2.2.2.2 p hp
  have loop : ∀ s₃ : Shared, s₃ = { s2 with heap := h₁, toks := s2.toks + ([] : List (Str × Value)).length } →
      codeAny (model X.prog X.w) X.A (.compLoop (.ListComp elt [⟨tg, iter, [cnd], 0⟩] sc pos) 0 (.ref it) (.ref s2.heap.objs.size) (compEnvC sc cl (s2.heap.objs.size + 1) X.env))
        (compPost (model X.prog X.w) X.A X.xe (some (assign (.Name y py) X.env)) (fun _ s' => SP X pins D .next s') (.ref s2.heap.objs.size) (s2.heap.objs.size + 1)) s₃ := by
    rintro s₃ rfl
    refine comp_turnIf (fun n s' => ∃ i σ' H', Inv (blk X sc cl (s2.heap.objs.size + 1) N' s2 H1 fp pins) [] σ' H' s' ∧ tn i s'.heap ∧ (∀ b ∈ fp, H' b = none) ∧ W i n σ' H') ?_ m0 ⟨0, _, _, I4, st4, fr4, w0⟩
    rintro n s3 ⟨i, σ3, H3, I3, st3, fr3, w3⟩
    rcases turn i n σ3 H3 w3 with ⟨stop, q⟩ | ⟨go, step⟩
    · refine thn (T.done (blk X sc cl (s2.heap.objs.size + 1) N' s2 H1 fp pins) rfl rfl rfl hc i [] s3 σ3 H3 _ I3 (stat fr3) st3 stop) fun r s4 ⟨hr, I5⟩ => ?_
      subst hr
      obtain ⟨m, hn, _⟩ := id I5.loc
      have U : Un (frs X.stack) fp H1 H3 s2.heap s4.heap := I5.base
      have J5 : Inv X pins σ H3 s4 := I2.call' (s' := s4) I5.os U I5.hok I5.bare fun b hb => ⟨(f2 b hb).2.2.2.1, (f2 b hb).2.1, (f2 b hb).2.2.2.2.1, (f2 b hb).2.2.2.2.2⟩
      obtain ⟨g0, g1, _, g3, g4, g5⟩ : FpOk X pins H3 (s2.heap.objs.size + 1) := I2.fpOk (Nat.le_succ _) I5.free
      refine wpAny_assign_Name (store_ok2 J5 hNd hj (.inl hy) (v := .ref s2.heap.objs.size) rfl (fun s5 K5 ⟨a, sb, ha⟩ => ?_) (.inr hy))
      have hne : s2.heap.objs.size + 1 ≠ a := fun z => by
        rcases ha with ha | ha
        · exact g1 (z.trans ha)
        · exact g4 _ _ ha z.symm
      refine ⟨m, hn.sameBut sb hne, fun h' hs' => ⟨_, H3, ?_, q⟩⟩
      exact K5.turned (t' := s5.toks) (fun b o hb e => (hs'.2 b hb).trans e) g0 g1 g3 g4 g5
    · refine thn (T.item (blk X sc cl (s2.heap.objs.size + 1) N' s2 H1 fp pins) rfl rfl rfl hc i [] s3 σ3 H3 _ I3 (stat fr3) st3 go) fun r s4 ⟨u, hr, h4⟩ => ?_
      subst hr
      refine thn h4 fun _ s5 ⟨x, H5, I5, r5, y5, st5, fr5⟩ => ?_
      have I5' := I5.pinned (stat fr5) (T.obj _ _ st5)
      refine wpAny_mono (hg _ _ _ _ _ _ _ s5 σ3 H5 x u _ I5' r5 (step x H5 y5)) (fun _ s6 ⟨σ6, H6, I6, q6⟩ => ?_) fun _ _ z => z.elim
      refine wpAny_mono (hcn _ _ _ _ _ _ _ s6 σ6 H6 _ I6 q6) (fun ok s7 ⟨H7, I7, q7⟩ => ?_) fun _ _ z => z.elim
      cases ok with
      | false =>
        have q7 : ∃ m', m' < n ∧ W (i + 1) m' σ6 H7 := by simpa using q7
        obtain ⟨m', hm, w7⟩ := q7
        refine ⟨m', hm, i + 1, σ6, _, I7.unpinned, T.keep _ _ _ st5 fun b hb o e => (I7.pin (b, o) (List.mem_append_right _ (List.mem_append_right _ (mem_pinsAt hb e)))).1, fun b hb => ?_, w7⟩
        obtain ⟨o, e, _⟩ := T.obj _ _ st5 b hb
        exact (I7.pin (b, o) (List.mem_append_right _ (List.mem_append_right _ (mem_pinsAt hb e)))).2.1
      | true =>
        rw [if_pos rfl] at q7
        refine wpAny_mono (he _ _ _ _ _ _ _ s7 σ6 H7 _ I7 q7) (fun y s8 ⟨z, H8, I8, r8, xs, hx8, hz8, m', hm, w8⟩ => ?_) fun _ _ z => z.elim
        refine wpAny_mono (mt_append (X := blk X sc cl (s2.heap.objs.size + 1) N' s2 H1 fp pins) _ s8 σ6 H8 (.ref s2.heap.objs.size) [z] (.ref s2.heap.objs.size) [y] (fun _ H9 => H9 = upd H8 s2.heap.objs.size (.lst (xs ++ [z]))) I8 rfl (.cons r8 .nil) ⟨_, xs, z, rfl, rfl, hx8, hz8, rfl⟩) (fun _ s9 ⟨_, H9, I9, _, e9⟩ => ?_) fun _ _ z => z.elim
        subst e9
        refine ⟨m', hm, i + 1, σ6, _, I9.unpinned, T.keep _ _ _ st5 fun b hb o e => (I9.pin (b, o) (List.mem_append_right _ (List.mem_append_right _ (mem_pinsAt hb e)))).1, fun b hb => ?_, w8⟩
        obtain ⟨o, e, _⟩ := T.obj _ _ st5 b hb
        exact (I9.pin (b, o) (List.mem_append_right _ (List.mem_append_right _ (mem_pinsAt hb e)))).2.1
  exact codeAny_compStart_list (loop _ rfl) (T.self _ 0 _ _ _ st4 (loop _ rfl))
end
end L2
namespace L2
open PySem PySem.Spec PyProof.Rows
section
variable {X : Cx}
end
section
variable {P : Program} {w : World} {K : PySem.W.Frag} {mg : Str → Option Value} {base : Heap}
end
theorem ite_rest' {c : Prop} [Decidable c] {A : Prop} {N : St → Hp → Prop} {σ : St} {H : Hp} (Pv : St → Hp → Prop) (h0 : ¬ c → Pv σ H) (hr : ∀ σ H, Pv σ H → N σ H) (hA : (∀ σ H, Pv σ H → N σ H) → c → A) : if c then A else N σ H := by
  by_cases h : c
  · rw [if_pos h]; exact hA hr h
  · rw [if_neg h]; exact hr _ _ (h0 h)
end L2
namespace K1
open PySem L2 Sq
def asgOf : Stmt → Expr
  | .Assign _ e _ => e
  | _ => .Constant .none 0 ⟨0, 0, 0, 0⟩
def outSc7 : Scope := compSc (asgOf ((defBody sLDue).getD 3 (.Pass ⟨0, 0, 0, 0⟩)))
abbrev teF7 (K : PySem.W.Frag) : TE := tBM K "str" rFindS (tCall spLSigns [] E0 tNil) (tCons (tVar 0) tNil)
abbrev teL7 (K : PySem.W.Frag) : TE := tComp (iStr (tVar 0)) 1 [] (gName 0) (teF7 K)
theorem find_sgn (c : Nat) : (match Builtin.Str.occurrences SG ⟨#[c]⟩ 0 SG.length 1 with | i :: _ => (i : Int) | [] => -1) = sgn c := by
  have h := StrLaws.found_one SG c
  by_cases m : c ∈ (List.range 36).map sg
  · obtain ⟨k, hk, e⟩ := List.mem_map.mp m
    have := occ_sign k hk
    rw [← e, sgn_sg (List.mem_range.mp hk), SG_len, SG_eq, txt_one, this]
  · have : (Builtin.Str.occurrences SG ⟨#[c]⟩ 0 SG.length 1) = [] := by
      rw [SG_eq, txt_cps] at h
      rw [SG_eq]
      cases q : Builtin.Str.occurrences (txt ((List.range 36).map sg)) ⟨#[c]⟩ 0 (txt ((List.range 36).map sg)).length 1 with
      | nil => rfl
      | cons i t => rw [q] at h; simp at h; exact absurd (List.mem_map.mpr (by obtain ⟨a, h1, h2⟩ := h; exact ⟨a, List.mem_range.mpr h1, h2⟩)) m
    rw [this]; unfold sgn; rw [if_neg m]
theorem compFind {K : PySem.W.Frag} {Hc : Hp} {y : List Nat} {Q : VK} {σ : St} (hj : σ[0]? = some (some (.str (txt y)))) (hn : y.length ≤ 1000)
    (k : ∀ (H' : Hp) (d : Addr), Same Hc H' → Hc d = none → H' d = some (.lst ((y.map sgn).map V.int)) → Q (.ref d) H') : teL7 K σ Hc Q := by
  refine ⟨_, hj, txt y, rfl, fun d hd => ?_⟩
  refine comp_by (Q := fun d H' => Q (.ref d) H') y.length ((y.map sgn).map V.int) (by simp) (fun i σ H3 => ∃ o, σ = [o] ∧ Same Hc H3) ⟨none, rfl, same_upd (Same.refl _) hd⟩ ?_ ?_
  · rintro i σ H3 hi ⟨o, rfl, s3⟩ hd3
    refine ⟨by show i < (txt _).length; rw [txt_len]; exact hi, fun x H4 ⟨e, c, hc, ey⟩ => ?_⟩
    subst e ey
    rw [txt_get] at hc
    refine ⟨rfl, rfl, _, rfl, SG, _, rfl, rfl, ?_⟩
    exact Eq.mpr (congrArg (fun v => CPost y.length ((y.map sgn).map V.int) (fun i σ H3 => ∃ o, σ = [o] ∧ Same Hc H3) d i ([o].set 0 (some (V.str ⟨#[c]⟩))) (V.int v) H4) (find_sgn c)) (cpost hi hn hd3 (by simp [hc]) ⟨_, rfl, same_upd s3 hd⟩)
  · rintro σ H3 ⟨o, rfl, s3⟩ hd3
    exact ⟨by show (txt _).length = _; rw [txt_len], k H3 d s3 hd hd3⟩
def AnsAt (z : List Nat) (H : Hp) (t : Addr) : Prop := (pairOk (spf z) = false ∧ H t = some (.tup [.str (Str.ofString "text"), .non])) ∨ ∃ r u : List Nat, spf z = [word r, word u] ∧ (∀ x ∈ r, x < 36) ∧ (∀ x ∈ u, x < 36) ∧ r.length = u.length ∧ 1 ≤ r.length ∧ r.length ≤ 36 ∧
  (((¬ ∃ n, Good2 n (nv r) (nv u)) ∧ H t = some (.tup [.str (Str.ofString "none"), .non])) ∨ ∃ n, Row n r ∧ Row n u ∧ 1 ≤ n ∧ n ≤ 36 ∧ ((∃ g f0 t0 gs0, grp n r u = g :: (f0 :: t0) :: gs0 ∧ H t = some (.tup [.str (Str.ofString "apart"), .int (f0 : Int)])) ∨ ((grp n r u).length ≤ 1 ∧ ∃ a, H t = some (.tup [.str (Str.ofString "sheet"), .ref a]) ∧ ShAt H a r u)))
theorem pair_len {ws : List (List Nat)} (h : ws.length ≠ 2) : pairOk ws = false := by
  match ws, h with
  | [], _ => rfl
  | [_], _ => rfl
  | [_, _], h => exact absurd rfl h
  | _ :: _ :: _ :: _, _ => rfl
theorem pair_bad {a b : List Nat} {c : Nat} (hc : c ∈ a ++ b) (hno : c ∉ (List.range 36).map sg) : pairOk [a, b] = false := by
  show (decide _ && wordOk a && wordOk b) = false
  have bad : ∀ {w : List Nat}, c ∈ w → wordOk w = false := fun {w} hw => by
    unfold wordOk
    have : (w.all fun c => decide (c ∈ (List.range 36).map sg)) = false := by
      rw [List.all_eq_false]; exact ⟨c, hw, by rw [decide_eq_false hno]; decide⟩
    rw [this, Bool.and_false]
  rcases List.mem_append.mp hc with h | h
  · rw [bad h]; simp
  · rw [bad h]; simp
theorem dec_n7 (x y : Nat) : decide (V.int (x : Int) = V.int (y : Int)) = decide (x = y) := by
  rw [decide_eq_decide]; exact ⟨fun z => by have := V.int.inj z; omega, fun z => by rw [z]⟩
theorem L7nv (r : List Nat) : (r.map fun (k : Nat) => (k : Int)).map V.int = nv r := by rw [List.map_map]; rfl
theorem compLines7 {K : PySem.W.Frag} {Hc : Hp} {l : Addr} {wa wb : List Nat} {Q : VK} {σ : St} (hj : σ[1]? = some (some (.ref l))) (hp : Hc l = some (.lst (wv [wa, wb]))) (hb : bst 1 [] σ = [none]) (h1 : 1 ≤ wa.length) (h2 : 1 ≤ wb.length) (la : wa.length ≤ 200) (lb : wb.length ≤ 200)
    (k : ∀ (H' : Hp) (d pa pb : Addr), Same Hc H' → Hc d = none → H' d = some (.lst [.ref pa, .ref pb]) → H' pa = some (.lst ((wa.map sgn).map V.int)) → H' pb = some (.lst ((wb.map sgn).map V.int)) → Q (.ref d) H') :
    tComp (iList K (tVar 1)) 1 [] (gName 0) (teL7 K) σ Hc Q := by
  have ne : ∀ {w : List Nat} {H : Hp} {a d : Addr} {xs : List Addr}, 1 ≤ w.length → H a = some (.lst ((w.map sgn).map V.int)) → H d = some (.lst (xs.map V.ref)) → a ≠ d := fun {w H a d xs} hw e1 e2 q => by
    rw [q, e2] at e1
    match w, xs, hw, e1 with
    | _ :: _, [], _, e1 => cases e1
    | _ :: _, _ :: _, _, e1 => cases e1
  refine ⟨_, hj, l, rfl, ⟨_, SqL.of hp⟩, fun d hd => ?_⟩
  rw [hb]
  refine comp_ex (J := Itl K l) (Q := fun d H' => Q (.ref d) H') 2 (fun i xs σ H9 => (∃ o, σ = [o]) ∧ Same Hc H9 ∧ ((i = 0 ∧ xs = []) ∨ (i = 1 ∧ ∃ pa, xs = [.ref pa] ∧ H9 pa = some (.lst ((wa.map sgn).map V.int))) ∨ (i = 2 ∧ ∃ pa pb, xs = [.ref pa, .ref pb] ∧ H9 pa = some (.lst ((wa.map sgn).map V.int)) ∧ H9 pb = some (.lst ((wb.map sgn).map V.int))))) ⟨⟨_, rfl⟩, same_upd (Same.refl _) hd, .inl ⟨rfl, rfl⟩⟩ ?_ ?_
  · rintro i xs σ H9 hi ⟨⟨o, rfl⟩, s9, hcs⟩ hd9
    have hq := SqL.of (K := K) (s9 _ _ hp)
    obtain ⟨w, hw, hwl, hw1⟩ : ∃ w, (wv [wa, wb])[i]? = some (.str (txt w)) ∧ w.length ≤ 200 ∧ ((i = 0 ∧ w = wa) ∨ (i = 1 ∧ w = wb)) := by
      match i, hi with
      | 0, _ => exact ⟨wa, rfl, la, .inl ⟨rfl, rfl⟩⟩
      | 1, _ => exact ⟨wb, rfl, lb, .inr ⟨rfl, rfl⟩⟩
    refine ⟨⟨_, _, hq, hw⟩, fun y H4 ⟨e1, hy⟩ => ?_⟩
    subst e1
    have hy := hy _ hq
    rw [hw] at hy
    cases hy
    refine compFind rfl (by omega) fun H5 p s5 hp0 hp5 => ?_
    have hd5 := s5 _ _ hd9
    rcases hw1 with ⟨rfl, rfl⟩ | ⟨rfl, rfl⟩
    · rcases hcs with ⟨_, rfl⟩ | ⟨z, _⟩ | ⟨z, _⟩
      · refine xpost hi hd5 (by simp) ⟨⟨_, rfl⟩, same_upd (s9.trans s5) hd, .inr (.inl ⟨rfl, p, rfl, ?_⟩)⟩
        rw [upd_ne (ne h1 hp5 (xs := []) hd5)]; exact hp5
      · cases z
      · cases z
    · rcases hcs with ⟨z, _⟩ | ⟨_, pa, rfl, hpa⟩ | ⟨z, _⟩
      · cases z
      · refine xpost hi hd5 (by simp) ⟨⟨_, rfl⟩, same_upd (s9.trans s5) hd, .inr (.inr ⟨rfl, pa, p, rfl, ?_, ?_⟩)⟩
        · rw [upd_ne (ne h1 (s5 _ _ hpa) (xs := [pa]) hd5)]; exact s5 _ _ hpa
        · rw [upd_ne (ne h2 hp5 (xs := [pa]) hd5)]; exact hp5
      · cases z
  · rintro xs σ H9 ⟨⟨o, rfl⟩, s9, hcs⟩ hd9
    rcases hcs with ⟨z, _⟩ | ⟨z, _⟩ | ⟨_, pa, pb, rfl, hpa, hpb⟩
    · cases z
    · cases z
    · exact ⟨⟨_, SqL.of (s9 _ _ hp), by simp [wv]⟩, k H9 d pa pb s9 hd hd9 hpa hpb⟩
def AnsK (z r u : List Nat) (H : Hp) (Q : VK) : Prop := ((¬ ∃ n, Good2 n (nv r) (nv u)) → ∀ (H' : Hp) (p : Addr), Same H H' → H' p = some (.tup [.str (Str.ofString "none"), .non]) → Q (.ref p) H') ∧
  ∀ n, Row n r → Row n u → 1 ≤ n → n ≤ 36 → (∀ g f0 t0 gs0, grp n r u = g :: (f0 :: t0) :: gs0 → ∀ (H' : Hp) (p : Addr), Same H H' → H' p = some (.tup [.str (Str.ofString "apart"), .int (f0 : Int)]) → Q (.ref p) H') ∧
    ((grp n r u).length ≤ 1 → ∀ (H' : Hp) (p a : Addr), Same H H' → H' p = some (.tup [.str (Str.ofString "sheet"), .ref a]) → ShAt H' a r u → Q (.ref p) H')
def spDu07 : Sp := fun vs H Q _ => ∃ z : List Nat, vs = [.str (txt z)] ∧ z.length ≤ 200 ∧ ∀ (H' : Hp) (t : Addr), Same H H' → AnsAt z H' t → Q (.ref t) H'
section
variable {P : Program} {w : World} {K : PySem.W.Frag} {mg : Str → Option Value} {base : Heap}
abbrev n_du : List Str := ["_law_text_here", "_law_words", "_law_sign_here", "_law_lines_here", "_law_many", "_law_near", "_law_lacking"]
theorem sc_du : FnScope n_du ["_law_text_here"] (defScope sLDue) := ⟨rfl, rfl, rfl, by decide +kernel, rfl, by decide +kernel, by decide +kernel⟩
theorem nd_du1 : (["_law_word"] : List Str).Nodup := by decide +kernel
theorem nd_du2 : (["_law_sign_here"] : List Str).Nodup := by decide +kernel
theorem nd_du3 : (["_law_k", "_law_near"] : List Str).Nodup := by decide +kernel
set_option maxHeartbeats 4000000 in
theorem ok_du {f fs fm : Addr} {fd ds dm : FuncData} (T : Bi mg) (T_min : mg "min" = none) (F : Fn K mg "_law_due" sLDue ["_law_text_here"] f fd) (FS : Fn K mg "_law_signs" sLSigns [] fs ds) (GS : FnOk P w K mg base CX0 1 fs ds [] spLSigns)
    (FM : Fn K mg "_law_met" sMet ["_law_right", "_law_up", "_law_first"] fm dm) (GM : FnOk P w K mg base CX0 1 fm dm ["_law_right", "_law_up", "_law_first"] (spMet K)) : FnOk P w K mg base CX0 2 f fd ["_law_text_here"] spDu07 := by
  refine F.F.ok sc_du (fun vs H Q E h => ?_) (fun cdv A outer s H vs Q E hr h => ?_)
  · obtain ⟨z, rfl, _⟩ := h; rfl
  · obtain ⟨z, rfl, hz, k⟩ := h
    have hr1 : Room 1 _ := hr.mono (by decide)
    refine ⟨_, (pss_cons (ps_set (i := 1) sc_du.nd rfl (Or.inl rfl) (pe_lst (pa_cons pe_str pa_nil)))
      (pss_cons (ps_for PassesOwn.never rfl (pi_str (pv 0)) (pg_name (i := 2) sc_du.nd rfl (Or.inl rfl)) (pss_one (ps_if (pt_cmpR op_eq (pv 2) pe_str (nomark _)) (pss_one (ps_expr (pe_bm PySem.F.plainAttrs_list PySem.F.slot_list_append PySem.F.type_list_append mt_append (pv 1) (pa_cons pe_str pa_nil)))) (pss_one (ps_lput (pv 1) (pe_un un_neg pe_int) (pe_op op_add_str (pe_ix ix_list (pv 1) (pe_un un_neg pe_int) (fun _ _ => rfl)) (pv 2)) rfl)))))
      (pss_cons (ps_if (PW.pt (pw_or (pt_cmpR op_ne (pe_callB call_len_seq rfl T.len PySem.boot_len (pa_cons (pv 1) pa_nil)) pe_int (nomark _)) (pw_or (pt_cmpR op_ne (pe_callB call_len_str rfl T.len PySem.boot_len (pa_cons (pe_ix ix_list (pv 1) pe_int (fun _ _ => rfl)) pa_nil)) (pe_callB call_len_str rfl T.len PySem.boot_len (pa_cons (pe_ix ix_list (pv 1) pe_int (fun _ _ => rfl)) pa_nil)) (nomark _)) (pw_or1 (pt_not (pt_chain op_le op_le pe_int (pe_callB call_len_str rfl T.len PySem.boot_len (pa_cons (pe_ix ix_list (pv 1) pe_int (fun _ _ => rfl)) pa_nil)) pe_int)))))) (pss_one (ps_ret (pe_tup (pa_cons pe_str (pa_cons pe_non pa_nil))))) pss_nil)
      (pss_cons (ps_comp (j := 3) (N := n_du) (names := (defScope sLDue).names) (N' := ["_law_word"]) (k := 1) (pull := []) (te := teL7 K) rfl sc_du.nd rfl rfl ⟨by rfl, by decide +kernel, by decide +kernel, by rfl, by decide +kernel, by decide +kernel⟩ rfl rfl (pi_list (pv 1)) (fun _ _ _ _ _ _ => pg_name (i := 0) nd_du1 rfl (Or.inl rfl)) (fun _ _ _ _ _ _ => (pe_comp (N := ["_law_word"]) (names := relN (defScope sLDue) outSc7) (N' := ["_law_sign_here"]) (k := 1) (pull := []) (te := teF7 K) rfl ⟨by rfl, by decide +kernel, by decide +kernel, by rfl, by decide +kernel, by decide +kernel⟩ rfl rfl (pi_str (pv 0)) (fun _ _ _ _ _ _ => pg_name (i := 0) nd_du2 rfl (Or.inl rfl)) (fun _ _ _ _ _ _ => pe_bm PySem.F.plainAttrs_str PySem.F.slot_str_find PySem.F.type_str_find mt_findS (pe_call0 GS hr1 rfl FS.m FS.F.kp FS.b .nil pass0) (pa_cons (pv 0) pa_nil)))))
      (pss_cons (ps_if (pt_cmpR op_lt (pe_callB (call_minL rfl) rfl T_min boot_min (pa_cons (pe_op op_cat (pe_ix ix_list (pv 3) pe_int (fun _ _ => rfl)) (pe_ix ix_list (pv 3) pe_int (fun _ _ => rfl))) pa_nil)) pe_int (nomark _)) (pss_one (ps_ret (pe_tup (pa_cons pe_str (pa_cons pe_non pa_nil))))) pss_nil)
      (pss_cons (ps_set (i := 4) sc_du.nd rfl (Or.inl rfl) (pe_callB call_len_seq rfl T.len PySem.boot_len (pa_cons (pe_ix ix_list (pv 3) pe_int (fun _ _ => rfl)) pa_nil)))
      (pss_cons (ps_if (PW.pt (pw_or (pt_cmpR op_neD (pe_callB (call_sorted rfl) rfl T.sorted boot_sorted (pa_cons (pe_ix ix_list (pv 3) pe_int (fun _ _ => rfl)) pa_nil)) (pe_callTy (call_list_rng rfl) rfl T.list boot_list (pa_cons (pe_callTy call_range1 rfl T.range PyProof.Rows.boot_range (pa_cons (pv 4) pa_nil)) pa_nil)) (nomark _)) (pw_or1 (pt_cmpR op_neD (pe_callB (call_sorted rfl) rfl T.sorted boot_sorted (pa_cons (pe_ix ix_list (pv 3) pe_int (fun _ _ => rfl)) pa_nil)) (pe_callTy (call_list_rng rfl) rfl T.list boot_list (pa_cons (pe_callTy call_range1 rfl T.range PyProof.Rows.boot_range (pa_cons (pv 4) pa_nil)) pa_nil)) (nomark _))))) (pss_one (ps_ret (pe_tup (pa_cons pe_str (pa_cons pe_non pa_nil))))) pss_nil)
      (pss_cons (ps_set (i := 5) sc_du.nd rfl (Or.inr rfl) (pe_call GM hr1 rfl FM.m FM.F.kp FM.b .nil pass0 (pa_cons (pe_ix ix_list (pv 3) pe_int (fun _ _ => rfl)) (pa_cons (pe_ix ix_list (pv 3) pe_int (fun _ _ => rfl)) (pa_cons pe_int pa_nil)))))
      (pss_cons (ps_compIf (j := 6) (N := n_du) (names := (defScope sLDue).names) (N' := ["_law_k", "_law_near"]) (k := 1) (pull := [5]) (tt := tTest (tOp (rIn K true) (tVar 0) (tVar 1))) (te := tVar 0) rfl sc_du.nd rfl rfl ⟨by rfl, by decide +kernel, by decide +kernel, by rfl, by decide +kernel, by decide +kernel⟩ rfl rfl (pi_range1 rfl T.range (pa_cons (pv 4) pa_nil)) (fun _ _ _ _ _ _ => pg_name (i := 0) nd_du3 rfl (Or.inl rfl)) (fun _ _ _ _ _ _ => pt_cmpR op_notIn_seq (pv 0) (pv 1) (by with_unfolding_all rfl)) (fun _ _ _ _ _ _ => pv 0))
      (pss_cons (ps_if (pt_cmpR op_gt (pe_callB call_len_seq rfl T.len PySem.boot_len (pa_cons (pv 6) pa_nil)) pe_int (nomark _)) (pss_one (ps_ret (pe_tup (pa_cons pe_str (pa_cons (pe_ix ix_list (pv 6) pe_int (fun _ _ => rfl)) pa_nil))))) pss_nil)
      (pss_one (ps_ret (pe_tup (pa_cons pe_str (pa_cons (pe_tup (pa_cons (pe_callTy call_tuple_of rfl T.tuple boot_tuple (pa_cons (pe_ix ix_list (pv 3) pe_int (fun _ _ => rfl)) pa_nil)) (pa_cons (pe_callTy call_tuple_of rfl T.tuple boot_tuple (pa_cons (pe_ix ix_list (pv 3) pe_int (fun _ _ => rfl)) pa_nil)) pa_nil))) pa_nil))))))))))))))), ?_⟩
    have big : 1000 ≤ sizeLine := by decide
    have two : 2 ≤ sizeLine := by decide
    refine ⟨by show 1 ≤ sizeLine; decide, fun l hl => ?_⟩
    have s1 : Same H (upd H l (.lst [.str (Str.ofString "")])) := same_upd (Same.refl H) hl
    have e1 : (upd H l (.lst [.str (Str.ofString "")])) l = some (.lst (wv (spf []))) := by rw [upd_same, empty_eq]; rfl
    revert s1 e1
    generalize (upd H l (.lst [.str (Str.ofString "")])) = H1
    intro s1 e1
    dsimp only [tSeq, tAsg, gName]
    refine ⟨_, rfl, txt z, rfl, for_str (fun i σ H3 => ∃ o2, σ = [some (.str (txt z)), some (.ref l), o2, none, none, none, none] ∧ Same H H3 ∧ H3 l = some (.lst (wv (spf (z.take i))))) ⟨_, rfl, s1, e1⟩ ?_ ?_⟩
    · rintro i c σ H3 hc ⟨o2, rfl, s3, hl3⟩
      rw [txt_get] at hc
      have tk : z.take (i + 1) = z.take i ++ [c] := by rw [List.take_add_one, hc]; rfl
      obtain ⟨sm1, sm2⟩ := spf_small (z.take i)
      have hlen : (z.take i).length ≤ 200 := by rw [List.length_take]; omega
      rw [tk, spf_snoc]
      have hne := spf_ne (z.take i)
      revert hl3 hne sm1 sm2
      generalize spf (z.take i) = ws
      intro hl3 sm1 sm2 hne
      unfold stw
      refine ⟨_, rfl, rfl, _, rfl, ?_⟩
      rw [blank_eq]
      by_cases e : c = 32
      · rw [decide_eq_true (by rw [e]; rfl), if_pos e]
        refine iteT ?_
        refine ⟨_, rfl, .inl ⟨rfl, _, SqL.of hl3⟩, l, _, _, rfl, rfl, hl3, by rw [wv_len]; exact small1000 (by omega), ?_⟩
        refine ⟨_, rfl, same_upd s3 hl, ?_⟩
        rw [upd_same, empty_eq]
        unfold wv; rw [List.map_append]; rfl
      · rw [decide_eq_false (fun q => e (by have := txt_inj (V.str.inj q); simpa using this)), if_neg e]
        refine iteF ?_
        have hsp := last_split hne
        revert hsp sm1 sm2 hl3
        generalize ws.dropLast = wd
        generalize ws.getLastD [] = wl
        intro hl3 sm1 sm2 hsp
        subst hsp
        have hwl : wl.length ≤ 200 := by have := sm2 wl (by simp); omega
        have hat : atI (wv (wd ++ [wl])) (-1) = some (.str (txt wl)) := by
          unfold atI ixN
          rw [if_neg (by decide), wv_len, List.length_append, List.length_singleton, if_pos (by omega)]
          have e9 : ((-1 : Int) + ((wd.length + 1 : Nat) : Int)).toNat = wd.length := by omega
          show (wv (wd ++ [wl]))[((-1 : Int) + ((wd.length + 1 : Nat) : Int)).toNat]? = _
          rw [e9]
          unfold wv; simp
        refine ⟨_, rfl, _, rfl, l, _, _, _, rfl, rfl, SqL.of hl3, hat, _, rfl, _, _, rfl, rfl, ?_, ?_⟩
        · rw [txt_len]; show _ + 1 ≤ _; omega
        rw [txt_one, txt_app]
        refine ⟨_, rfl, _, rfl, l, _, _, wd.length, rfl, rfl, hl3, ?_, ?_⟩
        · unfold ixN
          rw [if_neg (by decide), wv_len, List.length_append, List.length_singleton, if_pos (by omega)]
          congr 1; omega
        refine ⟨_, rfl, same_upd s3 hl, ?_⟩
        rw [upd_same]
        unfold wv
        rw [List.map_append, List.map_append]
        congr 2
        rw [List.set_append_right _ _ (by simp)]
        simp
    · rintro σ H3 ⟨o2, rfl, s3, hl3⟩
      rw [txt_len, List.take_length] at hl3
      obtain ⟨sm1, sm2⟩ := spf_small z
      have fin0 : pairOk (spf z) = false → ∀ H' : Hp, Same H H' → (2 ≤ sizeLine ∧ ∀ p, H' p = none → Q (.ref p) (upd H' p (.tup [.str (Str.ofString "text"), .non]))) := fun hp H' s' => ⟨two, fun p hp' => k _ p (s'.trans (same_upd (Same.refl _) hp')) (.inl ⟨hp, upd_same⟩)⟩
      refine ⟨_, rfl, l, _, rfl, .inl (SqL.of hl3), rfl, _, rfl, ?_⟩
      rw [wv_len]
      by_cases h2 : (spf z).length = 2
      case neg =>
        rw [decide_eq_false (fun q => h2 (by have := V.int.inj q; omega))]
        refine iteT ?_
        exact fin0 (pair_len h2) H3 s3
      rw [decide_eq_true (by rw [h2]; rfl)]
      refine iteF ?_
      obtain ⟨wa, wb, ew⟩ : ∃ wa wb, spf z = [wa, wb] := by
        match spf z, h2 with
        | [wa, wb], _ => exact ⟨wa, wb, rfl⟩
      have la : wa.length ≤ 200 := by have := sm2 wa (by rw [ew]; simp); omega
      have lb : wb.length ≤ 200 := by have := sm2 wb (by rw [ew]; simp); omega
      have hl4 := hl3
      rw [ew] at hl4
      refine ⟨_, rfl, l, _, 0, _, rfl, rfl, SqL.of hl4, atI_nat (j := 0) rfl, txt wa, rfl, by rw [txt_len]; omega, _, rfl, l, _, 1, _, rfl, rfl, SqL.of hl4, atI_nat (j := 1) rfl, txt wb, rfl, by rw [txt_len]; omega, rfl, _, rfl, ?_⟩
      rw [txt_len, txt_len, dec_n7]
      by_cases hab : wa.length = wb.length
      case neg =>
        rw [decide_eq_false hab]
        refine iteT ?_
        exact fin0 (by rw [ew]; show (decide _ && _ && _) = false; rw [decide_eq_false hab]; rfl) H3 s3
      rw [decide_eq_true hab]
      refine iteF ?_
      refine ⟨_, rfl, l, _, 0, _, rfl, rfl, SqL.of hl4, atI_nat (j := 0) rfl, txt wa, rfl, by rw [txt_len]; omega, ?_⟩
      rw [txt_len]
      refine ⟨_, _, rfl, rfl, _, rfl, ?_⟩
      by_cases h1 : 1 ≤ wa.length
      case neg =>
        rw [decide_eq_false (by omega)]
        refine iteF ?_
        refine ⟨_, rfl, ?_⟩
        refine iteT ?_
        exact fin0 (by rw [ew]; show (decide _ && wordOk wa && _) = false; unfold wordOk; rw [decide_eq_false h1]; simp) H3 s3
      rw [decide_eq_true (by omega)]
      refine iteT ?_
      refine ⟨_, _, rfl, rfl, _, rfl, ?_⟩
      by_cases h36 : wa.length ≤ 36
      case neg =>
        rw [decide_eq_false (by omega)]
        refine iteT ?_
        exact fin0 (by rw [ew]; show (decide _ && wordOk wa && _) = false; unfold wordOk; rw [decide_eq_false h36]; simp) H3 s3
      rw [decide_eq_true (by omega)]
      refine iteF ?_
      dsimp only [tNext, tSeq, tAsg, gName]
      refine compLines7 (K := K) (l := l) (wa := wa) (wb := wb) rfl hl4 rfl (by omega) (by omega) (by omega) (by omega) fun H4 d pa pb s4 hd0 hd hpa hpb => ?_
      have s14 := s3.trans s4
      refine ⟨_, rfl, d, _, 0, _, rfl, rfl, SqL.of hd, atI_nat (j := 0) rfl, _, rfl, d, _, 1, _, rfl, rfl, SqL.of hd, atI_nat (j := 1) rfl, pa, pb, _, _, rfl, rfl, hpa, hpb, by simp; omega, fun pc hpc => ?_⟩
      have s5 : Same H4 (upd H4 pc (.lst (((wa ++ wb).map sgn).map V.int))) := same_upd (Same.refl _) hpc
      have e5 : (upd H4 pc (.lst (((wa ++ wb).map sgn).map V.int))) pc = some (.lst (((wa ++ wb).map sgn).map V.int)) := upd_same
      have eo : (wa.map sgn).map V.int ++ (wb.map sgn).map V.int = ((wa ++ wb).map sgn).map V.int := by simp
      rw [eo]
      revert s5 e5
      generalize (upd H4 pc (.lst (((wa ++ wb).map sgn).map V.int))) = H5
      intro s5 e5
      have s15 := s14.trans s5
      refine ⟨pc, (wa ++ wb).map sgn, rfl, SqL.of e5, (fun q => by have := congrArg List.length q; rw [List.length_map, List.length_append, List.length_nil] at this; omega), fun m hm hmn => ?_⟩
      refine ⟨_, _, rfl, rfl, _, rfl, ?_⟩
      by_cases hneg : m < 0
      · rw [decide_eq_true hneg]
        refine iteT ?_
        refine fin0 ?_ H5 s15
        obtain ⟨c, hc, ec⟩ := List.mem_map.mp hm
        have hno : c ∉ (List.range 36).map sg := fun q => by
          unfold sgn at ec
          rw [if_pos q] at ec
          omega
        rw [ew]
        exact pair_bad hc hno
      rw [decide_eq_false hneg]
      refine iteF ?_
      have all0 : ∀ c ∈ wa ++ wb, 0 ≤ sgn c := fun c hc => by have := hmn _ (List.mem_map.mpr ⟨c, hc, rfl⟩); omega
      obtain ⟨r, er, hr36, es⟩ := words_of (w := wa) fun c hc => all0 c (List.mem_append_left _ hc)
      obtain ⟨u, eu, hu36, et⟩ := words_of (w := wb) fun c hc => all0 c (List.mem_append_right _ hc)
      subst er eu
      rw [es, L7nv] at hpa
      rw [et, L7nv] at hpb
      rw [word_len] at h1 h36 la
      rw [word_len, word_len] at hab
      have hpa5 := s5 _ _ hpa
      have hpb5 := s5 _ _ hpb
      have hd5 := s5 _ _ hd
      have fin1 : AnsK z r u H Q := ⟨fun hn H' p s' hp => k H' p s' (.inr ⟨r, u, ew, hr36, hu36, hab, h1, h36, .inl ⟨hn, hp⟩⟩), fun n rr ru h1' h36' => ⟨fun g f0 t0 gs0 eg H' p s' hp => k H' p s' (.inr ⟨r, u, ew, hr36, hu36, hab, h1, h36, .inr ⟨n, rr, ru, h1', h36', .inl ⟨g, f0, t0, gs0, eg, hp⟩⟩⟩), fun hg H' p a s' hp ha => k H' p s' (.inr ⟨r, u, ew, hr36, hu36, hab, h1, h36, .inr ⟨n, rr, ru, h1', h36', .inr ⟨hg, a, hp, ha⟩⟩⟩)⟩⟩
      clear k fin0
      obtain ⟨f1, f2⟩ := fin1
      have rowOf : ∀ {n : Nat} {r S : List Nat}, S.Perm r → S = List.range n → Row n r := fun {n r S} p e => by
        rw [e] at p
        exact ⟨by rw [← p.length_eq, List.length_range], p.nodup_iff.mp List.nodup_range, fun x hx => List.mem_range.mp (p.mem_iff.mpr hx)⟩
      obtain ⟨n, hn⟩ : ∃ n, r.length = n := ⟨_, rfl⟩
      refine ⟨_, rfl, d, _, 0, _, rfl, rfl, SqL.of hd5, atI_nat (j := 0) rfl, pa, _, rfl, .inl (SqL.of hpa5), ?_⟩
      rw [nv_len, hn]
      dsimp only [gName, tSeq, tAsg]
      have noGood : ∀ {S : List Nat} (w : List Nat), (w = r ∨ w = u) → S.Perm w → S.Pairwise (· ≤ ·) → S ≠ List.range n → ¬ ∃ m, Good2 m (nv r) (nv u) := fun {S} w hw pS oS hS ⟨m, _, _, ⟨r', e1, rr⟩, ⟨u', e2, ru⟩⟩ => by
        have e1 := nv_inj e1
        have e2 := nv_inj e2
        subst e1 e2
        have em : m = n := by rw [← hn, rr.len]
        subst em
        rcases hw with rfl | rfl
        · exact hS (rr.sorted pS oS)
        · exact hS (ru.sorted pS oS)
      have fin2 : (¬ ∃ m, Good2 m (nv r) (nv u)) → ∀ H' : Hp, Same H H' → (2 ≤ sizeLine ∧ ∀ p, H' p = none → Q (.ref p) (upd H' p (.tup [.str (Str.ofString "none"), .non]))) := fun hg H' s' => ⟨two, fun p hp' => f1 hg _ p (s'.trans (same_upd (Same.refl _) hp')) upd_same⟩
      refine ⟨_, rfl, d, _, 0, _, rfl, rfl, SqL.of hd5, atI_nat (j := 0) rfl, pa, r, rfl, .inl (SqL.of hpa5), by omega, fun q1 S1 hq1 pS1 oS1 => ?_⟩
      have s6 : Same H5 (upd H5 q1 (.lst (nv S1))) := same_upd (Same.refl _) hq1
      have e6 : (upd H5 q1 (.lst (nv S1))) q1 = some (.lst (nv S1)) := upd_same
      revert s6 e6
      generalize (upd H5 q1 (.lst (nv S1))) = H6
      intro s6 e6
      refine ⟨_, rfl, _, rfl, fun rg hrg => ⟨rg, n, rfl, upd_same, by omega, fun lr hlr => ?_⟩⟩
      have s7 : Same H6 (upd (upd H6 rg (.rng 0 (n : Int))) lr (.lst (nv (List.range n)))) := (same_upd (Same.refl H6) hrg).trans (same_upd (Same.refl _) hlr)
      have e7 : (upd (upd H6 rg (.rng 0 (n : Int))) lr (.lst (nv (List.range n)))) lr = some (.lst (nv (List.range n))) := upd_same
      revert s7 e7
      generalize (upd (upd H6 rg (.rng 0 (n : Int))) lr (.lst (nv (List.range n)))) = H7
      intro s7 e7
      have s57 := s6.trans s7
      have s17 := s15.trans s57
      refine ⟨ld S1, ld (List.range n), ld_dt (SqL.of (s7 _ _ e6)), ld_dt (SqL.of e7), ld_lay _, ld_lay _, unitsD hr (ld_depth _), _, rfl, ?_⟩
      show if (!PyData.eqv (ld S1) (ld (List.range n))) = true then _ else _
      rw [ld_eqv]
      by_cases c1 : S1 = List.range n
      case neg =>
        rw [decide_eq_false c1]
        refine iteT ?_
        exact fin2 (noGood r (.inl rfl) pS1 oS1 c1) H7 s17
      rw [decide_eq_true c1]
      refine iteF ?_
      have rr : Row n r := rowOf pS1 c1
      refine ⟨_, rfl, d, _, 1, _, rfl, rfl, SqL.of (s57 _ _ hd5), atI_nat (j := 1) rfl, pb, u, rfl, .inl (SqL.of (s57 _ _ hpb5)), by omega, fun q2 S2 hq2 pS2 oS2 => ?_⟩
      have s8 : Same H7 (upd H7 q2 (.lst (nv S2))) := same_upd (Same.refl _) hq2
      have e8 : (upd H7 q2 (.lst (nv S2))) q2 = some (.lst (nv S2)) := upd_same
      revert s8 e8
      generalize (upd H7 q2 (.lst (nv S2))) = H8
      intro s8 e8
      refine ⟨_, rfl, _, rfl, fun rg hrg => ⟨rg, n, rfl, upd_same, by omega, fun lr hlr => ?_⟩⟩
      have s9 : Same H8 (upd (upd H8 rg (.rng 0 (n : Int))) lr (.lst (nv (List.range n)))) := (same_upd (Same.refl H8) hrg).trans (same_upd (Same.refl _) hlr)
      have e9 : (upd (upd H8 rg (.rng 0 (n : Int))) lr (.lst (nv (List.range n)))) lr = some (.lst (nv (List.range n))) := upd_same
      revert s9 e9
      generalize (upd (upd H8 rg (.rng 0 (n : Int))) lr (.lst (nv (List.range n)))) = H9
      intro s9 e9
      have s79 := s8.trans s9
      have s59 := s57.trans s79
      have s19 := s15.trans s59
      refine ⟨ld S2, ld (List.range n), ld_dt (SqL.of (s9 _ _ e8)), ld_dt (SqL.of e9), ld_lay _, ld_lay _, unitsD hr (ld_depth _), _, rfl, ?_⟩
      show if (!PyData.eqv (ld S2) (ld (List.range n))) = true then _ else _
      rw [ld_eqv]
      by_cases c2 : S2 = List.range n
      case neg =>
        rw [decide_eq_false c2]
        refine iteT ?_
        exact fin2 (noGood u (.inr rfl) pS2 oS2 c2) H9 s19
      rw [decide_eq_true c2]
      refine iteF ?_
      have ru : Row n u := rowOf pS2 c2
      have hn1 : 1 ≤ n := by omega
      have hn36 : n ≤ 36 := by omega
      obtain ⟨g1, g2⟩ := f2 n rr ru hn1 hn36
      have hd9 := s59 _ _ hd5
      have hpa9 := s59 _ _ hpa5
      have hpb9 := s59 _ _ hpb5
      refine ⟨_, rfl, d, _, 0, _, rfl, rfl, SqL.of hd9, atI_nat (j := 0) rfl, _, rfl, d, _, 1, _, rfl, rfl, SqL.of hd9, atI_nat (j := 1) rfl, pa, pb, n, r, u, 0, rfl, .inl (SqL.of hpa9), .inl (SqL.of hpb9), rr, ru, hn1, hn36, fun H10 nl M s10 hnl0 hnl hM => ?_⟩
      dsimp only [gName, tSeq, tAsg]
      refine compFil (m := n) (rest := [some (.ref nl)]) (fun i => decide (i ∉ M)) (fun R hR => ⟨_, rfl, hR⟩) rfl (fun i H' R hi s' hR => ⟨_, rfl, _, rfl, nl, _, rfl, .inl (SqL.of (s' _ _ hnl)), rfl, nv_flat M, _, rfl, by show R (!inV (.int (i : Int)) (nv M)) H'; rw [inV_nv]; simpa using hR⟩) (by omega) fun H11 dl s11 hdl0 hdl => ?_
      change H11 dl = some (.lst (nv (lack n M))) at hdl
      have s911 := s10.trans s11
      have s111 := s19.trans s911
      refine ⟨_, rfl, dl, _, rfl, .inl (SqL.of hdl), _, _, rfl, rfl, _, rfl, ?_⟩
      rw [nv_len]
      rcases lack_grp rr ru hn1 hM with ⟨e1, e2⟩ | ⟨f, tl, g, t', gs, e1, e2, hf⟩
      · rw [e1, decide_eq_false (by decide)]
        refine iteF ?_
        refine ⟨_, rfl, d, _, 0, _, rfl, rfl, SqL.of (s911 _ _ hd9), atI_nat (j := 0) rfl, pa, _, rfl, .inl ⟨SqL.of (s911 _ _ hpa9), fun p1 hp1 => ?_⟩⟩
        have s12 := same_upd (o := .tup (nv r)) (Same.refl H11) hp1
        have g12 : (upd H11 p1 (.tup (nv r))) p1 = some (.tup (nv r)) := upd_same
        revert s12 g12
        generalize (upd H11 p1 (.tup (nv r))) = H12
        intro s12 g12
        refine ⟨_, rfl, d, _, 1, _, rfl, rfl, SqL.of (s12 _ _ (s911 _ _ hd9)), atI_nat (j := 1) rfl, pb, _, rfl, .inl ⟨SqL.of (s12 _ _ (s911 _ _ hpb9)), fun p2 hp2 => ?_⟩⟩
        have s13 := same_upd (o := .tup (nv u)) (Same.refl H12) hp2
        have g13 : (upd H12 p2 (.tup (nv u))) p2 = some (.tup (nv u)) := upd_same
        revert s13 g13
        generalize (upd H12 p2 (.tup (nv u))) = H13
        intro s13 g13
        refine ⟨two, fun p3 hp3 => ?_⟩
        have s14' := same_upd (o := .tup [.ref p1, .ref p2]) (Same.refl H13) hp3
        have g14 : (upd H13 p3 (.tup [.ref p1, .ref p2])) p3 = some (.tup [.ref p1, .ref p2]) := upd_same
        revert s14' g14
        generalize (upd H13 p3 (.tup [.ref p1, .ref p2])) = H14
        intro s14' g14
        refine ⟨two, fun p4 hp4 => ?_⟩
        have s15' := same_upd (o := .tup [.str (Str.ofString "sheet"), .ref p3]) (Same.refl H14) hp4
        exact g2 (by omega) _ p4 p3 (s111.trans (s12.trans (s13.trans (s14'.trans s15')))) upd_same ⟨p1, p2, s15' _ _ g14, s15' _ _ (s14' _ _ (s13 _ _ g12)), s15' _ _ (s14' _ _ g13)⟩
      · rw [e1] at hdl
        rw [e1, decide_eq_true (by simp)]
        refine iteT ?_
        refine ⟨_, rfl, dl, _, 0, _, rfl, rfl, SqL.of hdl, atI_nat (j := 0) rfl, two, fun p4 hp4 => ?_⟩
        exact g1 g f t' gs e2 _ p4 (s111.trans (same_upd (Same.refl _) hp4)) upd_same
end
end K1
namespace K1
open PySem L2 Sq
def spCl7 (K : PySem.W.Frag) (CS CX CN CT : Addr) : Sp := fun vs H Q _ => ∃ (e D : Addr) (d : Option Addr) (b0 b1 b2 b3 : Bool), vs = [.ref e] ∧ XAt H e D d ∧ XCls K D ∧ PySem.W.kitOne K (.ref D) (.ref CS) = some b0 ∧ PySem.W.kitOne K (.ref D) (.ref CX) = some b1 ∧ PySem.W.kitOne K (.ref D) (.ref CN) = some b2 ∧ PySem.W.kitOne K (.ref D) (.ref CT) = some b3 ∧
  ∀ (H' : Hp) (l : Addr), Same H H' → H' l = some (.lst [.bl b0, .bl b1, .bl b2, .bl b3]) → Q (.ref l) H'
section
variable {P : Program} {w : World} {K : PySem.W.Frag} {mg : Str → Option Value} {base : Heap}
theorem sc_cl7 : FnScope ["_law_e"] ["_law_e"] (defScope sLClasses) := ⟨rfl, rfl, rfl, by decide +kernel, rfl, by decide +kernel, by decide +kernel⟩
theorem ok_cl7 {f CS CX CN CT : Addr} {fd : FuncData} (T : Bi mg) (mS : mg "SheetError" = some (.ref CS)) (mX : mg "NoText" = some (.ref CX)) (mN : mg "NoSheet" = some (.ref CN)) (mT : mg "NotTogether" = some (.ref CT)) (F : Fn K mg "_law_classes" sLClasses ["_law_e"] f fd) : FnOkU P w K mg base 1 f fd ["_law_e"] (spCl7 K CS CX CN CT) := by
  refine F.F.okU sc_cl7 (fun vs H Q E h => ?_) (fun cdv A outer s H vs Q E hr h => ?_)
  · obtain ⟨e, D, d, b0, b1, b2, b3, rfl, _⟩ := h; rfl
  · obtain ⟨e, D, d, b0, b1, b2, b3, rfl, hX, hx, k0, k1, k2, k3, k⟩ := h
    refine ⟨_, pss_one (ps_ret (pe_lst (pa_cons (pe_callB call_isExcD (by rfl) T.isin boot_isin (pa_cons (pv 0) (pa_cons (pe_glob (v := .ref CS) (by rfl) mS rfl) pa_nil))) (pa_cons (pe_callB call_isExcD (by rfl) T.isin boot_isin (pa_cons (pv 0) (pa_cons (pe_glob (v := .ref CX) (by rfl) mX rfl) pa_nil))) (pa_cons (pe_callB call_isExcD (by rfl) T.isin boot_isin (pa_cons (pv 0) (pa_cons (pe_glob (v := .ref CN) (by rfl) mN rfl) pa_nil))) (pa_cons (pe_callB call_isExcD (by rfl) T.isin boot_isin (pa_cons (pv 0) (pa_cons (pe_glob (v := .ref CT) (by rfl) mT rfl) pa_nil))) pa_nil)))))), ?_⟩
    refine ⟨_, rfl, e, _, D, d, _, _, rfl, rfl, hX, hx, k0, ?_⟩
    refine ⟨_, rfl, e, _, D, d, _, _, rfl, rfl, hX, hx, k1, ?_⟩
    refine ⟨_, rfl, e, _, D, d, _, _, rfl, rfl, hX, hx, k2, ?_⟩
    refine ⟨_, rfl, e, _, D, d, _, _, rfl, rfl, hX, hx, k3, ?_⟩
    exact ⟨by show 4 ≤ sizeLine; decide, fun l hl => k _ l (same_upd (Same.refl _) hl) upd_same⟩
theorem ok_whU {f : Addr} {fd : FuncData} (T : Bi mg) (F : Fn K mg "_law_whole" sWhole ["_law_found"] f fd) : FnOkU P w K mg base 1 f fd ["_law_found"] spWhole := by
  refine F.F.okU scWhole (fun vs H Q E h => ?_) (fun cdv A outer s H vs Q E hr h => ?_)
  · obtain ⟨i, rfl, _⟩ := h; rfl
  · obtain ⟨i, rfl, k⟩ := h
    refine ⟨_, pss_one (ps_ret (pe_and (pe_callB call_isinst (by rfl) T.isin boot_isin (pa_cons (pv 0) (pa_cons (pe_bltn (v := .ty "int") (by rfl) T.int boot_int rfl) pa_nil)))
      (pe_one (pe_not (pe_callB call_isinst (by rfl) T.isin boot_isin (pa_cons (pv 0) (pa_cons (pe_bltn (v := .ty "bool") (by rfl) T.bool boot_bool rfl) pa_nil))))))), ?_⟩
    refine ⟨_, rfl, _, _, _, _, rfl, .int i, kit_int_int K, _, rfl, ?_⟩
    refine iteT ?_
    exact ⟨_, rfl, _, _, _, _, rfl, .int i, kit_int_bool K, _, rfl, k⟩
end
end K1
namespace K1
open PySem L2 Sq
structure XC07 (K : PySem.W.Frag) (mg : Str → Option Value) (CS CX CN CT : Addr) : Prop where
  mS : mg "SheetError" = some (.ref CS)
  mX : mg "NoText" = some (.ref CX)
  mN : mg "NoSheet" = some (.ref CN)
  mT : mg "NotTogether" = some (.ref CT)
  fX : ClsF K CX
  fN : ClsF K CN
  fT : ClsF K CT
  xx : PySem.W.subIn K (.ref CX) (.ref CX) = some true
  nx : PySem.W.subIn K (.ref CN) (.ref CX) = some false
  nn : PySem.W.subIn K (.ref CN) (.ref CN) = some true
  tx : PySem.W.subIn K (.ref CT) (.ref CX) = some false
  tn : PySem.W.subIn K (.ref CT) (.ref CN) = some false
  tt : PySem.W.subIn K (.ref CT) (.ref CT) = some true
  x0 : PySem.W.kitOne K (.ref CX) (.ref CS) = some true
  x1 : PySem.W.kitOne K (.ref CX) (.ref CX) = some true
  x2 : PySem.W.kitOne K (.ref CX) (.ref CN) = some false
  x3 : PySem.W.kitOne K (.ref CX) (.ref CT) = some false
  n0 : PySem.W.kitOne K (.ref CN) (.ref CS) = some true
  n1 : PySem.W.kitOne K (.ref CN) (.ref CX) = some false
  n2 : PySem.W.kitOne K (.ref CN) (.ref CN) = some true
  n3 : PySem.W.kitOne K (.ref CN) (.ref CT) = some false
  t0 : PySem.W.kitOne K (.ref CT) (.ref CS) = some true
  t1 : PySem.W.kitOne K (.ref CT) (.ref CX) = some false
  t2 : PySem.W.kitOne K (.ref CT) (.ref CN) = some false
  t3 : PySem.W.kitOne K (.ref CT) (.ref CT) = some true
  hd : PySem.W.hasDictIn K CT = true
  na : NoAttr K CT "square"
theorem cls_eq {K : PySem.W.Frag} {A' : Around} {CS CX CN CT e D : Addr} {d : Option Addr} {b0 b1 b2 b3 : Bool} {σ : St} {H : Hp} {Q : VK} (h3 : σ[3]? = some (some (.ref e))) (hX : XAt H e D d) (hx : XCls K D) (k0 : PySem.W.kitOne K (.ref D) (.ref CS) = some b0) (k1 : PySem.W.kitOne K (.ref D) (.ref CX) = some b1) (k2 : PySem.W.kitOne K (.ref D) (.ref CN) = some b2) (k3 : PySem.W.kitOne K (.ref D) (.ref CT) = some b3) (hu : A'.units + 10 < cLine) (k : ∀ H' : Hp, Same H H' → Q (.bl true) H') :
    tOp (rEqD K A' false) (tCall (spCl7 K CS CX CN CT) [] E0 (tCons (tVar 3) tNil)) (tLst (tCons (tC (.bl b0)) (tCons (tC (.bl b1)) (tCons (tC (.bl b2)) (tCons (tC (.bl b3)) tNil))))) σ H Q := by
  refine ⟨_, h3, e, D, d, b0, b1, b2, b3, rfl, hX, hx, k0, k1, k2, k3, fun H4 l4 s4 hl4 => ?_⟩
  refine ⟨by show 4 ≤ sizeLine; decide, fun l5 hl5 => ?_⟩
  have s5 := same_upd (o := .lst [.bl b0, .bl b1, .bl b2, .bl b3]) (Same.refl H4) hl5
  refine ⟨.list [.bool b0, .bool b1, .bool b2, .bool b3], .list [.bool b0, .bool b1, .bool b2, .bool b3], .lst (SqL.of (s5 _ _ hl4)) (.cons (.bl _) (.cons (.bl _) (.cons (.bl _) (.cons (.bl _) .nil)))), .lst (SqL.of upd_same) (.cons (.bl _) (.cons (.bl _) (.cons (.bl _) (.cons (.bl _) .nil)))), rfl, rfl, ?_, ?_⟩
  · have : (PyData.list [.bool b0, .bool b1, .bool b2, .bool b3]).depth ≤ 5 := by cases b0 <;> cases b1 <;> cases b2 <;> cases b3 <;> decide
    have := Nat.min_le_left (PyData.list [.bool b0, .bool b1, .bool b2, .bool b3]).depth (PyData.list [.bool b0, .bool b1, .bool b2, .bool b3]).depth
    omega
  · have e : PyData.eqv (.list [.bool b0, .bool b1, .bool b2, .bool b3]) (.list [.bool b0, .bool b1, .bool b2, .bool b3]) = true := by cases b0 <;> cases b1 <;> cases b2 <;> cases b3 <;> rfl
    rw [if_neg (by decide), e]
    exact k _ (s4.trans s5)
def spAs07 : Sp := fun vs H Q _ => ∃ z : List Nat, vs = [.str (txt z)] ∧ z.length ≤ 200 ∧ ∀ (H' : Hp) (t m : Addr), Same H H' → H' t = some (.tup [.ref m, .bl true]) → AnsAt z H' m → Q (.ref t) H'
section
variable {P : Program} {w : World} {K : PySem.W.Frag} {mg : Str → Option Value} {base : Heap}
abbrev n_as7 : List Str := ["_law_text_here", "_law_told", "_law_fine", "_law_e"]
theorem sc_as7 : FnScope n_as7 ["_law_text_here"] (defScope sAsked) := ⟨rfl, rfl, rfl, by decide +kernel, rfl, by decide +kernel, by decide +kernel⟩
set_option maxHeartbeats 2000000 in
theorem ok_as7 {f fr fc fw CS CX CN CT : Addr} {fd dr dc dw : FuncData} (T : Bi mg) (C : XC07 K mg CS CX CN CT) (F : Fn K mg "_law_asked" sAsked ["_law_text_here"] f fd)
    (FR : Fn K mg "read" sRead ["text"] fr dr) (GR : FnOk P w K mg base (CX1 P w) 6 fr dr ["text"] (spRd7 CX CN CT))
    (FC : Fn K mg "_law_classes" sLClasses ["_law_e"] fc dc) (GC : FnOkU P w K mg base 1 fc dc ["_law_e"] (spCl7 K CS CX CN CT))
    (FW : Fn K mg "_law_whole" sWhole ["_law_found"] fw dw) (GW : FnOkU P w K mg base 1 fw dw ["_law_found"] spWhole) : FnOk P w K mg base CX0 7 f fd ["_law_text_here"] spAs07 := by
  refine F.F.ok sc_as7 (fun vs H Q E h => ?_) (fun cdv A outer s H vs Q E hr h => ?_)
  · obtain ⟨z, rfl, _⟩ := h; rfl
  · obtain ⟨z, rfl, hz, k⟩ := h
    have hrU : ∀ o, RoomU 1 ((A.deeper (PyProof.Rows.envOfC "_law_asked" (defScope sAsked) s.heap.objs.size f cdv)).mark o) := fun o => (hr.u.mono (by decide)).mark o
    have two : 2 ≤ sizeLine := by decide
    refine ⟨_, pss_cons (ps_set (i := 1) sc_as7.nd rfl (Or.inl rfl) pe_non)
      (pss_cons (ps_set (i := 2) sc_as7.nd rfl (Or.inl rfl) pe_bl)
      (pss_cons (ps_try rfl rfl (fun E' σ' pn W hx => ps1_set (i := 1) sc_as7.nd rfl (Or.inl rfl) (pe1_tup2 pe_str (pe1_call GR hr rfl FR.m FR.F.kp FR.b .nil hx (pa_cons (pv 0) pa_nil))))
        (ph_as (j := 3) (ts := fun e => tSeq (tAsg (tTup (tCons (tC (.str (Str.ofString "text"))) (tCons (tC .non) tNil))) (gName 1)) (tAsg (tOp (rEqD K ((A.deeper (PyProof.Rows.envOfC (Str.ofString "_law_asked") (defScope sAsked) s.heap.objs.size f cdv)).mark (some (.ref e))) false) (tCall (spCl7 K CS CX CN CT) [] E0 (tCons (tVar 3) tNil)) (tLst (tCons (tC (.bl true)) (tCons (tC (.bl true)) (tCons (tC (.bl false)) (tCons (tC (.bl false)) tNil)))))) (gName 2))) rfl C.fX.h rfl C.mX sc_as7.nd rfl rfl (fun pn e => pss_cons (ps_set (i := 1) sc_as7.nd rfl (Or.inl rfl) (pe_tup (pa_cons pe_str (pa_cons pe_non pa_nil)))) (pss_one (ps_set (i := 2) sc_as7.nd rfl (Or.inl rfl) (pe_cmpR op_eqD (pe_callU GC (hrU _) rfl FC.m FC.F.kp FC.b .nil (pa_cons (pv 3) pa_nil)) (pe_lst (pa_cons pe_bl (pa_cons pe_bl (pa_cons pe_bl (pa_cons pe_bl pa_nil))))) (nomark _))))) (ph_as (j := 3) (ts := fun e => tSeq (tAsg (tTup (tCons (tC (.str (Str.ofString "none"))) (tCons (tC .non) tNil))) (gName 1)) (tAsg (tOp (rEqD K ((A.deeper (PyProof.Rows.envOfC (Str.ofString "_law_asked") (defScope sAsked) s.heap.objs.size f cdv)).mark (some (.ref e))) false) (tCall (spCl7 K CS CX CN CT) [] E0 (tCons (tVar 3) tNil)) (tLst (tCons (tC (.bl true)) (tCons (tC (.bl false)) (tCons (tC (.bl true)) (tCons (tC (.bl false)) tNil)))))) (gName 2))) rfl C.fN.h rfl C.mN sc_as7.nd rfl rfl (fun pn e => pss_cons (ps_set (i := 1) sc_as7.nd rfl (Or.inl rfl) (pe_tup (pa_cons pe_str (pa_cons pe_non pa_nil)))) (pss_one (ps_set (i := 2) sc_as7.nd rfl (Or.inl rfl) (pe_cmpR op_eqD (pe_callU GC (hrU _) rfl FC.m FC.F.kp FC.b .nil (pa_cons (pv 3) pa_nil)) (pe_lst (pa_cons pe_bl (pa_cons pe_bl (pa_cons pe_bl (pa_cons pe_bl pa_nil))))) (nomark _))))) (ph_as (j := 3) (ts := fun e => tSeq (tAsg (tTup (tCons (tC (.str (Str.ofString "apart"))) (tCons (tXfld K (tVar 3) "square") tNil))) (gName 1)) (tAsg (tAndV (tOp (rEqD K ((A.deeper (PyProof.Rows.envOfC (Str.ofString "_law_asked") (defScope sAsked) s.heap.objs.size f cdv)).mark (some (.ref e))) false) (tCall (spCl7 K CS CX CN CT) [] E0 (tCons (tVar 3) tNil)) (tLst (tCons (tC (.bl true)) (tCons (tC (.bl false)) (tCons (tC (.bl false)) (tCons (tC (.bl true)) tNil)))))) (tCall spWhole [] E0 (tCons (tXfld K (tVar 3) "square") tNil))) (gName 2))) rfl C.fT.h rfl C.mT sc_as7.nd rfl rfl (fun pn e => pss_cons (ps_set (i := 1) sc_as7.nd rfl (Or.inl rfl) (pe_tup (pa_cons pe_str (pa_cons (pe_xfld (pv 3) rfl) pa_nil)))) (pss_one (ps_set (i := 2) sc_as7.nd rfl (Or.inl rfl) (pe_and (pe_cmpR op_eqD (pe_callU GC (hrU _) rfl FC.m FC.F.kp FC.b .nil (pa_cons (pv 3) pa_nil)) (pe_lst (pa_cons pe_bl (pa_cons pe_bl (pa_cons pe_bl (pa_cons pe_bl pa_nil))))) (nomark _)) (pe_one (pe_callU GW (hrU _) rfl FW.m FW.F.kp FW.b .nil (pa_cons (pe_xfld (pv 3) rfl) pa_nil))))))) ph_nil))))
      (pss_one (ps_ret (pe_tup (pa_cons (pv 1) (pa_cons (pv 2) pa_nil))))))), ?_⟩
    refine ⟨fun C' d' H' => Same H H' ∧ ((C' = .ref CX ∧ d' = none ∧ pairOk (spf z) = false) ∨ ∃ r u : List Nat, spf z = [word r, word u] ∧ (∀ x ∈ r, x < 36) ∧ (∀ x ∈ u, x < 36) ∧ r.length = u.length ∧ 1 ≤ r.length ∧ r.length ≤ 36 ∧ ((C' = .ref CN ∧ d' = none ∧ ¬ ∃ n, Good2 n (nv r) (nv u)) ∨ ∃ n g f0 t0 gs0 dx, Row n r ∧ Row n u ∧ 1 ≤ n ∧ n ≤ 36 ∧ C' = .ref CT ∧ d' = some dx ∧ grp n r u = g :: (f0 :: t0) :: gs0 ∧ H' dx = some (.xd [("square", .int (f0 : Int))]))), ?_, ?_⟩
    · refine ⟨_, rfl, z, rfl, by omega, fun hp H' s' => ⟨s', .inl ⟨rfl, rfl, hp⟩⟩, fun r u ew g1 g2 g3 g4 g5 => ⟨fun hn H' s' => ⟨s', .inr ⟨r, u, ew, g1, g2, g3, g4, g5, .inl ⟨rfl, rfl, hn⟩⟩⟩, fun n rr ru n1 n36 => ⟨fun hg H' a s' ha => ?_, fun g f0 t0 gs0 eg H' dx s' hdx => ⟨s', .inr ⟨r, u, ew, g1, g2, g3, g4, g5, .inr ⟨n, g, f0, t0, gs0, dx, rr, ru, n1, n36, rfl, rfl, eg, hdx⟩⟩⟩⟩⟩⟩
      refine ⟨two, fun p hp => ?_⟩
      have s2 := same_upd (o := .tup [.str (Str.ofString "sheet"), .ref a]) (Same.refl H') hp
      have hp' : (upd H' p (.tup [.str (Str.ofString "sheet"), .ref a])) p = some (.tup [.str (Str.ofString "sheet"), .ref a]) := upd_same
      revert s2 hp'
      generalize (upd H' p (.tup [.str (Str.ofString "sheet"), .ref a])) = H2
      intro s2 hp'
      refine ⟨_, rfl, _, rfl, two, fun t ht => ?_⟩
      have s3 := same_upd (o := .tup [.ref p, .bl true]) (Same.refl H2) ht
      exact k _ t p (s'.trans (s2.trans s3)) upd_same (.inr ⟨r, u, ew, g1, g2, g3, g4, g5, .inr ⟨n, rr, ru, n1, n36, .inr ⟨hg, a, s3 _ _ hp', (ha.same s2).same s3⟩⟩⟩)
    · rintro C' d' H' ⟨sh, ⟨rfl, rfl, hp⟩ | ⟨r, u, ew, g1, g2, g3, g4, g5, ⟨rfl, rfl, hg⟩ | ⟨n, g, f0, t0, gs0, dx, rr, ru, n1, n36, rfl, rfl, eg, hdx⟩⟩⟩
      · skip
        refine ⟨true, C.xx, ?_⟩
        refine iteT ?_
        intro e he
        have hE : (upd H' e (exO e (.ref CX) none)) e = some (exO e (.ref CX) none) := upd_same
        have s2 := sh.trans (same_upd (o := exO e (.ref CX) none) (Same.refl _) he)
        revert hE s2
        generalize (upd H' e (exO e (.ref CX) none)) = H2
        intro hE s2
        refine ⟨two, fun p1 hp1 => ?_⟩
        dsimp only [gName]
        have s3 := same_upd (o := .tup [.str (Str.ofString "text"), .non]) (Same.refl H2) hp1
        have hp1' : (upd H2 p1 (.tup [.str (Str.ofString "text"), .non])) p1 = some (.tup [.str (Str.ofString "text"), .non]) := upd_same
        revert s3 hp1'
        generalize (upd H2 p1 (.tup [.str (Str.ofString "text"), .non])) = H3
        intro s3 hp1'
        have hX3 : XAt H3 e CX none := ⟨s3 _ _ hE, fun _ z => by cases z⟩
        refine cls_eq rfl hX3 C.fX.x C.x0 C.x1 C.x2 C.x3 (by have := (hrU (some (.ref e))).un; omega) fun H4 s4 => ?_
        dsimp only [gName]
        refine ⟨_, rfl, _, rfl, two, fun t ht => ?_⟩
        have s6 := same_upd (o := .tup [.ref p1, .bl true]) (Same.refl H4) ht
        exact k _ t p1 (s2.trans (s3.trans (s4.trans s6))) upd_same (.inl ⟨hp, (s6 _ _ (s4 _ _ hp1'))⟩)
      · skip
        refine ⟨false, C.nx, ?_⟩
        rw [if_neg (by decide)]
        refine ⟨true, C.nn, ?_⟩
        refine iteT ?_
        intro e he
        have hE : (upd H' e (exO e (.ref CN) none)) e = some (exO e (.ref CN) none) := upd_same
        have s2 := sh.trans (same_upd (o := exO e (.ref CN) none) (Same.refl _) he)
        revert hE s2
        generalize (upd H' e (exO e (.ref CN) none)) = H2
        intro hE s2
        refine ⟨two, fun p1 hp1 => ?_⟩
        dsimp only [gName]
        have s3 := same_upd (o := .tup [.str (Str.ofString "none"), .non]) (Same.refl H2) hp1
        have hp1' : (upd H2 p1 (.tup [.str (Str.ofString "none"), .non])) p1 = some (.tup [.str (Str.ofString "none"), .non]) := upd_same
        revert s3 hp1'
        generalize (upd H2 p1 (.tup [.str (Str.ofString "none"), .non])) = H3
        intro s3 hp1'
        have hX3 : XAt H3 e CN none := ⟨s3 _ _ hE, fun _ z => by cases z⟩
        refine cls_eq rfl hX3 C.fN.x C.n0 C.n1 C.n2 C.n3 (by have := (hrU (some (.ref e))).un; omega) fun H4 s4 => ?_
        dsimp only [gName]
        refine ⟨_, rfl, _, rfl, two, fun t ht => ?_⟩
        have s6 := same_upd (o := .tup [.ref p1, .bl true]) (Same.refl H4) ht
        exact k _ t p1 (s2.trans (s3.trans (s4.trans s6))) upd_same (.inr ⟨r, u, ew, g1, g2, g3, g4, g5, .inl ⟨hg, (s6 _ _ (s4 _ _ hp1'))⟩⟩)
      · skip
        refine ⟨false, C.tx, ?_⟩
        rw [if_neg (by decide)]
        refine ⟨false, C.tn, ?_⟩
        rw [if_neg (by decide)]
        refine ⟨true, C.tt, ?_⟩
        refine iteT ?_
        intro e he
        have ned : dx ≠ e := ne_of_none hdx he
        have hE : (upd H' e (exO e (.ref CT) (some dx))) e = some (exO e (.ref CT) (some dx)) := upd_same
        have hD : (upd H' e (exO e (.ref CT) (some dx))) dx = some (.xd [("square", .int (f0 : Int))]) := by rw [upd_ne ned]; exact hdx
        have s2 := sh.trans (same_upd (o := exO e (.ref CT) (some dx)) (Same.refl _) he)
        revert hE s2 hD
        generalize (upd H' e (exO e (.ref CT) (some dx))) = H2
        intro hE hD s2
        refine ⟨_, rfl, e, CT, dx, _, _, rfl, hE, hD, C.fT.x, C.hd, C.na, rfl, ?_⟩
        refine ⟨two, fun p1 hp1 => ?_⟩
        dsimp only [gName]
        have s3 := same_upd (o := .tup [.str (Str.ofString "apart"), .int (f0 : Int)]) (Same.refl H2) hp1
        have hp1' : (upd H2 p1 (.tup [.str (Str.ofString "apart"), .int (f0 : Int)])) p1 = some (.tup [.str (Str.ofString "apart"), .int (f0 : Int)]) := upd_same
        revert s3 hp1'
        generalize (upd H2 p1 (.tup [.str (Str.ofString "apart"), .int (f0 : Int)])) = H3
        intro s3 hp1'
        have hX3 : XAt H3 e CT (some dx) := ⟨s3 _ _ hE, fun dx' z => ⟨_, by cases z; exact s3 _ _ hD⟩⟩
        refine cls_eq rfl hX3 C.fT.x C.t0 C.t1 C.t2 C.t3 (by have := (hrU (some (.ref e))).un; omega) fun H4 s4 => ?_
        refine ⟨_, rfl, ?_⟩
        refine iteT ?_
        refine ⟨_, rfl, e, CT, dx, _, _, rfl, s4 _ _ (s3 _ _ hE), s4 _ _ (s3 _ _ hD), C.fT.x, C.hd, C.na, rfl, _, rfl, ?_⟩
        dsimp only [gName]
        refine ⟨_, rfl, _, rfl, two, fun t ht => ?_⟩
        have s6 := same_upd (o := .tup [.ref p1, .bl true]) (Same.refl H4) ht
        exact k _ t p1 (s2.trans (s3.trans (s4.trans s6))) upd_same (.inr ⟨r, u, ew, g1, g2, g3, g4, g5, .inr ⟨n, rr, ru, n1, n36, .inl ⟨g, f0, t0, gs0, eg, (s6 _ _ (s4 _ _ hp1'))⟩⟩⟩)
end
end K1
namespace K1
open PySem L2 Sq
def spSg7 : Sp := fun vs H Q _ => ∃ c : Int, vs = [.int c] ∧ ∀ d : Nat, Q (.str (txt [d])) H
section
variable {P : Program} {w : World} {K : PySem.W.Frag} {mg : Str → Option Value} {base : Heap}
abbrev n_sg7 : List Str := ["_law_cell_here", "_law_some"]
theorem sc_sg7 : FnScope n_sg7 ["_law_cell_here"] (defScope sSign) := ⟨rfl, rfl, rfl, by decide +kernel, rfl, by decide +kernel, by decide +kernel⟩
theorem ok_sg7 {f : Addr} {fd : FuncData} (T : Bi mg) (F : Fn K mg "_law_sign" sSign ["_law_cell_here"] f fd) : FnOk P w K mg base CX0 1 f fd ["_law_cell_here"] spSg7 := by
  refine F.F.ok sc_sg7 (fun vs H Q E h => ?_) (fun cdv A outer s H vs Q E hr h => ?_)
  · obtain ⟨c, rfl, _⟩ := h; rfl
  · obtain ⟨c, rfl, k⟩ := h
    refine ⟨_, (pss_cons (ps_set (i := 1) sc_sg7.nd rfl (Or.inl rfl) pe_str)
      (pss_cons (ps_set (i := 1) sc_sg7.nd rfl (Or.inl rfl) (pe_op op_add_str (pv 1) pe_str))
      (pss_one (ps_ret (pe_ix ix_str (pv 1) (pe_op op_mod (pv 0) (pe_callB call_len_str rfl T.len PySem.boot_len (pa_cons (pv 1) pa_nil))) (fun _ _ => rfl)))))), ?_⟩
    have two : 1000 ≤ sizeLine := by decide
    refine ⟨_, rfl, _, _, rfl, rfl, by decide +kernel, ?_⟩
    try dsimp only
    obtain ⟨z, hz, hl⟩ : ∃ z : List Nat, (Str.ofString " !\"#$&'()*+,-./0123456789:;<=>?@ABCDEFGHIJKLMNOPQRSTUVWXYZ[\\]^_`" ++ Str.ofString "abcdefghijklmnopqrstuvwxyz{|}~") = txt z ∧ z.length = 94 := ⟨_, (txt_of _).symm, by decide +kernel⟩
    rw [hz]
    refine ⟨_, rfl, _, rfl, _, rfl, txt z, rfl, by rw [txt_len]; omega, ?_⟩
    rw [txt_len]
    obtain ⟨j, hj⟩ : ∃ j : Nat, c % (z.length : Int) = (j : Int) := ⟨(c % (z.length : Int)).toNat, (Int.toNat_of_nonneg (Int.emod_nonneg _ (by omega))).symm⟩
    have hjl : j < z.length := by have := Int.emod_lt_of_pos c (show (0 : Int) < z.length by omega); omega
    refine ⟨_, _, rfl, rfl, (by show (0 : Int) < (z.length : Int); omega), txt z, _, z[j], rfl, rfl, by rw [txt_len]; omega, ?_, k _⟩
    rw [hj, txt_cps]
    exact atI_nat (List.getElem?_eq_getElem hjl)
end
end K1
namespace L2
open PySem PySem.Spec PyProof.Rows
section
variable {X : Cx}
theorem part_of {v : Value} {o : Option Int} (p : IsPart v o) : ∃ q : Option (Int × Tok), v = partValue q ∧ q.map (·.1) = o := by
  cases p with
  | none => exact ⟨none, rfl, rfl⟩
  | int i t => exact ⟨some (i, t), rfl, rfl⟩
def rSlS : V → Option Int → Option Int → Hp → VK → Prop := fun x lo hi H Q => ∃ z : Str, x = .str z ∧ (StrLaws.sliceText z lo hi).length ≤ sizeLine ∧ Q (.str (StrLaws.sliceText z lo hi)) H
theorem sl_str : SlR X rSlS := by
  intro pins s σ H x v vl vu lo hi sl Q I rx hs pl pu h
  obtain ⟨z, rfl, hz, q⟩ := h
  obtain ⟨t, rfl⟩ := rx
  obtain ⟨l, rfl, el⟩ := part_of pl
  obtain ⟨u, rfl, eu⟩ := part_of pu
  subst el eu
  refine ⟨"str", _, F.slot_str_getitem.lookup, typeIs_str _ _ _, wpAny_getItem_str_slice (l := l) (u := u) (st := none) hs rfl ?_⟩
  exact post_val_or_str ⟨hz, fun t' k => ⟨.str _, H, I.tok k, ⟨_, rfl⟩, q⟩⟩
end
namespace RF
end RF
end L2
namespace K1
open PySem L2 Sq
theorem cut_to7 {z : List Nat} {j : Nat} (h : j ≤ z.length) : StrLaws.sliceText (txt z) none (some (j : Int)) = txt (z.take j) := by
  rw [StrLaws.sliceText_to ⟨by omega, by rw [txt_cps]; omega⟩, txt_cps]
  have : ((j : Int) - 0).toNat = j := by omega
  rw [this]; rfl
theorem cut_from7 {z : List Nat} {j : Nat} (h : j ≤ z.length) : StrLaws.sliceText (txt z) (some (j : Int)) none = txt (z.drop j) := by
  rw [StrLaws.sliceText_from ⟨by omega, by rw [txt_cps]; omega⟩, txt_cps, Int.toNat_natCast]
  have : (((z.length : Nat) : Int) - (j : Int)).toNat = z.length - j := by omega
  rw [this]
  have e : (z.drop j).take (z.length - j) = z.drop j := List.take_of_length_le (by simp)
  rw [e]; rfl
theorem cut_over7 {z : List Nat} {j : Nat} (h : z.length < j + 1) : (StrLaws.sliceText (txt z) (some ((j : Int) + 1)) none).cps.toList = [] := by
  have e : StrLaws.sliceText (txt z) (some ((j : Int) + 1)) none = StrLaws.sliceText (txt z) (some (z.length : Int)) none := by
    have a : ¬ ((j : Int) + 1 < 0) := by omega
    have b : ¬ ((z.length : Int) < 0) := by omega
    have c : min ((j : Int) + 1) (z.length : Int) = (z.length : Int) := by omega
    unfold StrLaws.sliceText
    rw [txt_len]
    simp [Builtin.Str.strSliceIndices, a, b, c]
  rw [e, cut_from7 (Nat.le_refl _)]
  simp [txt]
def spCh7 : Sp := fun vs H Q _ => ∃ (z : List Nat) (κ c : Int), vs = [.str (txt z), .int κ, .int c] ∧ 3 ≤ z.length ∧ z.length ≤ 80 ∧ ∀ (y : List Nat) (H' : Hp), Same H H' → y.length ≤ 200 → Q (.str (txt y)) H'
section
variable {P : Program} {w : World} {K : PySem.W.Frag} {mg : Str → Option Value} {base : Heap}
abbrev n_ch7 : List Str := ["_law_text_here", "_law_kind", "_law_cell_here", "_law_at", "_law_sign_here"]
theorem sc_ch7 : FnScope n_ch7 ["_law_text_here", "_law_kind", "_law_cell_here"] (defScope sLChanged) := ⟨rfl, rfl, rfl, by decide +kernel, rfl, by decide +kernel, by decide +kernel⟩
set_option maxHeartbeats 2000000 in
theorem ok_ch7 {f fs : Addr} {fd ds : FuncData} (T : Bi mg) (F : Fn K mg "_law_changed" sLChanged ["_law_text_here", "_law_kind", "_law_cell_here"] f fd) (FS : Fn K mg "_law_sign" sSign ["_law_cell_here"] fs ds) (GS : FnOk P w K mg base CX0 1 fs ds ["_law_cell_here"] spSg7) : FnOk P w K mg base CX0 2 f fd ["_law_text_here", "_law_kind", "_law_cell_here"] spCh7 := by
  refine F.F.ok sc_ch7 (fun vs H Q E h => ?_) (fun cdv A outer s H vs Q E hr h => ?_)
  · obtain ⟨z, κ, c, rfl, _⟩ := h; rfl
  · obtain ⟨z, κ, c, rfl, h3, hz, k⟩ := h
    have hr1 : Room 1 _ := hr.mono (by decide)
    refine ⟨_, (pss_cons (ps_set (i := 3) sc_ch7.nd rfl (Or.inl rfl) (pe_op op_mod (pv 2) (pe_op op_add (pe_callB call_len_str rfl T.len PySem.boot_len (pa_cons (pv 0) pa_nil)) pe_int)))
      (pss_cons (ps_set (i := 4) sc_ch7.nd rfl (Or.inl rfl) (pe_call GS hr1 rfl FS.m FS.F.kp FS.b .nil pass0 (pa_cons (pe_op op_fdiv (pv 2) pe_int) pa_nil)))
      (pss_cons (ps_if (pt_cmpR op_eq (pe_op op_mod (pe_op op_fdiv (pv 2) pe_int) pe_int) pe_int (nomark _)) (pss_one (ps_set (i := 4) sc_ch7.nd rfl (Or.inl rfl) (pe_ix ix_str (pv 0) (pe_op op_mod (pe_op op_fdiv (pv 2) pe_int) (pe_callB call_len_str rfl T.len PySem.boot_len (pa_cons (pv 0) pa_nil))) (fun _ _ => rfl)))) pss_nil)
      (pss_cons (ps_if (pt_cmpR op_eq (pv 1) pe_int (nomark _)) (pss_one (ps_ret (pe_op op_add_str (pe_op op_add_str (pe_slice sl_str (pv 0) po_none (po_some (pv 3))) (pv 4)) (pe_slice sl_str (pv 0) (po_some (pv 3)) po_none)))) pss_nil)
      (pss_cons (ps_if (pt_cmpR op_eq (pv 1) pe_int (nomark _)) (pss_one (ps_ret (pe_op op_add_str (pe_slice sl_str (pv 0) po_none (po_some (pv 3))) (pe_slice sl_str (pv 0) (po_some (pe_op op_add (pv 3) pe_int)) po_none)))) pss_nil)
      (pss_cons (ps_if (pt_cmpR op_eq (pv 1) pe_int (nomark _)) (pss_one (ps_ret (pe_op op_add_str (pe_op op_add_str (pe_slice sl_str (pv 0) po_none (po_some (pv 3))) (pv 4)) (pe_slice sl_str (pv 0) (po_some (pe_op op_add (pv 3) pe_int)) po_none)))) pss_nil)
      (pss_cons (ps_if (pt_cmpR op_eq (pv 1) pe_int (nomark _)) (pss_one (ps_ret (pe_op op_add_str (pe_op op_add_str (pv 0) pe_str) (pe_slice sl_str (pv 0) po_none (po_some (pe_op op_mod (pv 2) pe_int)))))) pss_nil)
      (pss_one (ps_ret (pe_ix ix_list (pe_lst (pa_cons pe_str (pa_cons pe_str pa_nil))) (pe_op op_mod (pv 2) pe_int) (fun _ _ => rfl))))))))))), ?_⟩
    have big : 1000 ≤ sizeLine := by decide
    obtain ⟨j, hj⟩ : ∃ j : Nat, c % ((z.length : Int) + 1) = (j : Int) := ⟨(c % ((z.length : Int) + 1)).toNat, (Int.toNat_of_nonneg (Int.emod_nonneg _ (by omega))).symm⟩
    have hjl : j ≤ z.length := by have := Int.emod_lt_of_pos c (show (0 : Int) < (z.length : Int) + 1 by omega); omega
    refine ⟨_, rfl, _, rfl, txt z, rfl, by rw [txt_len]; omega, ?_⟩
    rw [txt_len]
    refine ⟨_, _, rfl, rfl, _, _, rfl, rfl, (by show (0 : Int) < (z.length : Int) + 1; omega), ?_⟩
    try dsimp only [gName]
    rw [hj]
    try dsimp only
    refine ⟨_, rfl, _, _, rfl, rfl, ⟨by decide, by decide⟩, _, rfl, fun d => ?_⟩
    refine ⟨_, rfl, _, _, rfl, rfl, ⟨by decide, by decide⟩, _, _, rfl, rfl, (by show (0 : Int) < 3; decide), rfl, _, rfl, ?_⟩
    refine ite_rest' (fun σ H5 => ∃ d : Nat, σ = [some (.str (txt z)), some (.int κ), some (.int c), some (.int (j : Int)), some (.str (txt [d]))] ∧ H5 = H) (fun _ => ⟨d, rfl, rfl⟩) ?_ ?_
    rotate_left 1
    · intro rest _
      obtain ⟨i, hi⟩ : ∃ i : Nat, c / 80 % (z.length : Int) = (i : Int) := ⟨(c / 80 % (z.length : Int)).toNat, (Int.toNat_of_nonneg (Int.emod_nonneg _ (by omega))).symm⟩
      have hil : i < z.length := by have := Int.emod_lt_of_pos (c / 80) (show (0 : Int) < (z.length : Int) by omega); omega
      refine ⟨_, rfl, _, rfl, _, _, rfl, rfl, ⟨by decide, by decide⟩, _, rfl, txt z, rfl, by rw [txt_len]; omega, ?_⟩
      rw [txt_len]
      refine ⟨_, _, rfl, rfl, (by show (0 : Int) < (z.length : Int); omega), txt z, _, z[i], rfl, rfl, by rw [txt_len]; omega, ?_, rest _ _ ⟨z[i], rfl, rfl⟩⟩
      rw [hi, txt_cps]
      exact atI_nat (List.getElem?_eq_getElem hil)
    rintro σ H5 ⟨d, rfl, rfl⟩
    have fin : ∀ (y : List Nat), y.length ≤ 200 → Q (.str (txt y)) H5 := fun y hy => k y H5 (Same.refl _) hy
    have over : ∃ y : List Nat, StrLaws.sliceText (txt z) (some ((j : Int) + 1)) none = txt y ∧ y.length ≤ z.length := by
      by_cases e : j + 1 ≤ z.length
      · exact ⟨z.drop (j + 1), cut_from7 e, by simp⟩
      · exact ⟨_, (txt_of _).symm, by rw [cut_over7 (by omega)]; simp⟩
    obtain ⟨y1, ey1, hy1⟩ := over
    have ct := cut_to7 hjl
    have cf := cut_from7 hjl
    have l1 : (z.take j).length ≤ z.length := by simp; omega
    have l2 : (z.drop j).length ≤ z.length := by simp
    refine ⟨_, rfl, rfl, _, rfl, ?_⟩
    refine ite2 (fun _ => ?_) (fun _ => ?_)
    · refine ⟨_, rfl, _, rfl, _, rfl, txt z, rfl, ?_, ?_⟩
      · rw [ct, txt_len]; omega
      rw [ct]
      refine ⟨_, rfl, _, _, rfl, rfl, by rw [txt_len, txt_len]; show _ + 1 ≤ _; omega, ?_⟩
      rw [txt_app]
      refine ⟨_, rfl, _, rfl, _, rfl, txt z, rfl, by rw [cf, txt_len]; omega, ?_⟩
      rw [cf]
      refine ⟨_, _, rfl, rfl, by rw [txt_len, txt_len, List.length_append]; show _ + 1 + _ ≤ _; omega, ?_⟩
      rw [txt_app]
      exact fin _ (by rw [List.length_append, List.length_append]; show _ + 1 + _ ≤ _; omega)
    refine ⟨_, rfl, rfl, _, rfl, ?_⟩
    refine ite2 (fun _ => ?_) (fun _ => ?_)
    · refine ⟨_, rfl, _, rfl, _, rfl, txt z, rfl, ?_, ?_⟩
      · rw [ct, txt_len]; omega
      rw [ct]
      refine ⟨_, rfl, _, rfl, _, _, rfl, rfl, _, rfl, txt z, rfl, ?_, ?_⟩
      · rw [ey1, txt_len]; omega
      rw [ey1]
      refine ⟨_, _, rfl, rfl, by rw [txt_len, txt_len]; omega, ?_⟩
      rw [txt_app]
      exact fin _ (by rw [List.length_append]; omega)
    refine ⟨_, rfl, rfl, _, rfl, ?_⟩
    refine ite2 (fun _ => ?_) (fun _ => ?_)
    · refine ⟨_, rfl, _, rfl, _, rfl, txt z, rfl, ?_, ?_⟩
      · rw [ct, txt_len]; omega
      rw [ct]
      refine ⟨_, rfl, _, _, rfl, rfl, by rw [txt_len, txt_len]; show _ + 1 ≤ _; omega, ?_⟩
      rw [txt_app]
      refine ⟨_, rfl, _, rfl, _, _, rfl, rfl, _, rfl, txt z, rfl, ?_, ?_⟩
      · rw [ey1, txt_len]; omega
      rw [ey1]
      refine ⟨_, _, rfl, rfl, by rw [txt_len, txt_len, List.length_append]; show _ + 1 + _ ≤ _; omega, ?_⟩
      rw [txt_app]
      exact fin _ (by rw [List.length_append, List.length_append]; show _ + 1 + _ ≤ _; omega)
    refine ⟨_, rfl, rfl, _, rfl, ?_⟩
    refine ite2 (fun _ => ?_) (fun _ => ?_)
    · obtain ⟨q, hq⟩ : ∃ q : Nat, c % 4 = (q : Int) := ⟨(c % 4).toNat, by omega⟩
      have hq3 : q ≤ z.length := by omega
      have cq := cut_to7 hq3
      have lq : (z.take q).length ≤ z.length := by simp; omega
      refine ⟨_, rfl, _, _, rfl, rfl, by rw [blank_eq, txt_len, txt_len]; show _ + 1 ≤ _; omega, ?_⟩
      rw [blank_eq, txt_app]
      refine ⟨_, rfl, _, rfl, _, _, rfl, rfl, (by show (0 : Int) < 4; decide), ?_⟩
      try dsimp only
      rw [hq]
      refine ⟨_, rfl, txt z, rfl, by rw [cq, txt_len]; omega, ?_⟩
      rw [cq]
      refine ⟨_, _, rfl, rfl, by rw [txt_len, txt_len, List.length_append]; show _ + 1 + _ ≤ _; omega, ?_⟩
      rw [txt_app]
      exact fin _ (by rw [List.length_append, List.length_append]; show _ + 1 + _ ≤ _; omega)
    refine ⟨by show 2 ≤ sizeLine; decide, fun l hl => ?_⟩
    have s6 := same_upd (o := .lst [.str (Str.ofString ""), .str (Str.ofString " ")]) (Same.refl H5) hl
    have e6 : (upd H5 l (.lst [.str (Str.ofString ""), .str (Str.ofString " ")])) l = some (.lst [.str (Str.ofString ""), .str (Str.ofString " ")]) := upd_same
    revert s6 e6
    generalize (upd H5 l (.lst [.str (Str.ofString ""), .str (Str.ofString " ")])) = H6
    intro s6 e6
    obtain ⟨q, hq⟩ : ∃ q : Nat, c % 2 = (q : Int) := ⟨(c % 2).toNat, by omega⟩
    refine ⟨_, rfl, _, _, rfl, rfl, (by show (0 : Int) < 2; decide), ?_⟩
    try dsimp only
    rw [hq]
    have hq2 : q = 0 ∨ q = 1 := by omega
    rcases hq2 with rfl | rfl
    · refine ⟨l, _, 0, _, rfl, rfl, SqL.of e6, atI_nat (j := 0) rfl, ?_⟩
      rw [empty_eq]
      exact k [] H6 s6 (by decide)
    · refine ⟨l, _, 1, _, rfl, rfl, SqL.of e6, atI_nat (j := 1) rfl, ?_⟩
      rw [blank_eq]
      exact k [32] H6 s6 (by decide)
end
end K1
namespace K1
open PySem L2 Sq
def AnsD (z : List Nat) (D : PyData) : Prop := (pairOk (spf z) = false ∧ D = .tuple [.str (Str.ofString "text"), .none]) ∨ ∃ r u : List Nat, spf z = [word r, word u] ∧ pairOk (spf z) = true ∧
  (((¬ ∃ n, Good2 n (nv r) (nv u)) ∧ D = .tuple [.str (Str.ofString "none"), .none]) ∨ ∃ n, Row n r ∧ Row n u ∧ 1 ≤ n ∧ n ≤ 36 ∧ ((∃ g f0 t0 gs0, grp n r u = g :: (f0 :: t0) :: gs0 ∧ D = .tuple [.str (Str.ofString "apart"), .int (f0 : Int)]) ∨ ((grp n r u).length ≤ 1 ∧ D = .tuple [.str (Str.ofString "sheet"), sd r u])))
theorem word_inj7 {r r' : List Nat} (h : word r = word r') : r = r' := (List.map_inj_right (fun _ _ e => sg_inj e)).mp h
theorem AnsD.uniq {z : List Nat} {D D' : PyData} (h : AnsD z D) (h' : AnsD z D') : D = D' := by
  rcases h with ⟨p, rfl⟩ | ⟨r, u, e, p, hc⟩
  · rcases h' with ⟨_, rfl⟩ | ⟨r', u', _, p', _⟩
    · rfl
    · rw [p] at p'; cases p'
  · rcases h' with ⟨p', _⟩ | ⟨r', u', e', _, hc'⟩
    · rw [p] at p'; cases p'
    rw [e] at e'
    injection e' with q1 q2
    injection q2 with q2 _
    obtain rfl := word_inj7 q1
    obtain rfl := word_inj7 q2
    rcases hc with ⟨hg, rfl⟩ | ⟨n, rr, ru, n1, n36, hc⟩
    · rcases hc' with ⟨_, rfl⟩ | ⟨n, rr, ru, n1, n36, _⟩
      · rfl
      · exact absurd ⟨n, n1, n36, ⟨r, rfl, rr⟩, ⟨u, rfl, ru⟩⟩ hg
    · rcases hc' with ⟨hg, _⟩ | ⟨n', rr', ru', n1', n36', hc'⟩
      · exact absurd ⟨n, n1, n36, ⟨r, rfl, rr⟩, ⟨u, rfl, ru⟩⟩ hg
      obtain rfl : n = n' := by rw [← rr.len, rr'.len]
      rcases hc with ⟨g, f0, t0, gs0, eg, rfl⟩ | ⟨hl, rfl⟩
      · rcases hc' with ⟨g', f0', t0', gs0', eg', rfl⟩ | ⟨hl', _⟩
        · rw [eg] at eg'
          injection eg' with _ q
          injection q with q _
          injection q with q _
          rw [q]
        · rw [eg] at hl'; simp at hl'
      · rcases hc' with ⟨g', f0', t0', gs0', eg', _⟩ | ⟨_, rfl⟩
        · rw [eg'] at hl; simp at hl
        · rfl
theorem sd_dep7 (r u : List Nat) : (sd r u).depth ≤ 10 := by
  show max (PyData.depthAll (nd r) + 1) (max (PyData.depthAll (nd u) + 1) 0) + 1 ≤ 10
  rw [nd_depth, nd_depth]; decide
theorem AnsD.form {z : List Nat} {D : PyData} (h : AnsD z D) {P : PyData → Prop} (h1 : P (.tuple [.str (Str.ofString "text"), .none])) (h2 : P (.tuple [.str (Str.ofString "none"), .none])) (h3 : ∀ i : Int, P (.tuple [.str (Str.ofString "apart"), .int i])) (h4 : ∀ r u, P (.tuple [.str (Str.ofString "sheet"), sd r u])) : P D := by
  rcases h with ⟨_, rfl⟩ | ⟨r, u, _, _, ⟨_, rfl⟩ | ⟨n, _, _, _, _, ⟨_, f0, _, _, _, rfl⟩ | ⟨_, rfl⟩⟩⟩
  · exact h1
  · exact h2
  · exact h3 _
  · exact h4 _ _
theorem AnsD.lay {z : List Nat} {D : PyData} (h : AnsD z D) : D.canLay0 = true := h.form (P := fun D => D.canLay0 = true) (by decide +kernel) (by decide +kernel) (fun i => by show ((PyData.str (Str.ofString "apart")).canLay0 && (true && true)) = true; decide +kernel) fun r u => by
  show ((PyData.str (Str.ofString "sheet")).canLay0 && ((sd r u).canLay0 && true)) = true
  rw [sd_lay, show (PyData.str (Str.ofString "sheet")).canLay0 = true by decide +kernel]; rfl
theorem AnsD.dep {z : List Nat} {D : PyData} (h : AnsD z D) : D.depth ≤ 20 := h.form (P := fun D => D.depth ≤ 20) (by decide +kernel) (by decide +kernel) (fun i => by show max 0 (max 0 0) + 1 ≤ 20; decide) fun r u => by
  show max 0 (max (sd r u).depth 0) + 1 ≤ 20
  have := sd_dep7 r u
  omega
theorem AnsD.refl {z : List Nat} {D : PyData} (h : AnsD z D) : PyData.eqv D D = true := h.form (P := fun D => PyData.eqv D D = true) (by decide +kernel) (by decide +kernel) (fun i => by
    show (PyData.eqv (.str (Str.ofString "apart")) (.str (Str.ofString "apart")) && (PyData.eqv (.int i) (.int i) && true)) = true
    have : PyData.eqv (.int i) (.int i) = true := by show (i == i) = true; simp
    rw [this]; decide +kernel) fun r u => by
  show (PyData.eqv (.str (Str.ofString "sheet")) (.str (Str.ofString "sheet")) && (PyData.eqv (sd r u) (sd r u) && true)) = true
  rw [sd_eqv, show PyData.eqv (.str (Str.ofString "sheet")) (.str (Str.ofString "sheet")) = true by decide +kernel]; simp
theorem pair_ok7 {r u : List Nat} (h1 : ∀ x ∈ r, x < 36) (h2 : ∀ x ∈ u, x < 36) (h3 : r.length = u.length) (h4 : 1 ≤ r.length) (h5 : r.length ≤ 36) : pairOk [word r, word u] = true := by
  have ok : ∀ {w : List Nat}, (∀ x ∈ w, x < 36) → 1 ≤ w.length → w.length ≤ 36 → wordOk (word w) = true := fun {w} a b c => by
    unfold wordOk
    rw [word_len, decide_eq_true b, decide_eq_true c]
    show (List.all _ _) = true
    rw [List.all_eq_true]
    intro d hd
    obtain ⟨k, hk, rfl⟩ := List.mem_map.mp hd
    exact decide_eq_true (List.mem_map.mpr ⟨k, List.mem_range.mpr (a k hk), rfl⟩)
  show (decide _ && _ && _) = true
  rw [ok h1 h4 h5, ok h2 (by omega) (by omega), word_len, word_len, decide_eq_true h3]; rfl
theorem AnsAt.dt {K : PySem.W.Frag} {z : List Nat} {H : Hp} {t : Addr} (h : AnsAt z H t) : ∃ D, AnsD z D ∧ Dt K H (.ref t) D := by
  rcases h with ⟨p, ht⟩ | ⟨r, u, e, g1, g2, g3, g4, g5, hc⟩
  · exact ⟨_, .inl ⟨p, rfl⟩, .tup (SqT.of ht) (.cons (.str _) (.cons .non .nil))⟩
  have pk : pairOk (spf z) = true := by rw [e]; exact pair_ok7 g1 g2 g3 g4 g5
  rcases hc with ⟨hg, ht⟩ | ⟨n, rr, ru, n1, n36, ⟨g, f0, t0, gs0, eg, ht⟩ | ⟨hl, a, ht, ha⟩⟩
  · exact ⟨_, .inr ⟨r, u, e, pk, .inl ⟨hg, rfl⟩⟩, .tup (SqT.of ht) (.cons (.str _) (.cons .non .nil))⟩
  · exact ⟨_, .inr ⟨r, u, e, pk, .inr ⟨n, rr, ru, n1, n36, .inl ⟨g, f0, t0, gs0, eg, rfl⟩⟩⟩, .tup (SqT.of ht) (.cons (.str _) (.cons (.int _) .nil))⟩
  · exact ⟨_, .inr ⟨r, u, e, pk, .inr ⟨n, rr, ru, n1, n36, .inr ⟨hl, rfl⟩⟩⟩, .tup (SqT.of ht) (.cons (.str _) (.cons ha.dt .nil))⟩
theorem AnsAt.same {z : List Nat} {H H' : Hp} {t : Addr} (h : AnsAt z H t) (s : Same H H') : AnsAt z H' t := by
  rcases h with ⟨p, ht⟩ | ⟨r, u, e, g1, g2, g3, g4, g5, hc⟩
  · exact .inl ⟨p, s _ _ ht⟩
  refine .inr ⟨r, u, e, g1, g2, g3, g4, g5, ?_⟩
  rcases hc with ⟨hg, ht⟩ | ⟨n, rr, ru, n1, n36, ⟨g, f0, t0, gs0, eg, ht⟩ | ⟨hl, a, ht, ha⟩⟩
  · exact .inl ⟨hg, s _ _ ht⟩
  · exact .inr ⟨n, rr, ru, n1, n36, .inl ⟨g, f0, t0, gs0, eg, s _ _ ht⟩⟩
  · exact .inr ⟨n, rr, ru, n1, n36, .inr ⟨hl, a, s _ _ ht, ha.same s⟩⟩
def spLaw (K : PySem.W.Frag) : Sp := fun vs H Q _ => ∃ (a : Addr) (ns : List Int), vs = [.ref a] ∧ SqL K H a (ns.map V.int) ∧ ∀ H' : Hp, Q (.bl true) H'
section
variable {P : Program} {w : World} {K : PySem.W.Frag} {mg : Str → Option Value} {base : Heap}
abbrev n_law : List Str := ["_law_script", "_law_first", "_law_parts", "_law_right", "_law_up", "_law_named", "_law_text_here", "_law_due_here", "_law_turn"]
theorem sc_law : FnScope n_law ["_law_script"] (defScope sLaw) := ⟨rfl, rfl, rfl, by decide +kernel, rfl, by decide +kernel, by decide +kernel⟩
set_option maxHeartbeats 4000000 in
theorem ok_law {f fc fs fb ft fh fu fa : Addr} {fd dc ds db dt dh du da : FuncData} (T : Bi mg) (F : Fn K mg "law" sLaw ["_law_script"] f fd) (FC : Fn K mg "_law_cell" sCell ["_law_script", "_law_k"] fc dc) (GC : FnOk P w K mg base CX0 1 fc dc ["_law_script", "_law_k"] (spCell K))
    (FS : Fn K mg "_law_sheet" sSheet ["_law_script", "_law_at", "_law_many"] fs ds) (GS : FnOk P w K mg base CX0 3 fs ds ["_law_script", "_law_at", "_law_many"] (spSheet2 K))
    (FB : Fn K mg "_law_beside" sBeside ["_law_sheets", "_law_number"] fb db) (GB : FnOk P w K mg base CX0 2 fb db ["_law_sheets", "_law_number"] (spBes K))
    (FT : Fn K mg "_law_text" sText ["_law_lines_here"] ft dt) (GT : FnOk P w K mg base CX0 2 ft dt ["_law_lines_here"] (spTx7 K))
    (FH : Fn K mg "_law_changed" sLChanged ["_law_text_here", "_law_kind", "_law_cell_here"] fh dh) (GH : FnOk P w K mg base CX0 2 fh dh ["_law_text_here", "_law_kind", "_law_cell_here"] spCh7)
    (FU : Fn K mg "_law_due" sLDue ["_law_text_here"] fu du) (GU : FnOk P w K mg base CX0 2 fu du ["_law_text_here"] spDu07)
    (FA : Fn K mg "_law_asked" sAsked ["_law_text_here"] fa da) (GA : FnOk P w K mg base CX0 7 fa da ["_law_text_here"] spAs07) : FnOk P w K mg base CX0 8 f fd ["_law_script"] (spLaw K) := by
  refine F.F.ok sc_law (fun vs H Q E h => ?_) (fun cdv A outer s H vs Q E hr h => ?_)
  · obtain ⟨a, ns, rfl, _⟩ := h; rfl
  · obtain ⟨sc, ns, rfl, hS, k⟩ := h
    have hr1 : Room 1 _ := hr.mono (by decide)
    have hr2 : Room 2 _ := hr.mono (by decide)
    have hr3 : Room 3 _ := hr.mono (by decide)
    have hr7 : Room 7 _ := hr.mono (by decide)
    refine ⟨_, (pss_cons (ps_set (i := 1) sc_law.nd rfl (Or.inl rfl) (pe_call GC hr1 rfl FC.m FC.F.kp FC.b .nil pass0 (pa_cons (pv 0) (pa_cons pe_int pa_nil))))
      (pss_cons (ps_set (i := 2) sc_law.nd rfl (Or.inl rfl) (pe_lst (pa_cons (pe_call GS hr3 rfl FS.m FS.F.kp FS.b .nil pass0 (pa_cons (pv 0) (pa_cons pe_int (pa_cons (pe_op op_add pe_int (pe_op op_mod (pv 1) pe_int)) pa_nil)))) pa_nil)))
      (pss_cons (ps_if (pt_cmpR op_eq (pe_op op_mod (pe_op op_fdiv (pv 1) pe_int) pe_int) pe_int (nomark _)) (pss_one (ps_expr (pe_bm PySem.F.plainAttrs_list PySem.F.slot_list_append PySem.F.type_list_append mt_append (pv 2) (pa_cons (pe_call GS hr3 rfl FS.m FS.F.kp FS.b .nil pass0 (pa_cons (pv 0) (pa_cons pe_int (pa_cons (pe_op op_add pe_int (pe_op op_mod (pe_op op_fdiv (pv 1) pe_int) pe_int)) pa_nil)))) pa_nil)))) pss_nil)
      (pss_cons (ps_asg (pe_call GB hr2 rfl FB.m FB.F.kp FB.b .nil pass0 (pa_cons (pv 2) (pa_cons (pe_call GC hr1 rfl FC.m FC.F.kp FC.b .nil pass0 (pa_cons (pv 0) (pa_cons pe_int pa_nil))) pa_nil))) (pg_tup rfl (pgs_cons (pg_name (i := 3) sc_law.nd rfl (Or.inl rfl)) (pgs_cons (pg_name (i := 4) sc_law.nd rfl (Or.inl rfl)) (pgs_cons (pg_name (i := 5) sc_law.nd rfl (Or.inl rfl)) pgs_nil)))))
      (pss_cons (ps_set (i := 6) sc_law.nd rfl (Or.inl rfl) (pe_call GT hr2 rfl FT.m FT.F.kp FT.b .nil pass0 (pa_cons (pe_lst (pa_cons (pv 3) (pa_cons (pv 4) pa_nil))) pa_nil)))
      (pss_cons (ps_if (pt_cmpR op_eq (pe_op op_mod (pe_op op_fdiv (pv 1) pe_int) pe_int) pe_int (nomark _)) (pss_one (ps_set (i := 6) sc_law.nd rfl (Or.inl rfl) (pe_call GH hr2 rfl FH.m FH.F.kp FH.b .nil pass0 (pa_cons (pv 6) (pa_cons (pe_op op_mod (pe_op op_mod (pe_op op_fdiv (pv 1) pe_int) pe_int) pe_int) (pa_cons (pe_call GC hr1 rfl FC.m FC.F.kp FC.b .nil pass0 (pa_cons (pv 0) (pa_cons pe_int pa_nil))) pa_nil)))))) pss_nil)
      (pss_cons (ps_set (i := 7) sc_law.nd rfl (Or.inl rfl) (pe_call GU hr2 rfl FU.m FU.F.kp FU.b .nil pass0 (pa_cons (pv 6) pa_nil)))
      (pss_cons (ps_for PassesOwn.never rfl (pi_range1 rfl T.range (pa_cons pe_int pa_nil)) (pg_name (i := 8) sc_law.nd rfl (Or.inl rfl)) (pss_one (ps_if (pt_cmpR op_neD (pe_call GA hr7 rfl FA.m FA.F.kp FA.b .nil pass0 (pa_cons (pv 6) pa_nil)) (pe_tup (pa_cons (pv 7) (pa_cons pe_bl pa_nil))) (nomark _)) (pss_one (ps_ret pe_bl)) pss_nil)))
      (pss_one (ps_ret pe_bl)))))))))), ?_⟩
    have two : 2 ≤ sizeLine := by decide
    refine ⟨_, rfl, sc, ns, 0, rfl, hS, by decide, ?_⟩
    generalize ns.getD (Int.toNat 0) 0 = z
    obtain ⟨n1, e1, n11, n118⟩ : ∃ m : Nat, 1 + z % 18 = (m : Int) ∧ 1 ≤ m ∧ m ≤ 18 := ⟨(1 + z % 18).toNat, by omega, by omega, by omega⟩
    obtain ⟨n2, e2, n21, n218⟩ : ∃ m : Nat, 1 + z / 54 % 18 = (m : Int) ∧ 1 ≤ m ∧ m ≤ 18 := ⟨(1 + z / 54 % 18).toNat, by omega, by omega, by omega⟩
    refine ⟨_, rfl, _, rfl, _, _, rfl, rfl, (by show (0 : Int) < 18; decide), _, _, rfl, rfl, ?_⟩
    refine ⟨sc, ns, 3, n1, by show [V.ref sc, V.int 3, V.int (1 + z % 18)] = _; rw [e1], hS, by decide, n11, by omega, fun H1 b1 m1 r1 u1 s1 hb1 hSh1 hle1 => ?_⟩
    refine ⟨by show 1 ≤ sizeLine; decide, fun d hd0 => ?_⟩
    have sd := same_upd (o := .lst [.ref b1]) (Same.refl H1) hd0
    have hd : (upd H1 d (.lst [.ref b1])) d = some (.lst ([b1].map V.ref)) := upd_same
    have d0 : H d = none := s1.free hd0
    revert sd hd
    generalize (upd H1 d (.lst [.ref b1])) = H2
    intro sd hd
    have l1 := hSh1.row.len
    have p1 := hSh1.pos
    try dsimp only
    refine ⟨_, rfl, _, _, rfl, rfl, ⟨by decide, by decide⟩, _, _, rfl, rfl, (by show (0 : Int) < 3; decide), rfl, _, rfl, ?_⟩
    refine ite_rest' (fun σ H5 => ∃ (ss : List Addr) (Rs : List (List Nat × List Nat)), σ = [some (.ref sc), some (.int z), some (.ref d), none, none, none, none, none, none] ∧ Same H H5 ∧ H5 d = some (.lst (ss.map V.ref)) ∧ ShsAt H5 ss Rs ∧ (∀ R ∈ Rs, Sheet R.1.length R.1 R.2) ∧ (Rs.map fun R => R.1.length).sum ≤ 36 ∧ 1 ≤ (Rs.map fun R => R.1.length).sum ∧ ss.length ≤ 36) (fun _ => ⟨[b1], [(r1, u1)], rfl, s1.trans sd, hd, ⟨rfl, fun j s R h1 h2 => ?_⟩, ?_, ?_, ?_, by show 1 ≤ 36; decide⟩) ?_ ?_
    · match j, h1, h2 with
      | 0, h1, h2 => cases h1; cases h2; exact hb1.same sd
      | j + 1, h1, h2 => cases h1
    · intro R hR
      rw [List.mem_singleton.mp hR]
      show Sheet r1.length r1 u1
      rw [l1]; exact hSh1
    · show r1.length + 0 ≤ 36; omega
    · show 1 ≤ r1.length + 0; omega
    rotate_left 1
    · intro rest _
      refine ⟨_, rfl, .inl ⟨rfl, _, SqL.of hd⟩, _, rfl, _, rfl, _, _, rfl, rfl, ⟨by decide, by decide⟩, _, _, rfl, rfl, (by show (0 : Int) < 18; decide), _, _, rfl, rfl, ?_⟩
      refine ⟨sc, ns, 23, n2, by show [V.ref sc, V.int 23, V.int (1 + z / 54 % 18)] = _; rw [e2], (s1.trans sd).seq hS, by decide, n21, by omega, fun H3 b2 m2 r2 u2 s3 hb2 hSh2 hle2 => ?_⟩
      have hd3 := s3 _ _ hd
      have l2 := hSh2.row.len
      have p2 := hSh2.pos
      refine ⟨d, _, _, rfl, rfl, hd3, by show 1 < sizeLine; decide, ?_⟩
      have uu : ∀ {b : Addr} {r u : List Nat}, ShAt H3 b r u → ShAt (upd H3 d (.lst ([b1].map V.ref ++ [.ref b2]))) b r u := fun {b r u} ⟨p, q, x1, x2, x3⟩ => by
        have ne : ∀ {c : Addr} {xs : List V}, H3 c = some (.tup xs) → (upd H3 d (.lst ([b1].map V.ref ++ [.ref b2]))) c = some (.tup xs) := fun {c xs} hc => by rw [upd_ne (fun e => by rw [e, hd3] at hc; cases hc)]; exact hc
        exact ⟨p, q, ne x1, ne x2, ne x3⟩
      refine rest _ _ ⟨[b1, b2], [(r1, u1), (r2, u2)], rfl, same_upd ((s1.trans sd).trans s3) d0, upd_same, ⟨rfl, fun j s R h1 h2 => ?_⟩, ?_, ?_, ?_, by show 2 ≤ 36; decide⟩
      · match j, h1, h2 with
        | 0, h1, h2 => cases h1; cases h2; exact uu (hb1.same (sd.trans s3))
        | 1, h1, h2 => cases h1; cases h2; exact uu hb2
        | j + 2, h1, h2 => cases h1
      · intro R hR
        rcases List.mem_cons.mp hR with rfl | hR
        · show Sheet r1.length r1 u1
          rw [l1]; exact hSh1
        · rw [List.mem_singleton.mp hR]
          show Sheet r2.length r2 u2
          rw [l2]; exact hSh2
      · show r1.length + (r2.length + 0) ≤ 36; omega
      · show 1 ≤ r1.length + (r2.length + 0); omega
    rintro σ H3 ⟨ss, Rs, rfl, s3, hd3, hShs, hRs, hsum, hsum1, hss⟩
    refine ⟨_, rfl, _, rfl, sc, ns, 1, rfl, s3.seq hS, by decide, ?_⟩
    refine ⟨d, ss, Rs, _, rfl, SqL.of hd3, hShs, hRs, hsum, hss, fun H4 t pr pu l gs r u ps s4 ht hpr hpu hl hL hB hps f1 f2 f3 nru => ?_⟩
    have s04 := s3.trans s4
    refine ⟨t, _, rfl, SqT.of ht, rfl, _, _, rfl, _, _, rfl, _, _, rfl, rfl, ?_⟩
    try dsimp only
    have rr : Row ((Rs.map fun R => R.1.length).sum) r := hB.rr
    have ru : Row ((Rs.map fun R => R.1.length).sum) u := hB.ru
    refine ⟨_, rfl, _, rfl, two, fun a ha => ?_⟩
    have s5 := same_upd (o := .lst [.ref pr, .ref pu]) (Same.refl H4) ha
    have ha' : (upd H4 a (.lst [.ref pr, .ref pu])) a = some (.lst [.ref pr, .ref pu]) := upd_same
    revert s5 ha'
    generalize (upd H4 a (.lst [.ref pr, .ref pu])) = H5
    intro s5 ha'
    refine ⟨a, pr, pu, r, u, rfl, ha', s5 _ _ hpr, s5 _ _ hpu, fun x hx => Nat.lt_of_lt_of_le (rr.lt x hx) hsum, fun x hx => Nat.lt_of_lt_of_le (ru.lt x hx) hsum, by rw [rr.len]; exact hsum, by rw [ru.len]; exact hsum, fun H6 s6 => ?_⟩
    have s06 := s04.trans (s5.trans s6)
    have hwl : (word r ++ [32] ++ word u).length ≤ 80 ∧ 3 ≤ (word r ++ [32] ++ word u).length := by
      rw [List.length_append, List.length_append, word_len, word_len, rr.len, ru.len]
      show _ + 1 + _ ≤ 80 ∧ 3 ≤ _ + 1 + _
      omega
    revert hwl
    generalize word r ++ [32] ++ word u = zz
    intro hwl
    try dsimp only
    refine ⟨_, rfl, _, _, rfl, rfl, ⟨by decide, by decide⟩, _, _, rfl, rfl, (by show (0 : Int) < 2; decide), rfl, _, rfl, ?_⟩
    refine ite_rest' (fun σ H7 => ∃ y : List Nat, σ = [some (.ref sc), some (.int z), some (.ref d), some (.ref pr), some (.ref pu), some (.ref l), some (.str (txt y)), none, none] ∧ Same H H7 ∧ y.length ≤ 200) (fun _ => ⟨zz, rfl, s06, by omega⟩) ?_ ?_
    rotate_left 1
    · intro rest _
      refine ⟨_, rfl, _, rfl, _, _, rfl, rfl, ⟨by decide, by decide⟩, _, _, rfl, rfl, (by show (0 : Int) < 9; decide), _, _, rfl, rfl, (by show (0 : Int) < 5; decide), _, rfl, sc, ns, 2, rfl, s06.seq hS, by decide, ?_⟩
      exact ⟨zz, _, _, rfl, hwl.2, hwl.1, fun y H7 s7 hy => rest _ _ ⟨y, rfl, s06.trans s7, hy⟩⟩
    rintro σ H7 ⟨y, rfl, s7, hy⟩
    refine ⟨_, rfl, y, rfl, hy, fun H8 t8 s8 hA8 => ?_⟩
    try dsimp only
    obtain ⟨D, hD, _⟩ := hA8.dt (K := K)
    refine ⟨2, rfl, by decide, by decide, ?_⟩
    refine for_range (n := 2) (fun i σ H9 => ∃ o8, σ = [some (.ref sc), some (.int z), some (.ref d), some (.ref pr), some (.ref pu), some (.ref l), some (.str (txt y)), some (.ref t8), o8] ∧ Same H8 H9) ⟨_, rfl, Same.refl _⟩ ?_ ?_
    · rintro i σ H9 hi ⟨o8, rfl, s9⟩
      refine ⟨_, rfl, y, rfl, hy, fun H10 t10 m10 s10 ht10 hA10 => ?_⟩
      refine ⟨_, rfl, two, fun t11 ht11 => ?_⟩
      have s11 := same_upd (o := .tup [.ref t8, .bl true]) (Same.refl H10) ht11
      have h11 : (upd H10 t11 (.tup [.ref t8, .bl true])) t11 = some (.tup [.ref t8, .bl true]) := upd_same
      revert s11 h11
      generalize (upd H10 t11 (.tup [.ref t8, .bl true])) = H11
      intro s11 h11
      obtain ⟨D1, hD1, dt1⟩ := (hA10.same s11).dt (K := K)
      obtain ⟨D2, hD2, dt2⟩ := (hA8.same (s9.trans (s10.trans s11))).dt (K := K)
      obtain rfl := hD1.uniq hD2
      have q1 := hD1.lay
      refine ⟨.tuple [D1, .bool true], .tuple [D1, .bool true], .tup (SqT.of (s11 _ _ ht10)) (.cons dt1 (.cons (.bl _) .nil)), .tup (SqT.of h11) (.cons dt2 (.cons (.bl _) .nil)), ?_, ?_, unitsD hr ?_, _, rfl, ?_⟩
      · show (D1.canLay0 && (true && true)) = true; rw [q1]; rfl
      · show (D1.canLay0 && (true && true)) = true; rw [q1]; rfl
      · show max D1.depth (max 0 0) + 1 ≤ 64
        have := hD1.dep
        omega
      · show if (!PyData.eqv _ _) = true then _ else _
        have e : PyData.eqv (.tuple [D1, .bool true]) (.tuple [D1, .bool true]) = true := by
          show (PyData.eqv D1 D1 && (true && true)) = true
          rw [hD1.refl]; rfl
        rw [e]
        refine iteF ?_
        exact ⟨_, rfl, s9.trans (s10.trans s11)⟩
    · rintro σ H9 ⟨o8, rfl, s9⟩
      exact k _
end
end K1
def PySem.W.Fast.tw7668638881227998771 : Nat := 0
def PySem.W.Fast.tw4541425167691571873 : Nat := 0
def PySem.W.Fast.tw9394103249076075086 : Nat := 0
def PySem.W.Fast.tw13051130041850153555 : Nat := 0
def PySem.W.Fast.tw4190048902211662178 : Nat := 0
def PySem.W.Fast.tw5961666951943009153 : Nat := 0
def PySem.W.Fast.tw16238171661626749744 : Nat := 0
def PySem.W.Fast.tw10167927973771432895 : Nat := 0
namespace K1
open PySem L2 Sq
/-- a def as the top has left it -/
def Raw (K : PySem.W.Frag) (x : Str) (st : Stmt) : Prop := ∃ f fd, Fun K x x st f fd ∧ PySem.W.nsIn K mainGlobals x = some (some (.ref f)) ∧ ∃ kV doc pm an cdv ct, fd = PySem.W.fnOf x x (defArgs st) (defBody st) (defScope st) .none kV doc pm an cdv ct
theorem raw_mk {K : PySem.W.Frag} {x : Str} {st : Stmt} {f : Addr} {oc : Value} {od an : Option Addr} {osl : Array (Option Value)} {kV doc pm cdv ct : Value} (a : PySem.W.nsIn K mainGlobals x = some (some (.ref f)))
    (l : K.lookup f = some ⟨oc, od, .func (PySem.W.fnOf x x (defArgs st) (defBody st) (defScope st) .none kV doc pm an cdv ct), osl⟩) (c : PySem.W.codeIn K cdv x = true) (k : PySem.W.keepIn K (.ref f) = true) : Raw K x st :=
  ⟨f, _, fun_mk l c k, a, kV, doc, pm, an, cdv, ct, rfl⟩
theorem Raw.fn {K : PySem.W.Frag} {h : Heap} {mg : Str → Option Value} {x : Str} {st : Stmt} {ps : List Str} (X : K.In h) (G : h.Ns mainGlobals mg) (R : Raw K x st)
    (b : ∀ (kV doc pm : Value) (an : Option Addr) (cdv ct : Value) (us : List Value), us.length = ps.length → bindArgs (PySem.W.fnOf x x (defArgs st) (defBody st) (defScope st) .none kV doc pm an cdv ct) ⟨us, []⟩ = pure (ps.zip us)) : ∃ f fd, Fn K mg x st ps f fd := by
  obtain ⟨f, fd, F, a, _⟩ := R
  exact ⟨f, fd, F, F.binds b, PySem.W.mg_of X G a⟩
set_option maxHeartbeats 0 in
theorem all_mk {l : PySem.W.OpenLaw} {w : World} {K : PySem.W.Frag} {h : Heap} {mg : Str → Option Value} {fa : Addr} {t_MOST_SQUARES : Tok} {t_SIGNS : Tok} {CS : Addr} {CN : Addr} {CT : Addr} {CX : Addr} (X : K.In h) (G : h.Ns mainGlobals mg) (hfa : mg "law" = some (.ref fa))
    (R_sheet_of : Raw K "sheet_of" sSheetOf)
    (R_size : Raw K "size" sSize)
    (R_back_row : Raw K "back_row" sBackRow)
    (R_checked_rows : Raw K "checked_rows" sChecked)
    (R_has_each_once : Raw K "has_each_once" sEach)
    (R_is_whole : Raw K "is_whole" sIsWhole)
    (R_is_square : Raw K "is_square" sIsSq)
    (R_groups_of : Raw K "groups_of" sGroups)
    (R_step_rows : Raw K "step_rows" sSteps)
    (R_paths_from : Raw K "paths_from" sPaths)
    (R_read : Raw K "read" sRead)
    (R_is_pair : Raw K "is_pair" sIsPair)
    (R_is_word : Raw K "is_word" sIsWord)
    (R_squares_of : Raw K "squares_of" sSquaresOf)
    (R__law_cell : Raw K "_law_cell" sCell)
    (R__law_whole : Raw K "_law_whole" sWhole)
    (R__law_lines : Raw K "_law_lines" sLines)
    (R__law_met : Raw K "_law_met" sMet)
    (R__law_among : Raw K "_law_among" sAmong)
    (R__law_sheet : Raw K "_law_sheet" sSheet)
    (R__law_picked : Raw K "_law_picked" sPicked)
    (R__law_beside : Raw K "_law_beside" sBeside)
    (R__law_signs : Raw K "_law_signs" sLSigns)
    (R__law_text : Raw K "_law_text" sText)
    (R__law_sign : Raw K "_law_sign" sSign)
    (R__law_changed : Raw K "_law_changed" sLChanged)
    (R__law_due : Raw K "_law_due" sLDue)
    (R__law_classes : Raw K "_law_classes" sLClasses)
    (R__law_asked : Raw K "_law_asked" sAsked)
    (R_law : Raw K "law" sLaw)
    (c_MOST_SQUARES : PySem.W.nsIn K mainGlobals "MOST_SQUARES" = some (some (.int 36 t_MOST_SQUARES)))
    (c_SIGNS : PySem.W.nsIn K mainGlobals "SIGNS" = some (some (.str (Str.ofString "0123456789abcdefghijklmnopqrstuvwxyz") t_SIGNS)))
    (m_CS : PySem.W.nsIn K mainGlobals "SheetError" = some (some (.ref CS))) (f_CS : ClsF K CS)
    (m_CN : PySem.W.nsIn K mainGlobals "NoSheet" = some (some (.ref CN))) (f_CN : ClsF K CN)
    (m_CT : PySem.W.nsIn K mainGlobals "NotTogether" = some (some (.ref CT))) (f_CT : ClsF K CT)
    (m_CX : PySem.W.nsIn K mainGlobals "NoText" = some (some (.ref CX))) (f_CX : ClsF K CX)
    (e_CN : ExCls K CN)
    (e_CX : ExCls K CX)
    (s0 : PySem.W.subIn K (.ref CX) (.ref CX) = some true)
    (s1 : PySem.W.subIn K (.ref CN) (.ref CX) = some false)
    (s2 : PySem.W.subIn K (.ref CN) (.ref CN) = some true)
    (s3 : PySem.W.subIn K (.ref CT) (.ref CX) = some false)
    (s4 : PySem.W.subIn K (.ref CT) (.ref CN) = some false)
    (s5 : PySem.W.subIn K (.ref CT) (.ref CT) = some true)
    (s6 : PySem.W.subIn K (.ref CX) (.ref CS) = some true)
    (s7 : PySem.W.subIn K (.ref CX) (.ref CN) = some false)
    (s8 : PySem.W.subIn K (.ref CX) (.ref CT) = some false)
    (s9 : PySem.W.subIn K (.ref CN) (.ref CS) = some true)
    (s10 : PySem.W.subIn K (.ref CN) (.ref CT) = some false)
    (s11 : PySem.W.subIn K (.ref CT) (.ref CS) = some true)
    (n0 : CX ≠ CN)
    (n1 : CX ≠ CT)
    (n2 : CN ≠ CX)
    (n3 : CN ≠ CT)
    (n4 : CT ≠ CX)
    (n5 : CT ≠ CN)
    (v_CT : XIs K CT "square" "NotTogether.__init__" sNti "self" "square")
    (j_CS : XSup K CS)
    (h_CT : PySem.W.hasDictIn K CT = true)
    (g_CT : PySem.W.findIn K (.ref CT) "square" = some none)
    (z_len : PySem.W.nsIn K mainGlobals "len" = some none)
    (z_range : PySem.W.nsIn K mainGlobals "range" = some none)
    (z_list : PySem.W.nsIn K mainGlobals "list" = some none)
    (z_tuple : PySem.W.nsIn K mainGlobals "tuple" = some none)
    (z_isinstance : PySem.W.nsIn K mainGlobals "isinstance" = some none)
    (z_int : PySem.W.nsIn K mainGlobals "int" = some none)
    (z_bool : PySem.W.nsIn K mainGlobals "bool" = some none)
    (z_all : PySem.W.nsIn K mainGlobals "all" = some none)
    (z_set : PySem.W.nsIn K mainGlobals "set" = some none)
    (z_sorted : PySem.W.nsIn K mainGlobals "sorted" = some none)
    (z_enumerate : PySem.W.nsIn K mainGlobals "enumerate" = some none)
    (z_sum : PySem.W.nsIn K mainGlobals "sum" = some none)
    (z_min : PySem.W.nsIn K mainGlobals "min" = some none)
    : ∃ fd : FuncData, (∀ (s : Shared) (v : Value), BindsTo s fd ⟨[v], []⟩ [("_law_script", v)]) ∧ ∀ base : Heap, K.In base → base.Ns mainGlobals mg → FnOk l.prog w K mg base CX0 8 fa fd ["_law_script"] (spLaw K) := by
  have T : Bi mg := ⟨PySem.W.mg_none_of X G z_len, PySem.W.mg_none_of X G z_range, PySem.W.mg_none_of X G z_list, PySem.W.mg_none_of X G z_tuple, PySem.W.mg_none_of X G z_isinstance, PySem.W.mg_none_of X G z_int, PySem.W.mg_none_of X G z_bool, PySem.W.mg_none_of X G z_all, PySem.W.mg_none_of X G z_set, PySem.W.mg_none_of X G z_sorted, PySem.W.mg_none_of X G z_enumerate⟩
  have T_sum : mg "sum" = none := PySem.W.mg_none_of X G z_sum
  have T_min : mg "min" = none := PySem.W.mg_none_of X G z_min
  have C_MOST_SQUARES := PySem.W.mg_of X G c_MOST_SQUARES
  have C_SIGNS := PySem.W.mg_of X G c_SIGNS
  have M_CS := PySem.W.mg_of X G m_CS
  have M_CN := PySem.W.mg_of X G m_CN
  have M_CT := PySem.W.mg_of X G m_CT
  have M_CX := PySem.W.mg_of X G m_CX
  obtain ⟨fi_CT, di_CT, N_CT, FI_CT, B_CT⟩ := v_CT
  obtain ⟨f_sheet_of, d_sheet_of, F_sheet_of⟩ := R_sheet_of.fn (ps := ["right", "up"]) X G fun _ _ _ _ _ _ us hl => match us, hl with | [_, _], _ => rfl
  obtain ⟨f_size, d_size, F_size⟩ := R_size.fn (ps := ["sheet"]) X G fun _ _ _ _ _ _ us hl => match us, hl with | [_], _ => rfl
  obtain ⟨f_back_row, d_back_row, F_back_row⟩ := R_back_row.fn (ps := ["row"]) X G fun _ _ _ _ _ _ us hl => match us, hl with | [_], _ => rfl
  obtain ⟨f_checked_rows, d_checked_rows, F_checked_rows⟩ := R_checked_rows.fn (ps := ["right", "up"]) X G fun _ _ _ _ _ _ us hl => match us, hl with | [_, _], _ => rfl
  obtain ⟨f_has_each_once, d_has_each_once, F_has_each_once⟩ := R_has_each_once.fn (ps := ["row"]) X G fun _ _ _ _ _ _ us hl => match us, hl with | [_], _ => rfl
  obtain ⟨f_is_whole, d_is_whole, F_is_whole⟩ := R_is_whole.fn (ps := ["thing"]) X G fun _ _ _ _ _ _ us hl => match us, hl with | [_], _ => rfl
  obtain ⟨f_is_square, d_is_square, F_is_square⟩ := R_is_square.fn (ps := ["thing", "squares"]) X G fun _ _ _ _ _ _ us hl => match us, hl with | [_, _], _ => rfl
  obtain ⟨f_groups_of, d_groups_of, F_groups_of⟩ := R_groups_of.fn (ps := ["rows"]) X G fun _ _ _ _ _ _ us hl => match us, hl with | [_], _ => rfl
  obtain ⟨f_step_rows, d_step_rows, F_step_rows⟩ := R_step_rows.fn (ps := ["rows"]) X G fun _ _ _ _ _ _ us hl => match us, hl with | [_], _ => rfl
  obtain ⟨f_paths_from, d_paths_from, F_paths_from⟩ := R_paths_from.fn (ps := ["rows", "first"]) X G fun _ _ _ _ _ _ us hl => match us, hl with | [_, _], _ => rfl
  obtain ⟨f_read, d_read, F_read⟩ := R_read.fn (ps := ["text"]) X G fun _ _ _ _ _ _ us hl => match us, hl with | [_], _ => rfl
  obtain ⟨f_is_pair, d_is_pair, F_is_pair⟩ := R_is_pair.fn (ps := ["words"]) X G fun _ _ _ _ _ _ us hl => match us, hl with | [_], _ => rfl
  obtain ⟨f_is_word, d_is_word, F_is_word⟩ := R_is_word.fn (ps := ["word"]) X G fun _ _ _ _ _ _ us hl => match us, hl with | [_], _ => rfl
  obtain ⟨f_squares_of, d_squares_of, F_squares_of⟩ := R_squares_of.fn (ps := ["word"]) X G fun _ _ _ _ _ _ us hl => match us, hl with | [_], _ => rfl
  obtain ⟨f__law_cell, d__law_cell, F__law_cell⟩ := R__law_cell.fn (ps := ["_law_script", "_law_k"]) X G fun _ _ _ _ _ _ us hl => match us, hl with | [_, _], _ => rfl
  obtain ⟨f__law_whole, d__law_whole, F__law_whole⟩ := R__law_whole.fn (ps := ["_law_found"]) X G fun _ _ _ _ _ _ us hl => match us, hl with | [_], _ => rfl
  obtain ⟨f__law_lines, d__law_lines, F__law_lines⟩ := R__law_lines.fn (ps := ["_law_script", "_law_at", "_law_many"]) X G fun _ _ _ _ _ _ us hl => match us, hl with | [_, _, _], _ => rfl
  obtain ⟨f__law_met, d__law_met, F__law_met⟩ := R__law_met.fn (ps := ["_law_right", "_law_up", "_law_first"]) X G fun _ _ _ _ _ _ us hl => match us, hl with | [_, _, _], _ => rfl
  obtain ⟨f__law_among, d__law_among, F__law_among⟩ := R__law_among.fn (ps := ["_law_right", "_law_up", "_law_met_here"]) X G fun _ _ _ _ _ _ us hl => match us, hl with | [_, _, _], _ => rfl
  obtain ⟨f__law_sheet, d__law_sheet, F__law_sheet⟩ := R__law_sheet.fn (ps := ["_law_script", "_law_at", "_law_many"]) X G fun _ _ _ _ _ _ us hl => match us, hl with | [_, _, _], _ => rfl
  obtain ⟨f__law_picked, d__law_picked, F__law_picked⟩ := R__law_picked.fn (ps := ["_law_things", "_law_number"]) X G fun _ _ _ _ _ _ us hl => match us, hl with | [_, _], _ => rfl
  obtain ⟨f__law_beside, d__law_beside, F__law_beside⟩ := R__law_beside.fn (ps := ["_law_sheets", "_law_number"]) X G fun _ _ _ _ _ _ us hl => match us, hl with | [_, _], _ => rfl
  obtain ⟨f__law_signs, d__law_signs, F__law_signs⟩ := R__law_signs.fn (ps := []) X G fun _ _ _ _ _ _ us hl => match us, hl with | [], _ => rfl
  obtain ⟨f__law_text, d__law_text, F__law_text⟩ := R__law_text.fn (ps := ["_law_lines_here"]) X G fun _ _ _ _ _ _ us hl => match us, hl with | [_], _ => rfl
  obtain ⟨f__law_sign, d__law_sign, F__law_sign⟩ := R__law_sign.fn (ps := ["_law_cell_here"]) X G fun _ _ _ _ _ _ us hl => match us, hl with | [_], _ => rfl
  obtain ⟨f__law_changed, d__law_changed, F__law_changed⟩ := R__law_changed.fn (ps := ["_law_text_here", "_law_kind", "_law_cell_here"]) X G fun _ _ _ _ _ _ us hl => match us, hl with | [_, _, _], _ => rfl
  obtain ⟨f__law_due, d__law_due, F__law_due⟩ := R__law_due.fn (ps := ["_law_text_here"]) X G fun _ _ _ _ _ _ us hl => match us, hl with | [_], _ => rfl
  obtain ⟨f__law_classes, d__law_classes, F__law_classes⟩ := R__law_classes.fn (ps := ["_law_e"]) X G fun _ _ _ _ _ _ us hl => match us, hl with | [_], _ => rfl
  obtain ⟨f__law_asked, d__law_asked, F__law_asked⟩ := R__law_asked.fn (ps := ["_law_text_here"]) X G fun _ _ _ _ _ _ us hl => match us, hl with | [_], _ => rfl
  obtain ⟨fL, dL, FL, aL, kV, doc, pm, an, cdv, ct, eL⟩ := R_law
  have bL := FL.binds (ps := ["_law_script"]) fun _ _ _ _ _ _ us hl => match us, hl with | [_], _ => rfl
  have e := hfa.symm.trans (PySem.W.mg_of X G aL)
  cases e
  refine ⟨dL, fun s v => ?_, fun base _ _ => ?_⟩
  · subst eL; exact .of_eq rfl
  · have F_law : Fn K mg "law" sLaw ["_law_script"] fa dL := ⟨FL, bL, PySem.W.mg_of X G aL⟩
    have C := (⟨M_CS, M_CX, M_CN, M_CT, f_CX, f_CN, f_CT, s0, s1, s2, s3, s4, s5, kit_ref f_CS s6 (.inl rfl), kit_ref f_CX s0 (.inl rfl), kit_ref f_CN s7 (.inr n0), kit_ref f_CT s8 (.inr n1), kit_ref f_CS s9 (.inl rfl), kit_ref f_CX s1 (.inr n2), kit_ref f_CN s2 (.inl rfl), kit_ref f_CT s10 (.inr n3), kit_ref f_CS s11 (.inl rfl), kit_ref f_CX s3 (.inr n4), kit_ref f_CN s4 (.inr n5), kit_ref f_CT s5 (.inl rfl), h_CT, g_CT⟩ : XC07 K mg CS CX CN CT)
    have G_cell := ok_cell (P := l.prog) (w := w) (base := base) T F__law_cell
    have G_size := ok_size (P := l.prog) (w := w) (base := base) T F_size
    have G_isSq := ok_isSqG (P := l.prog) (w := w) (base := base) T F_is_square F_is_whole
    have G_each := ok_eachG T F_has_each_once F_is_square G_isSq
    have G_checked := ok_checkedG T e_CN M_CN C_MOST_SQUARES F_checked_rows F_has_each_once G_each
    have G_lines := ok_lines (P := l.prog) (w := w) (base := base) T F__law_lines F__law_cell
    have G_met := ok_met (P := l.prog) (w := w) (base := base) T F__law_met
    have G_among := ok_among (P := l.prog) (w := w) (base := base) T F__law_among
    have G_sheet := ok_sheet2 T F__law_sheet F__law_lines G_lines F__law_met G_met F__law_among G_among
    have G_pick := ok_picked (P := l.prog) (w := w) (base := base) T F__law_picked
    have G_bes := ok_bes T T_sum F__law_beside F__law_picked G_pick
    have G_backRow := ok_backRow (P := l.prog) (w := w) (base := base) T F_back_row
    have G_steps := ok_steps F_step_rows F_back_row G_backRow
    have G_paths := ok_paths T F_paths_from F_step_rows G_steps
    have G_groupsOf := ok_groupsG T F_groups_of F_size G_size F_paths_from G_paths
    have G_nti := ok_nti (P := l.prog) (w := w) (base := base) N_CT j_CS M_CS FI_CT
    have G_so := ok_sox T N_CT M_CT B_CT G_nti F_sheet_of F_groups_of G_groupsOf F_checked_rows G_checked
    have G_isWord := ok_isWord (P := l.prog) (w := w) (base := base) T C_SIGNS F_is_word
    have G_isPair := ok_isPair T F_is_pair F_is_word G_isWord
    have G_squaresOf := ok_squaresOf (P := l.prog) (w := w) (base := base) C_SIGNS F_squares_of
    have G_rd := ok_rd7 e_CX M_CX F_read F_is_pair G_isPair F_squares_of G_squaresOf F_sheet_of G_so
    have G_lsigns := ok_lsigns (P := l.prog) (w := w) (base := base) F__law_signs
    have G_tx := ok_tx7 F__law_text F__law_signs G_lsigns
    have G_sg := ok_sg7 (P := l.prog) (w := w) (base := base) T F__law_sign
    have G_ch := ok_ch7 T F__law_changed F__law_sign G_sg
    have G_du := ok_du T T_min F__law_due F__law_signs G_lsigns F__law_met G_met
    have G_cl := ok_cl7 (P := l.prog) (w := w) (base := base) T M_CS M_CX M_CN M_CT F__law_classes
    have G_whU := ok_whU (P := l.prog) (w := w) (base := base) T F__law_whole
    have G_as := ok_as7 T C F__law_asked F_read G_rd F__law_classes G_cl F__law_whole G_whU
    exact ok_law T F_law F__law_cell G_cell F__law_sheet G_sheet F__law_beside G_bes F__law_text G_tx F__law_changed G_ch F__law_due G_du F__law_asked G_as
theorem walk {l : PySem.W.OpenLaw} {q : Program} {loose : List Str} {XP : (Str → Option Value) → Heap → Prop} {YP : World → Heap → Prop} {d : DefRec} {K : Params → PySem.W.Frag} (hn : l.most = some 63) (hdf : d.params.defaults = [])
    (hY : ∀ (w : World) (h : Heap), YP w h → (K w.params).In h)
    (F : ∀ (w : World) (mg : Str → Option Value) (fa : Addr) (h : Heap), (K w.params).In h → h.Ns mainGlobals mg → mg d.name = some (.ref fa) →
      ∃ fd : FuncData, (∀ (s : Shared) (u : Value), BindsTo s fd ⟨[u], []⟩ [("_law_script", u)]) ∧ ∀ base : Heap, (K w.params).In base → base.Ns mainGlobals mg → FnOk l.prog w (K w.params) mg base CX0 8 fa fd ["_law_script"] (spLaw (K w.params))) :
    PySem.W.WalkO q loose XP YP l.row.toRowW d [] (fun f vs => PySem.call f vs) :=
  L2.walk_of (n := 63) (k := 8) (x := "_law_script") (CX := fun _ => CX0) (sp := fun w => spLaw (K w.params)) hn (by decide) hdf ⟨rfl, by decide, by decide⟩ hY F (fun _ _ a ns hl _ hS => ⟨a, ns, rfl, hS, fun _ => rfl⟩) fun _ _ _ _ _ z => z
end K1
open PySem PySem.W PyProof.Rows
set_option maxRecDepth 100000 in
set_option maxHeartbeats 0 in
theorem PySem.Challenge.cw_squaresheet_k07_texts_refused_holds : PySem.Challenge.rw_squaresheet_k07_texts_refused.Holds := by
  w_on; o_law; k_head; (case hw => w_witness2)
  k_fill
  refine K1.walk (l := PySem.Challenge.rw_squaresheet_k07_texts_refused) rfl rfl (fun w h Y => PySem.W.kIn_of Y) ?F
  case F =>
    intro w mg fa h KX G hmg
    have R_sheet_of : K1.Raw (L2.KOf KX) "sheet_of" K1.sSheetOf := by
      dsimp only [L2.KOf]
      refine' K1.raw_mk ?a ?l ?c ?k
      (case a => k_is); (case l => k_is); (case c => k_is); (case k => k_is)
    have R_size : K1.Raw (L2.KOf KX) "size" K1.sSize := by
      dsimp only [L2.KOf]
      refine' K1.raw_mk ?a ?l ?c ?k
      (case a => k_is); (case l => k_is); (case c => k_is); (case k => k_is)
    have R_back_row : K1.Raw (L2.KOf KX) "back_row" K1.sBackRow := by
      dsimp only [L2.KOf]
      refine' K1.raw_mk ?a ?l ?c ?k
      (case a => k_is); (case l => k_is); (case c => k_is); (case k => k_is)
    have R_checked_rows : K1.Raw (L2.KOf KX) "checked_rows" K1.sChecked := by
      dsimp only [L2.KOf]
      refine' K1.raw_mk ?a ?l ?c ?k
      (case a => k_is); (case l => k_is); (case c => k_is); (case k => k_is)
    have R_has_each_once : K1.Raw (L2.KOf KX) "has_each_once" K1.sEach := by
      dsimp only [L2.KOf]
      refine' K1.raw_mk ?a ?l ?c ?k
      (case a => k_is); (case l => k_is); (case c => k_is); (case k => k_is)
    have R_is_whole : K1.Raw (L2.KOf KX) "is_whole" K1.sIsWhole := by
      dsimp only [L2.KOf]
      refine' K1.raw_mk ?a ?l ?c ?k
      (case a => k_is); (case l => k_is); (case c => k_is); (case k => k_is)
    have R_is_square : K1.Raw (L2.KOf KX) "is_square" K1.sIsSq := by
      dsimp only [L2.KOf]
      refine' K1.raw_mk ?a ?l ?c ?k
      (case a => k_is); (case l => k_is); (case c => k_is); (case k => k_is)
    have R_groups_of : K1.Raw (L2.KOf KX) "groups_of" K1.sGroups := by
      dsimp only [L2.KOf]
      refine' K1.raw_mk ?a ?l ?c ?k
      (case a => k_is); (case l => k_is); (case c => k_is); (case k => k_is)
    have R_step_rows : K1.Raw (L2.KOf KX) "step_rows" K1.sSteps := by
      dsimp only [L2.KOf]
      refine' K1.raw_mk ?a ?l ?c ?k
      (case a => k_is); (case l => k_is); (case c => k_is); (case k => k_is)
    have R_paths_from : K1.Raw (L2.KOf KX) "paths_from" K1.sPaths := by
      dsimp only [L2.KOf]
      refine' K1.raw_mk ?a ?l ?c ?k
      (case a => k_is); (case l => k_is); (case c => k_is); (case k => k_is)
    have R_read : K1.Raw (L2.KOf KX) "read" K1.sRead := by
      dsimp only [L2.KOf]
      refine' K1.raw_mk ?a ?l ?c ?k
      (case a => k_is); (case l => k_is); (case c => k_is); (case k => k_is)
    have R_is_pair : K1.Raw (L2.KOf KX) "is_pair" K1.sIsPair := by
      dsimp only [L2.KOf]
      refine' K1.raw_mk ?a ?l ?c ?k
      (case a => k_is); (case l => k_is); (case c => k_is); (case k => k_is)
    have R_is_word : K1.Raw (L2.KOf KX) "is_word" K1.sIsWord := by
      dsimp only [L2.KOf]
      refine' K1.raw_mk ?a ?l ?c ?k
      (case a => k_is); (case l => k_is); (case c => k_is); (case k => k_is)
    have R_squares_of : K1.Raw (L2.KOf KX) "squares_of" K1.sSquaresOf := by
      dsimp only [L2.KOf]
      refine' K1.raw_mk ?a ?l ?c ?k
      (case a => k_is); (case l => k_is); (case c => k_is); (case k => k_is)
    have R__law_cell : K1.Raw (L2.KOf KX) "_law_cell" K1.sCell := by
      dsimp only [L2.KOf]
      refine' K1.raw_mk ?a ?l ?c ?k
      (case a => k_is); (case l => k_is); (case c => k_is); (case k => k_is)
    have R__law_whole : K1.Raw (L2.KOf KX) "_law_whole" K1.sWhole := by
      dsimp only [L2.KOf]
      refine' K1.raw_mk ?a ?l ?c ?k
      (case a => k_is); (case l => k_is); (case c => k_is); (case k => k_is)
    have R__law_lines : K1.Raw (L2.KOf KX) "_law_lines" K1.sLines := by
      dsimp only [L2.KOf]
      refine' K1.raw_mk ?a ?l ?c ?k
      (case a => k_is); (case l => k_is); (case c => k_is); (case k => k_is)
    have R__law_met : K1.Raw (L2.KOf KX) "_law_met" K1.sMet := by
      dsimp only [L2.KOf]
      refine' K1.raw_mk ?a ?l ?c ?k
      (case a => k_is); (case l => k_is); (case c => k_is); (case k => k_is)
    have R__law_among : K1.Raw (L2.KOf KX) "_law_among" K1.sAmong := by
      dsimp only [L2.KOf]
      refine' K1.raw_mk ?a ?l ?c ?k
      (case a => k_is); (case l => k_is); (case c => k_is); (case k => k_is)
    have R__law_sheet : K1.Raw (L2.KOf KX) "_law_sheet" K1.sSheet := by
      dsimp only [L2.KOf]
      refine' K1.raw_mk ?a ?l ?c ?k
      (case a => k_is); (case l => k_is); (case c => k_is); (case k => k_is)
    have R__law_picked : K1.Raw (L2.KOf KX) "_law_picked" K1.sPicked := by
      dsimp only [L2.KOf]
      refine' K1.raw_mk ?a ?l ?c ?k
      (case a => k_is); (case l => k_is); (case c => k_is); (case k => k_is)
    have R__law_beside : K1.Raw (L2.KOf KX) "_law_beside" K1.sBeside := by
      dsimp only [L2.KOf]
      refine' K1.raw_mk ?a ?l ?c ?k
      (case a => k_is); (case l => k_is); (case c => k_is); (case k => k_is)
    have R__law_signs : K1.Raw (L2.KOf KX) "_law_signs" K1.sLSigns := by
      dsimp only [L2.KOf]
      refine' K1.raw_mk ?a ?l ?c ?k
      (case a => k_is); (case l => k_is); (case c => k_is); (case k => k_is)
    have R__law_text : K1.Raw (L2.KOf KX) "_law_text" K1.sText := by
      dsimp only [L2.KOf]
      refine' K1.raw_mk ?a ?l ?c ?k
      (case a => k_is); (case l => k_is); (case c => k_is); (case k => k_is)
    have R__law_sign : K1.Raw (L2.KOf KX) "_law_sign" K1.sSign := by
      dsimp only [L2.KOf]
      refine' K1.raw_mk ?a ?l ?c ?k
      (case a => k_is); (case l => k_is); (case c => k_is); (case k => k_is)
    have R__law_changed : K1.Raw (L2.KOf KX) "_law_changed" K1.sLChanged := by
      dsimp only [L2.KOf]
      refine' K1.raw_mk ?a ?l ?c ?k
      (case a => k_is); (case l => k_is); (case c => k_is); (case k => k_is)
    have R__law_due : K1.Raw (L2.KOf KX) "_law_due" K1.sLDue := by
      dsimp only [L2.KOf]
      refine' K1.raw_mk ?a ?l ?c ?k
      (case a => k_is); (case l => k_is); (case c => k_is); (case k => k_is)
    have R__law_classes : K1.Raw (L2.KOf KX) "_law_classes" K1.sLClasses := by
      dsimp only [L2.KOf]
      refine' K1.raw_mk ?a ?l ?c ?k
      (case a => k_is); (case l => k_is); (case c => k_is); (case k => k_is)
    have R__law_asked : K1.Raw (L2.KOf KX) "_law_asked" K1.sAsked := by
      dsimp only [L2.KOf]
      refine' K1.raw_mk ?a ?l ?c ?k
      (case a => k_is); (case l => k_is); (case c => k_is); (case k => k_is)
    have R_law : K1.Raw (L2.KOf KX) "law" K1.sLaw := by
      dsimp only [L2.KOf]
      refine' K1.raw_mk ?a ?l ?c ?k
      (case a => k_is); (case l => k_is); (case c => k_is); (case k => k_is)
    refine' K1.all_mk KX G hmg R_sheet_of R_size R_back_row R_checked_rows R_has_each_once R_is_whole R_is_square R_groups_of R_step_rows R_paths_from R_read R_is_pair R_is_word R_squares_of R__law_cell R__law_whole R__law_lines R__law_met R__law_among R__law_sheet R__law_picked R__law_beside R__law_signs R__law_text R__law_sign R__law_changed R__law_due R__law_classes R__law_asked R_law ?c_MOST_SQUARES ?c_SIGNS ?m_CS ?f_CS ?m_CN ?f_CN ?m_CT ?f_CT ?m_CX ?f_CX ?e_CN ?e_CX ?s0 ?s1 ?s2 ?s3 ?s4 ?s5 ?s6 ?s7 ?s8 ?s9 ?s10 ?s11 ?n0 ?n1 ?n2 ?n3 ?n4 ?n5 ?v_CT ?j_CS ?h_CT ?g_CT ?z_len ?z_range ?z_list ?z_tuple ?z_isinstance ?z_int ?z_bool ?z_all ?z_set ?z_sorted ?z_enumerate ?z_sum ?z_min
    (case c_MOST_SQUARES => k_is); (case c_SIGNS => k_is); (case m_CS => k_is); (case f_CS => (refine' ⟨?_, ?_, ?_, ?_, ?_, ?_, ?_, ?_, ?_⟩ <;> k_is)); (case m_CN => k_is); (case f_CN => (refine' ⟨?_, ?_, ?_, ?_, ?_, ?_, ?_, ?_, ?_⟩ <;> k_is)); (case m_CT => k_is); (case f_CT => (refine' ⟨?_, ?_, ?_, ?_, ?_, ?_, ?_, ?_, ?_⟩ <;> k_is)); (case m_CX => k_is); (case f_CX => (refine' ⟨?_, ?_, ?_, ?_, ?_, ?_, ?_, ?_, ?_⟩ <;> k_is)); (case e_CN => (unfold L2.ExCls; k_exc)); (case e_CX => (unfold L2.ExCls; k_exc)); (case s0 => k_is); (case s1 => k_is); (case s2 => k_is); (case s3 => k_is); (case s4 => k_is); (case s5 => k_is); (case s6 => k_is); (case s7 => k_is); (case s8 => k_is); (case s9 => k_is); (case s10 => k_is); (case s11 => k_is); (case n0 => decide); (case n1 => decide); (case n2 => decide); (case n3 => decide); (case n4 => decide); (case n5 => decide); (case v_CT => (refine' K1.xis_mk ?i ?ex ?sa ?mo ?na ?kp ?fn ?l ?c ?k ?b; (case i => k_is); (case ex => kernel_rfl); (case sa => k_is); (case mo => k_is); (case na => k_is); (case kp => k_is); (case fn => k_is); (case l => k_is); (case c => k_is); (case k => k_is); (case b => exact fun _ _ _ _ _ _ us hl => match us, hl with | [_, _], _ => rfl))); (case j_CS => (refine' ⟨?_, ?_, ?_⟩ <;> k_is)); (case h_CT => k_is); (case g_CT => k_is); (case z_len => k_is); (case z_range => k_is); (case z_list => k_is); (case z_tuple => k_is); (case z_isinstance => k_is); (case z_int => k_is); (case z_bool => k_is); (case z_all => k_is); (case z_set => k_is); (case z_sorted => k_is); (case z_enumerate => k_is); (case z_sum => k_is); (case z_min => k_is)
#print axioms PySem.Challenge.cw_squaresheet_k07_texts_refused_holds
