import PyProof.Rows.All
import Wide.All
import OpenK.AllK
import Wide.FinOn
import Lean
import PyProof.EqAt
import PyProof.EqKinds
import PyProof.TupleCall
import PyProof.Draws
import PyProof.EnumMake
import PyProof.WalksEnum
import PyProof.TupleIter
import PyProof.NeData
import PyProof.WalksMore
import PyProof.Rows.StrJoin2
import PyProof.StrWalks
import PyProof.StrBlockH
import PyProof.StrLawsTight
import PyProof.Rows.StrItems
import OpenK.KOwn
import PyProof.NsDelKeeps
import PyProof.RulesAs
import PyProof.ExcAttrAll.ValueError
import KE.KRevIter
import PyProof.SliceStr2
import PyProof.StrLawsIdx
import PyProof.StrOps2
import PyProof.EnumStmt
import PyProof.StrLawsChain
import PyProof.FitsBits
import PyProof.ZipIter
import PyProof.SumWalkG
import PyProof.MinMaxWalk
import PyProof.WalkInts
import PyProof.CompUse
import PySem.Challenge.RW_squaresheet_k53_word_of
set_option Elab.async false
set_option linter.all false
set_option maxRecDepth 100000
namespace L2
open PySem PySem.Spec PyProof.Rows

/-- a key: an int or a str -/
abbrev Key := Sum Int Str
def keyIs : Key → Value → Bool
  | .inl k, v => Value.isInt k v
  | .inr x, v => Value.isStrOf x v
def keyH (w : World) : Key → Int
  | .inl k => hashInt k
  | .inr x => hashStr w x
theorem keyIs_shape : ∀ {k : Key} {v : Value}, keyIs k v = true → (∃ i t, k = Sum.inl i ∧ v = Value.int i t) ∨ (∃ x t, k = Sum.inr x ∧ v = Value.str x t)
  | .inl i, v, h => by
    obtain ⟨t, e⟩ := Value.isInt_shape (k := i) (v := v) h
    exact .inl ⟨i, t, rfl, e⟩
  | .inr x, v, h => by
    obtain ⟨t, e⟩ := Value.isStrOf_shape (x := x) (v := v) h
    exact .inr ⟨x, t, rfl, e⟩
theorem keyIs_int (i : Int) (t : Tok) : keyIs (.inl i) (.int i t) = true := by simp [keyIs, Value.isInt]
theorem keyIs_str (x : Str) (t : Tok) : keyIs (.inr x) (.str x t) = true := by simp [keyIs, Value.isStrOf]
theorem key_ll (a b : Int) : decide ((Sum.inl a : Key) = Sum.inl b) = (a == b) := by
  by_cases e : a = b
  · subst e; simp
  · have h : ¬ (Sum.inl a : Key) = Sum.inl b := fun q => e (Sum.inl.inj q)
    rw [decide_eq_false h]
    exact (beq_eq_false_iff_ne.mpr e).symm
theorem key_rr (a b : Str) : decide ((Sum.inr a : Key) = Sum.inr b) = decide (a = b) := by
  by_cases e : a = b
  · subst e; simp
  · have h : ¬ (Sum.inr a : Key) = Sum.inr b := fun q => e (Sum.inr.inj q)
    rw [decide_eq_false h, decide_eq_false e]
theorem key_lr (a : Int) (b : Str) : decide ((Sum.inl a : Key) = Sum.inr b) = false := decide_eq_false (fun q => nomatch q)
theorem key_rl (a : Str) (b : Int) : decide ((Sum.inr a : Key) = Sum.inl b) = false := decide_eq_false (fun q => nomatch q)

def mixKind (prog : Program) (w : World) : PySem.KeyKind prog w Key where
  is := keyIs
  hash := keyH w
  inj := fun v a b ha hb => by
    rcases keyIs_shape ha with ⟨i, t, rfl, rfl⟩ | ⟨x, t, rfl, rfl⟩
    · rcases keyIs_shape hb with ⟨j, u, rfl, e⟩ | ⟨y, u, rfl, e⟩
      · injection e with e1 _; rw [e1]
      · exact nomatch e
    · rcases keyIs_shape hb with ⟨j, u, rfl, e⟩ | ⟨y, u, rfl, e⟩
      · exact nomatch e
      · injection e with e1 _; rw [e1]
  byValue := fun k v h => by
    rcases keyIs_shape h with ⟨i, t, rfl, rfl⟩ | ⟨x, t, rfl, rfl⟩ <;> rfl
  pyHash := fun hv h => by
    rcases keyIs_shape hv with ⟨i, t, rfl, rfl⟩ | ⟨x, t, rfl, rfl⟩
    · exact wpAny_pyHash_int h
    · exact wpAny_pyHash_str h
  eqBool := fun hu hv h => by
    rcases keyIs_shape hu with ⟨i, t, rfl, rfl⟩ | ⟨x, t, rfl, rfl⟩
    · rcases keyIs_shape hv with ⟨j, u, rfl, rfl⟩ | ⟨y, u, rfl, rfl⟩
      · rw [key_ll] at h; exact wpAny_eqBool_int h
      · rw [key_lr] at h; exact SeqAt.EqAt.int_str i t y u _ _ _ _ h
    · rcases keyIs_shape hv with ⟨j, u, rfl, rfl⟩ | ⟨y, u, rfl, rfl⟩
      · rw [key_rl] at h; exact SeqAt.EqAt.str_int x t j u _ _ _ _ h
      · rw [key_rr] at h; exact wpAny_eqBool_str h
  «strs» := fun k x t v h => by
    rcases keyIs_shape h with ⟨i, u, rfl, e⟩ | ⟨y, u, rfl, e⟩
    · exact nomatch e
    · injection e with e1 _
      subst e1
      cases v <;> rfl

theorem mixKind_int (prog : Program) (w : World) (i : Int) (t : Tok) : (mixKind prog w).is (.inl i) (.int i t) = true := keyIs_int i t
theorem mixKind_str (prog : Program) (w : World) (x : Str) (t : Tok) : (mixKind prog w).is (.inr x) (.str x t) = true := keyIs_str x t
end L2

namespace L2
open PySem PySem.Spec PyProof.Rows

/-- a value, without the heap -/
inductive V where
  | non | bl (b : Bool) | int (i : Int) | str (x : Str) | byt (b : Array UInt8) | flt (b : UInt64) | ref (a : Addr) | ty (n : String)
  deriving DecidableEq

def RelV : V → Value → Prop
  | .non, u => u = Value.none
  | .bl b, u => u = Value.bool b
  | .int i, u => ∃ t, u = Value.int i t
  | .str x, u => ∃ t, u = Value.str x t
  | .byt b, u => ∃ t, u = Value.bytes b t
  | .flt b, u => ∃ t, u = Value.float b t
  | .ref a, u => u = Value.ref a
  | .ty n, u => u = Value.type n

abbrev Vals : List V → List Value → Prop := Paired RelV
theorem Vals.length {xs : List V} {us : List Value} (r : Vals xs us) : xs.length = us.length := Paired.length r
theorem Vals.get : ∀ {xs : List V} {us : List Value} {i : Nat} {x : V}, Vals xs us → xs[i]? = some x → ∃ u, us[i]? = some u ∧ RelV x u
  | _, _, _, _, .nil, e => by simp at e
  | _, _, 0, _, .cons r _, e => by simp at e; subst e; exact ⟨_, rfl, r⟩
  | _, _, i + 1, x, .cons _ t, e => by
    obtain ⟨u, h1, h2⟩ := Vals.get (i := i) (x := x) t (by simpa using e)
    exact ⟨u, by simpa using h1, h2⟩
theorem Vals.set {x : V} {u : Value} (r : RelV x u) : ∀ {xs : List V} {us : List Value} (i : Nat), Vals xs us → Vals (xs.set i x) (us.set i u)
  | _, _, _, .nil => .nil
  | _, _, 0, .cons _ t => .cons r t
  | _, _, i + 1, .cons q t => .cons q (Vals.set r i t)
theorem Vals.append : ∀ {xs ys : List V} {us ws : List Value}, Vals xs us → Vals ys ws → Vals (xs ++ ys) (us ++ ws)
  | _, _, _, _, .nil, s => s
  | _, _, _, _, .cons r t, s => .cons r (Vals.append t s)
theorem Vals.take : ∀ {xs : List V} {us : List Value} (n : Nat), Vals xs us → Vals (xs.take n) (us.take n)
  | _, _, 0, _ => .nil
  | _, _, _ + 1, .nil => .nil
  | _, _, n + 1, .cons r t => .cons r (Vals.take n t)
theorem Vals.drop : ∀ {xs : List V} {us : List Value} (n : Nat), Vals xs us → Vals (xs.drop n) (us.drop n)
  | _, _, 0, r => r
  | _, _, _ + 1, .nil => .nil
  | _, _, n + 1, .cons _ t => Vals.drop n t
def RelO : Option V → Option Value → Prop
  | some v, some u => RelV v u
  | none, none => True
  | _, _ => False
def KV {κ : Type} : List (κ × V) → List (κ × Value) → Prop := Paired fun (p : κ × V) (q : κ × Value) => p.1 = q.1 ∧ RelV p.2 q.2

/-- a key of a dict (00_mix): an int or a text -/
def kV : Key → V
  | .inl i => .int i
  | .inr x => .str x

/-- what stands at a tracked address -/
inductive HO where
  /-- a list -/
  | lst (xs : List V)
  /-- a tuple (never changes) -/
  | tup (xs : List V)
  /-- a dict whose keys are ints and texts; one whose keys are tuples of ints and texts (the empty one is both) -/
  | dK (kvs : List (Key × V)) | dT (kvs : List (List Key × V))
  /-- a set of ints: its members, its size -/
  | set (S : Int → Bool) (n : Nat)
  /-- an instance of the class at C, its dict at dx, its attributes -/
  | ins (C dx : Addr) (fs : List (Str × V))
  /-- the dict of the instance at x -/
  | own (x : Addr)
  /-- the dict of an exception -/
  | xd (fs : List (Str × V))
  /-- a bound method, f of x -/
  | met (f x : Addr)
  /-- a range object lo, lo + 1, .. below hi -/
  | rng (lo hi : Int)
  /-- a thing that is known to the object (the script; a dict while a loop walks it): read, never written while it is so -/
  | frz (o : Obj) (u : HO)
  /-- a code object's table -/
  | tbl (ps : Array Value)
  /-- any other thing, by what is true of its one object (a def of one's own: SetO a S n := HO.ext fun h => ..) -/
  | ext (φ : Heap → Prop)

abbrev Hp := Addr → Option HO
def upd (H : Hp) (a : Addr) (o : HO) : Hp := fun b => if b = a then some o else H b
theorem upd_same {H : Hp} {a : Addr} {o : HO} : upd H a o a = some o := by unfold upd; rw [if_pos rfl]
theorem upd_ne {H : Hp} {a b : Addr} {o : HO} (h : b ≠ a) : upd H a o b = H b := by unfold upd; rw [if_neg h]
theorem upd_upd {H : Hp} {a : Addr} {o u : HO} : upd (upd H a o) a u = upd H a u := by
  funext b; unfold upd; split <;> rfl
theorem ne_of_none {H : Hp} {a b : Addr} {o : HO} (h : H a = some o) (h' : H b = none) : a ≠ b := by
  intro e; subst e; rw [h] at h'; cases h'

section
variable (P : Program) (w : World)
/-- the object has no dict -/
def NoD (h : Heap) (a : Addr) : Prop := ∃ o, h.get? a = some o ∧ o.dict = none
def ObjOk (H : Hp) (h : Heap) (a : Addr) : HO → Prop
  | .lst xs => xs.length ≤ sizeLine ∧ ∃ (its : List Value) (n : Nat), Vals xs its ∧ h.get? a = some { cls := .type "list", data := .seq its.toArray n }
  | .tup xs => (xs.length ≤ sizeLine ∧ NoD h a) ∧ ∃ its : List Value, Vals xs its ∧ IsTup h a its.toArray
  | .dK kvs => kvs.length ≤ sizeLine ∧ (a == sysModules) = false ∧ ∃ vs, KV kvs vs ∧ h.DictOf (mixKind P w) a vs
  | .dT kvs => kvs.length ≤ sizeLine ∧ (a == sysModules) = false ∧ ∃ xs : List (List Key × Addr × Value),
      Paired (fun (p : List Key × V) (q : List Key × Addr × Value) => p.1 = q.1 ∧ H q.2.1 = some (.tup (p.1.map kV)) ∧ RelV p.2 q.2.2) kvs xs ∧
      ∃ o es ep, h.get? a = some o ∧ o.ExactDict ∧ o.data = .dict es ep ∧ es.toList = xs.map (entryOfKey (tupleKind (mixKind P w))) ∧ (xs.map (·.1)).Nodup
  | .set S n => h.SetOf (intKind P w) a S n
  | .ins C dx fs => H dx = some (.own a) ∧ fs.length ≤ 1000 ∧ dx ≠ a ∧ h.get? a = some (PySem.W.instObj C dx) ∧
      ∃ mA, h.Ns1 dx mA ∧ (∀ f, RelO (fs.lookup f) (mA f)) ∧ PySem.Within mA (fs.map (·.1))
  | .own _ => ∃ o, h.get? a = some o
  | .xd fs => ∃ mA, h.Ns1 a mA ∧ ∀ f, RelO (fs.lookup f) (mA f)
  | .rng lo hi => ∃ t u v, h.get? a = some { cls := .type "range", data := .fields #[.int lo t, .int hi u, .int 1 v] }
  | .frz o u => h.get? a = some o ∧ ObjOk H h a u
  | .tbl ps => h.get? a = some { cls := .none, data := .fields ps }
  | .met f x => h.get? a = some (PySem.W.methodObj (.ref f) (.ref x))
  | .ext φ => φ h ∧ (∃ o, h.get? a = some o) ∧ ∀ h1 h2 : Heap, φ h1 → (∀ o, h1.get? a = some o → h2.get? a = some o) → φ h2
/-- the abstract heap is held -/
def HOk (H : Hp) (h : Heap) : Prop := ∀ a o, H a = some o → ObjOk P w H h a o
end

section
variable {P : Program} {w : World} {H H' : Hp} {h h' : Heap} {a : Addr} {o : HO}
theorem ObjOk.lt (x : ObjOk P w H h a o) : a < h.objs.size := by
  cases o with
  | lst xs => obtain ⟨_, _, _, _, e⟩ := x; exact Heap.lt_size e
  | tup xs => obtain ⟨_, _, _, p⟩ := x; exact p.lt
  | dK kvs => obtain ⟨_, _, _, _, o, _, _, e, _⟩ := x; exact Heap.lt_size e
  | dT kvs => obtain ⟨_, _, _, _, o, _, _, e, _⟩ := x; exact Heap.lt_size e
  | set S n => obtain ⟨o, _, _, _, e, _⟩ := x; exact Heap.lt_size e
  | ins C dx fs => obtain ⟨_, _, _, e, _⟩ := x; exact Heap.lt_size e
  | own y => obtain ⟨_, e⟩ := x; exact Heap.lt_size e
  | xd fs => obtain ⟨_, ⟨_, _, _, e, _⟩, _⟩ := x; exact Heap.lt_size e
  | rng lo hi => obtain ⟨_, _, _, e⟩ := x; exact Heap.lt_size e
  | frz ob u => obtain ⟨e, _⟩ := x; exact Heap.lt_size e
  | tbl ps => exact Heap.lt_size (show h.get? a = some _ from x)
  | met f y => exact Heap.lt_size (show h.get? a = some _ from x)
  | ext φ => obtain ⟨_, ⟨_, e⟩, _⟩ := x; exact Heap.lt_size e
theorem Paired.mapP {α β : Type} {F G : α → β → Prop} : ∀ {l₁ : List α} {l₂ : List β}, Paired F l₁ l₂ → (∀ a b, F a b → G a b) → Paired G l₁ l₂
  | _, _, .nil, _ => .nil
  | _, _, .cons r t, f => .cons (f _ _ r) (Paired.mapP t f)
/-- what an object's description leans on: its own object, its own dict, the tuples -/
theorem ObjOk.stay (x : ObjOk P w H h a o) (k : ∀ b u, (b = a ∨ H b = some (.own a)) → h.get? b = some u → h'.get? b = some u)
    (ho : ∀ b, H b = some (.own a) → H' b = some (.own a)) (ht : ∀ b xs, H b = some (.tup xs) → H' b = some (.tup xs)) : ObjOk P w H' h' a o := by
  induction o with
  | lst xs => obtain ⟨z, its, n, r, e⟩ := x; exact ⟨z, its, n, r, k _ _ (.inl rfl) e⟩
  | tup xs => obtain ⟨z, its, r, ob, e, c⟩ := x; exact ⟨⟨z.1, z.2.imp fun _ q => ⟨k _ _ (.inl rfl) q.1, q.2⟩⟩, its, r, ob, k _ _ (.inl rfl) e, c⟩
  | dK kvs => obtain ⟨z, y, vs, r, ob, es, ep, e, c⟩ := x; exact ⟨z, y, vs, r, ob, es, ep, k _ _ (.inl rfl) e, c⟩
  | dT kvs =>
    obtain ⟨z, y, xs, r, ob, es, ep, e, c⟩ := x
    exact ⟨z, y, xs, Paired.mapP r fun p q z => ⟨z.1, ht _ _ z.2.1, z.2.2⟩, ob, es, ep, k _ _ (.inl rfl) e, c⟩
  | set S n => obtain ⟨ob, es, ep, t, e, c⟩ := x; exact ⟨ob, es, ep, t, k _ _ (.inl rfl) e, c⟩
  | ins C dx fs =>
    obtain ⟨d, z, ne, e, mA, ⟨od, es, ep, e2, c⟩, r⟩ := x
    exact ⟨ho _ d, z, ne, k _ _ (.inl rfl) e, mA, ⟨od, es, ep, k _ _ (.inr d) e2, c⟩, r⟩
  | own y => obtain ⟨ob, e⟩ := x; exact ⟨ob, k _ _ (.inl rfl) e⟩
  | xd fs => obtain ⟨mA, ⟨od, es, ep, e, c⟩, r⟩ := x; exact ⟨mA, ⟨od, es, ep, k _ _ (.inl rfl) e, c⟩, r⟩
  | rng lo hi => obtain ⟨t, u, v, e⟩ := x; exact ⟨t, u, v, k _ _ (.inl rfl) e⟩
  | frz ob u ih => obtain ⟨e, q⟩ := x; exact ⟨k _ _ (.inl rfl) e, ih q⟩
  | tbl ps =>
    have e : h.get? a = some { cls := .none, data := .fields ps } := x
    show h'.get? a = some { cls := .none, data := .fields ps }
    exact k a _ (.inl rfl) e
  | met f y =>
    have e : h.get? a = some (PySem.W.methodObj (.ref f) (.ref y)) := x
    show h'.get? a = some (PySem.W.methodObj (.ref f) (.ref y))
    exact k a _ (.inl rfl) e
  | ext φ => obtain ⟨p, ⟨o, e⟩, st⟩ := x; exact ⟨st _ _ p fun o q => k _ _ (.inl rfl) q, ⟨o, k _ _ (.inl rfl) e⟩, st⟩
theorem HOk.lt (x : HOk P w H h) (e : H a = some o) : a < h.objs.size := (x a o e).lt
theorem HOk.fresh (x : HOk P w H h) (e : h.objs.size ≤ a) : H a = none := by
  cases q : H a with
  | none => rfl
  | some u => exact absurd (Nat.lt_of_lt_of_le (x.lt q) e) (Nat.lt_irrefl _)
/-- every object of the heap is kept -/
theorem HOk.kept (x : HOk P w H h) (k : ∀ b u, h.get? b = some u → h'.get? b = some u) : HOk P w H h' := fun a o e =>
  (x a o e).stay (fun b u _ q => k b u q) (fun _ q => q) fun _ _ q => q
/-- a new object is laid and tracked -/
theorem HOk.laid (x : HOk P w H h) (k : ∀ b u, h.get? b = some u → h'.get? b = some u) (hp : h.objs.size ≤ a) (new : ObjOk P w (upd H a o) h' a o) : HOk P w (upd H a o) h' := fun b u e => by
  have hn := x.fresh hp
  by_cases hb : b = a
  · subst hb; rw [upd_same] at e; cases e; exact new
  · rw [upd_ne hb] at e
    exact (x b u e).stay (fun c v _ q => k c v q) (fun c q => by rw [upd_ne (ne_of_none q hn)]; exact q) fun c xs q => by rw [upd_ne (ne_of_none q hn)]; exact q
end

/-- what may be read as u: it is u, or a known u -/
def Rd (H : Hp) (a : Addr) (u : HO) : Prop := H a = some u ∨ ∃ o, H a = some (.frz o u)
theorem Rd.ok {P : Program} {w : World} {H : Hp} {h : Heap} {a : Addr} {u : HO} (r : Rd H a u) (x : HOk P w H h) : ObjOk P w H h a u := by
  rcases r with r | ⟨o, r⟩
  · exact x a u r
  · obtain ⟨_, q⟩ := x a _ r
    exact q
/-- what may be written -/
def Mut : Option HO → Prop
  | some (.lst _) => True
  | some (.dK _) => True
  | some (.dT _) => True
  | some (.set _ _) => True
  | some (.ins _ _ _) => True
  | some (.ext _) => True
  | _ => False
section
variable {P : Program} {w : World} {H : Hp} {h h' : Heap} {x e : Addr} {o' : HO}
/-- the object at e is changed: x itself, or the dict of the instance x -/
theorem HOk.write (ok : HOk P w H h) (mu : Mut (H x)) (he : e = x ∨ H e = some (.own x)) (k : ∀ b u, b ≠ e → h.get? b = some u → h'.get? b = some u) (heo : ∃ u, h'.get? e = some u)
    (new : ObjOk P w (upd H x o') h' x o') : HOk P w (upd H x o') h' := fun b u q => by
  have nown : ∀ c y, H c = some (.own y) → c ≠ x := fun c y r z => by subst z; rw [r] at mu; exact mu
  have ntup : ∀ c xs, H c = some (.tup xs) → c ≠ x := fun c xs r z => by subst z; rw [r] at mu; exact mu
  by_cases hb : b = x
  · subst hb; rw [upd_same] at q; cases q; exact new
  · rw [upd_ne hb] at q
    by_cases hbe : b = e
    · have q' : H b = some (.own x) := by
        rcases he with z | z
        · exact absurd (hbe.trans z) hb
        · rw [hbe]; exact z
      rw [q] at q'; cases q'
      obtain ⟨v, hv⟩ := heo
      exact ⟨v, by rw [hbe]; exact hv⟩
    · refine (ok b u q).stay (fun c v hc r => k c v ?_ r) (fun c r => by rw [upd_ne (nown c b r)]; exact r) fun c xs r => by rw [upd_ne (ntup c xs r)]; exact r
      rcases hc with rfl | hc
      · exact hbe
      · rintro rfl
        rcases he with z | z
        · exact nown c b hc z
        · rw [hc] at z; cases z; exact hb rfl
end

structure Un (fs ex : List Addr) (H H' : Hp) (h h' : Heap) : Prop where
  keep : ∀ b o, h.get? b = some o → H b = none → b ∉ fs → b ∉ ex → h'.get? b = some o
  slot : ∀ b o, h.get? b = some o → H b = none → b ∈ fs → b ∉ ex → ∃ sl, h'.get? b = some { o with slots := sl }
  free : ∀ b o, h.get? b = some o → H b = none → b ∉ ex → H' b = none
  there : ∀ b o, h.get? b = some o → b ∉ ex → ∃ o', h'.get? b = some o'
  tups : ∀ b xs, H b = some (.tup xs) → H' b = some (.tup xs)
  frzs : ∀ b o u, H b = some (.frz o u) → H' b = some (.frz o u)
  tbls : ∀ b ps, H b = some (.tbl ps) → ∃ more, H' b = some (.tbl (ps ++ more))
section
variable {fs fs' ex ex' : List Addr} {H H1 H2 : Hp} {h h1 h2 h' : Heap} {a x e : Addr} {o : HO}
theorem Un.any (u : Un fs ex H H1 h h1) {b : Addr} {ob : Obj} (q : h.get? b = some ob) (n : H b = none) (hx : b ∉ ex) : ∃ sl, h1.get? b = some { ob with slots := sl } := by
  by_cases hb : b ∈ fs
  · exact u.slot b ob q n hb hx
  · exact ⟨ob.slots, u.keep b ob q n hb hx⟩
theorem Un.kept (k : ∀ b u, h.get? b = some u → h'.get? b = some u) : Un fs ex H H h h' :=
  ⟨fun b ob q _ _ _ => k b ob q, fun b ob q _ _ _ => ⟨ob.slots, k b ob q⟩, fun _ _ _ n _ => n, fun b ob q _ => ⟨ob, k b ob q⟩, fun _ _ q => q, fun _ _ _ q => q, fun _ ps q => ⟨#[], by rw [q]; simp⟩⟩
theorem Un.refl : Un fs ex H H h h := Un.kept fun _ _ q => q
theorem Un.laid (k : ∀ b u, h.get? b = some u → h'.get? b = some u) (hp : h.objs.size ≤ a) (hn : H a = none) : Un fs ex H (upd H a o) h h' where
  keep := fun b u q _ _ _ => k b u q
  slot := fun b u q _ _ _ => ⟨u.slots, k b u q⟩
  free := fun b u q n _ => by rw [upd_ne (Nat.ne_of_lt (Nat.lt_of_lt_of_le (Heap.lt_size q) hp))]; exact n
  there := fun b u q _ => ⟨u, k b u q⟩
  tups := fun b xs q => by rw [upd_ne (ne_of_none q hn)]; exact q
  frzs := fun b u xs q => by rw [upd_ne (ne_of_none q hn)]; exact q
  tbls := fun b ps q => ⟨#[], by rw [upd_ne (ne_of_none q hn), q]; simp⟩
theorem Un.write (mu : Mut (H x)) (he : e = x ∨ H e = some (.own x)) (k : ∀ b u, b ≠ e → h.get? b = some u → h'.get? b = some u) (heo : ∃ u, h'.get? e = some u) : Un fs ex H (upd H x o) h h' := by
  have hx : ∀ b, H b = none → b ≠ x := fun b n z => by subst z; rw [n] at mu; exact mu
  have hb : ∀ b, H b = none → b ≠ e := fun b n z => by
    subst z
    rcases he with r | r
    · exact hx b n r
    · rw [n] at r; cases r
  have hm : ∀ b u, H b = some u → ¬ Mut (some u) → b ≠ x := fun b u q nm z => by subst z; rw [q] at mu; exact nm mu
  refine ⟨fun b u q n _ _ => k b u (hb b n) q, fun b u q n _ _ => ⟨u.slots, k b u (hb b n) q⟩, fun b u q n _ => by rw [upd_ne (hx b n)]; exact n, fun b u q _ => ?_,
    fun b xs q => by rw [upd_ne (hm b _ q fun z => z)]; exact q, fun b u xs q => by rw [upd_ne (hm b _ q fun z => z)]; exact q, fun b ps q => ⟨#[], by rw [upd_ne (hm b _ q fun z => z), q]; simp⟩⟩
  by_cases hbe : b = e
  · subst hbe; exact heo
  · exact ⟨u, k b u hbe q⟩
end

def trk (h : Heap) (H : Hp) : List Addr := (List.range h.objs.size).filter fun a => (H a).isSome
def hidT (h : Heap) (H : Hp) : Heap := PySem.W.hideAll h (trk h H)
theorem hidT_size (h : Heap) (H : Hp) : (hidT h H).objs.size = h.objs.size := PySem.W.hideAll_size _ _
theorem hidT_get {h : Heap} {H : Hp} {b : Addr} {o : Obj} (e : h.get? b = some o) (n : H b = none) : (hidT h H).get? b = some o :=
  PySem.W.hideAll_get _ e fun hm => by
    have q : (H b).isSome = true := (List.mem_filter.mp hm).2
    rw [n] at q; simp at q
theorem of_hidT {h : Heap} {H : Hp} {b : Addr} {o : Obj} (e : (hidT h H).get? b = some o) : h.get? b = some o ∧ H b = none := by
  have e' : h.get? b = some o := PySem.W.of_hideAll (trk h H) e
  refine ⟨e', ?_⟩
  cases q : H b with
  | none => rfl
  | some x =>
    have hm : b ∈ trk h H := List.mem_filter.mpr ⟨List.mem_range.mpr (Heap.lt_size e'), by simp [q]⟩
    have z : (hidT h H).get? b = none := PySem.W.hideAll_none (trk h H) hm
    rw [z] at e; cases e

end L2

namespace L2
open PySem PySem.Spec PyProof.Rows

/-- the module's facts, over the base: the heap at the law's entry without what is tracked there -/
structure Mod (K : PySem.W.Frag) (mg : Str → Option Value) (base : Heap) : Prop where
  kin : K.In base
  glob : base.Ns mainGlobals mg
  blt : ∃ mb, base.Ns builtinsNs mb ∧ ∀ x : Str, x ≠ "__name__" → mb x = bootBuiltins x
  nolimit : base.NoLimit

/-- the context: a def's body (or a comprehension's block) running. base: fixed through the whole law; s₀, H₀: the entry; outer: the frames whose slots others may change (a def's callers); stack: all frames that run;
   ex: iterators that were made ahead of the entry and are walked here (a comprehension's); fn: the names whose cells were made at the entry (a def: all; a comprehension's block: its own); calm: not within an except suite; pn: pins that every state bears; xe: what is wanted of an exception that leaves the code -/
structure Cx where
  prog : Program
  w : World
  K : PySem.W.Frag
  mg : Str → Option Value
  base : Heap
  A : Around
  N : List Str
  s₀ : Shared
  H₀ : Hp
  env : Env
  outer : List Env
  stack : List Env
  ex : List Addr
  fn : Str → Bool
  calm : Bool
  pn : List (Addr × Obj)
  xe : Value → Shared → Prop
/-- the callers' frames -/
def frs (l : List Env) : List Addr := l.filterMap (·.frame)
abbrev Cx.fs (X : Cx) : List Addr := frs X.outer

def Vis (sc : Scope) (x : Str) : Prop := sc.names.lookup x = some .local ∨ sc.names.lookup x = some .cell ∨ sc.names.lookup x = some .free
def Loc (sc : Scope) (x : Str) : Prop := sc.names.lookup x = some .local ∨ sc.names.lookup x = some .cell
def Look (env : Env) (h : Heap) (m : Str → Option Value) (x : Str) (u : Value) : Prop :=
  (env.kindOf x = some .local ∧ m x = some u) ∨ ((env.kindOf x = some .cell ∨ env.kindOf x = some .free) ∧ ∃ c, env.cells.lookup x = some c ∧ h.IsCell c (some u))

structure Cx.Ok (X : Cx) : Prop where
  mod : Mod X.K X.mg X.base
  kind : X.env.scope.kind = .function
  glob : X.env.globals = mainGlobals
  blt : X.env.builtins = builtinsNs
  above : X.s₀.heap.objs.size ≤ X.env.locals
  inj : ∀ x y c, X.env.cells.lookup x = some c → X.env.cells.lookup y = some c → x = y
  has : ∀ x, (X.env.kindOf x = some .cell ∨ X.env.kindOf x = some .free) → ∃ c, X.env.cells.lookup x = some c
  cab : ∀ x c, X.fn x = true → X.env.cells.lookup x = some c → X.s₀.heap.objs.size ≤ c
  hd : X.calm = true → X.A.handled = none
  frames : X.A.frames = some X.stack
  stk : X.stack = X.outer ∨ (X.stack = X.env :: X.outer ∧ X.env.frame = some X.env.locals)
  exf : ∀ b ∈ X.ex, b ≠ X.env.locals ∧ ∀ x c, X.env.cells.lookup x = some c → c ≠ b
  bs : ∀ b o, X.base.get? b = some o → X.s₀.heap.get? b = some o ∧ X.H₀ b = none
  bsz : X.base.objs.size ≤ X.s₀.heap.objs.size
  noex : ∀ b o, X.base.get? b = some o → b ∉ X.ex
  exfs : ∀ b ∈ X.ex, b ∉ X.fs
  funs : X.s₀.heap.FunFrames X.base X.outer
  frf : ∀ b ∈ X.fs, X.H₀ b = none

structure Inv (X : Cx) (pins : List (Addr × Obj)) (σ : List (Option V)) (H : Hp) (s : Shared) : Prop where
  ok : X.Ok
  os : s.os = X.s₀.os
  bare : AllBare s.gens
  base : Un X.fs X.ex X.H₀ H X.s₀.heap s.heap
  loc : ∃ m, s.heap.Ns X.env.locals m ∧ ∀ (i : Nat) (x : Str) (v : V), X.N[i]? = some x → σ[i]? = some (some v) → Vis X.env.scope x → ∃ u, RelV v u ∧ Look X.env s.heap m x u
  cell : ∀ x c, X.env.cells.lookup x = some c → ∃ v, s.heap.IsCell c v
  free : H X.env.locals = none
  freeC : ∀ x c, X.env.cells.lookup x = some c → H c = none
  pin : ∀ p ∈ X.pn ++ pins, s.heap.get? p.1 = some p.2 ∧ H p.1 = none ∧ p.1 ≠ X.env.locals ∧ p.1 ∉ X.fs ∧ ∀ v, p.2.data ≠ .cell v
  hok : HOk X.prog X.w H s.heap
  len : σ.length = X.N.length

section
variable {X : Cx} {pins : List (Addr × Obj)} {σ : List (Option V)} {H H' : Hp} {s : Shared} {h' : Heap}

theorem Cx.Ok.nofr (ok : X.Ok) {b : Addr} {o : Obj} (e : X.base.get? b = some o) : b ∉ X.fs := fun hb => by
  have := (ok.funs.mem hb).1
  rw [e] at this; cases this
theorem Inv.bs (I : Inv X pins σ H s) : ∀ b o, X.base.get? b = some o → s.heap.get? b = some o ∧ H b = none := fun b o e =>
  ⟨I.base.keep b o (I.ok.bs b o e).1 (I.ok.bs b o e).2 (I.ok.nofr e) (I.ok.noex b o e), I.base.free b o (I.ok.bs b o e).1 (I.ok.bs b o e).2 (I.ok.noex b o e)⟩
theorem Inv.bk (I : Inv X pins σ H s) : ∀ b o, X.base.get? b = some o → s.heap.get? b = some o := fun b o e => (I.bs b o e).1
theorem Inv.mod (I : Inv X pins σ H s) : Mod X.K X.mg X.base := I.ok.mod
theorem Inv.kIn (I : Inv X pins σ H s) : X.K.In s.heap := I.ok.mod.kin.keeps I.bk
theorem Inv.lt (I : Inv X pins σ H s) : X.env.locals < s.heap.objs.size := let ⟨_, hn, _⟩ := I.loc; hn.lt
theorem Inv.sz (I : Inv X pins σ H s) : X.s₀.heap.objs.size ≤ s.heap.objs.size := Nat.le_trans I.ok.above (Nat.le_of_lt I.lt)
theorem Inv.nofs (I : Inv X pins σ H s) {a : Addr} (h : s.heap.objs.size ≤ a) : a ∉ X.fs := fun hb => by
  obtain ⟨_, o, ho, _⟩ := I.ok.funs.mem hb
  exact absurd (Nat.lt_of_lt_of_le (Heap.lt_size ho) (Nat.le_trans I.sz h)) (Nat.lt_irrefl _)
theorem Inv.cne (I : Inv X pins σ H s) : ∀ x c, X.env.cells.lookup x = some c → c ≠ X.env.locals := fun x c e z => by
  obtain ⟨v, o, ho, hd⟩ := I.cell x c e
  obtain ⟨m, ⟨o', es, ep, ho', hd', _⟩, _⟩ := I.loc
  rw [z, ho'] at ho; cases ho; rw [hd'] at hd; cases hd
theorem Inv.funs (I : Inv X pins σ H s) : s.heap.FunFrames X.base X.outer := by
  have all : ∀ (l : List Env), (∀ b ∈ frs l, b ∈ X.fs) → X.s₀.heap.FunFrames X.base l → s.heap.FunFrames X.base l := by
    intro l
    induction l with
    | nil => intro _ _; trivial
    | cons env r ih =>
      intro hs hl
      obtain ⟨hk, ⟨L, o, hf, hn, ho, hd⟩, hr⟩ := hl
      have hL : L ∈ X.fs := hs L (by unfold frs; rw [List.filterMap_cons, hf]; exact List.mem_cons_self)
      obtain ⟨sl, e⟩ := I.base.slot L o ho (I.ok.frf L hL) hL fun z => I.ok.exfs L z hL
      exact ⟨hk, ⟨L, _, hf, hn, e, hd⟩, ih (fun b hb => hs b (by unfold frs; rw [List.filterMap_cons, hf]; exact List.mem_cons_of_mem _ hb)) hr⟩
  exact all X.outer (fun _ hb => hb) I.ok.funs

/-- the frames that run, for a call -/
theorem Inv.stack (I : Inv X pins σ H s) : s.heap.FunFrames X.base X.stack := by
  rcases I.ok.stk with e | ⟨e, hf⟩
  · rw [e]; exact I.funs
  · rw [e]
    obtain ⟨m, hn, _⟩ := I.loc
    refine .cons (by rw [I.ok.kind]; decide) hf hn ?_ I.funs
    exact Heap.get?_none_of_le (Nat.le_trans I.ok.bsz I.ok.above)
theorem Inv.stkSub (I : Inv X pins σ H s) : ∀ b ∈ frs X.stack, b ∈ X.env.locals :: X.fs := fun b hb => by
  rcases I.ok.stk with e | ⟨e, hf⟩
  · rw [e] at hb; exact List.mem_cons_of_mem _ hb
  · rw [e] at hb
    unfold frs at hb
    rw [List.filterMap_cons, hf] at hb
    exact hb
theorem Inv.stkFree (I : Inv X pins σ H s) : ∀ b ∈ frs X.stack, H b = none := fun b hb => by
  rcases List.mem_cons.mp (I.stkSub b hb) with e | hb
  · rw [e]; exact I.free
  · obtain ⟨_, o, ho, _⟩ := I.ok.funs.mem hb
    exact I.base.free b o ho (I.ok.frf b hb) fun z => I.ok.exfs b z hb

/-- THE STEP: the untracked objects but the frame and the records at ch are kept (the callers' frames up to slots), the frame's map is kept, the new abstract heap is held -/
theorem Inv.step {g' : Array GenState} {t' : Nat} {d' : Drawn} {ch : List Addr} (I : Inv X pins σ H s)
    (hch : ∀ b ∈ ch, (b ∈ X.ex ∨ X.s₀.heap.objs.size ≤ b) ∧ b ≠ X.env.locals ∧ (∀ x c, X.env.cells.lookup x = some c → c ≠ b) ∧ ∀ p ∈ X.pn ++ pins, p.1 ≠ b)
    (keep : ∀ b o, b ≠ X.env.locals → b ∉ X.fs → b ∉ ch → s.heap.get? b = some o → H b = none → h'.get? b = some o)
    (slot : ∀ b o, b ≠ X.env.locals → b ∈ X.fs → b ∉ ch → s.heap.get? b = some o → H b = none → ∃ sl, h'.get? b = some { o with slots := sl }) (free : ∀ b o, b ∉ ch → s.heap.get? b = some o → H b = none → H' b = none)
    (there : ∀ b o, b ∉ ch → s.heap.get? b = some o → ∃ o', h'.get? b = some o')
    (tups : ∀ b xs, H b = some (.tup xs) → H' b = some (.tup xs)) (frzs : ∀ b o u, H b = some (.frz o u) → H' b = some (.frz o u)) (tbls : ∀ b ps, H b = some (.tbl ps) → ∃ more, H' b = some (.tbl (ps ++ more)))
    (ns : ∀ m, s.heap.Ns X.env.locals m → h'.Ns X.env.locals m) (hok : HOk X.prog X.w H' h') (hg : AllBare g') :
    Inv X pins σ H' { s with heap := h', gens := g', drawn := d', toks := t' } := by
  have neL : ∀ b o, X.s₀.heap.get? b = some o → b ≠ X.env.locals := fun b o e => Nat.ne_of_lt (Nat.lt_of_lt_of_le (Heap.lt_size e) I.ok.above)
  have neC : ∀ b o, X.s₀.heap.get? b = some o → b ∉ X.ex → b ∉ ch := fun b o e hx hb => by
    rcases (hch b hb).1 with z | z
    · exact hx z
    · exact absurd (Nat.lt_of_lt_of_le (Heap.lt_size e) z) (Nat.lt_irrefl _)
  have cellK : ∀ x c, X.env.cells.lookup x = some c → ∀ v, s.heap.IsCell c v → h'.IsCell c v := fun x c e v ⟨o, ho, hd⟩ => by
    have nch : c ∉ ch := fun z => (hch c z).2.2.1 x c e rfl
    by_cases hc : c ∈ X.fs
    · obtain ⟨sl, q⟩ := slot c o (I.cne x c e) hc nch ho (I.freeC x c e)
      exact ⟨_, q, hd⟩
    · exact ⟨o, keep c o (I.cne x c e) hc nch ho (I.freeC x c e), hd⟩
  refine ⟨I.ok, I.os, hg, ⟨fun b o e n hb hx => ?_, fun b o e n hb hx => ?_, fun b o e n hx => ?_, fun b o e hx => ?_, fun b xs e => tups b xs (I.base.tups b xs e), fun b o xs e => frzs b o xs (I.base.frzs b o xs e), fun b ps e => ?_⟩, ?_, fun x c e => ?_, ?_, fun x c e => ?_, fun p hp => ?_, hok, I.len⟩
  · exact keep b o (neL b o e) hb (neC b o e hx) (I.base.keep b o e n hb hx) (I.base.free b o e n hx)
  · obtain ⟨sl, e1⟩ := I.base.slot b o e n hb hx
    obtain ⟨sl', e2⟩ := slot b _ (neL b o e) hb (neC b o e hx) e1 (I.base.free b o e n hx)
    exact ⟨sl', e2⟩
  · obtain ⟨o', e1⟩ := I.base.there b o e hx
    exact free b o' (neC b o e hx) e1 (I.base.free b o e n hx)
  · obtain ⟨o', e1⟩ := I.base.there b o e hx
    exact there b o' (neC b o e hx) e1
  · obtain ⟨m1, e1⟩ := I.base.tbls b ps e
    obtain ⟨m2, e2⟩ := tbls b _ e1
    exact ⟨m1 ++ m2, by rw [e2, Array.append_assoc]⟩
  · obtain ⟨m, hn, hl⟩ := I.loc
    refine ⟨m, ns m hn, fun i x v e1 e2 e3 => ?_⟩
    obtain ⟨u, r, l⟩ := hl i x v e1 e2 e3
    refine ⟨u, r, ?_⟩
    rcases l with l | ⟨k, c, e, z⟩
    · exact .inl l
    · exact .inr ⟨k, c, e, cellK x c e _ z⟩
  · obtain ⟨v, z⟩ := I.cell x c e
    exact ⟨v, cellK x c e v z⟩
  · obtain ⟨m, ⟨o, _, _, ho, _⟩, _⟩ := I.loc
    exact free _ o (fun z => (hch _ z).2.1 rfl) ho I.free
  · obtain ⟨v, o, ho, hd⟩ := I.cell x c e
    exact free c o (fun z => (hch c z).2.2.1 x c e rfl) ho (I.freeC x c e)
  · obtain ⟨e, n, ne, nf, d⟩ := I.pin p hp
    have nch : p.1 ∉ ch := fun z => (hch p.1 z).2.2.2 p hp rfl
    exact ⟨keep p.1 p.2 ne nf nch e n, free p.1 p.2 nch e n, ne, nf, d⟩
/-- .. where the frame's own object is kept too -/
theorem Inv.un {t' : Nat} (I : Inv X pins σ H s) (u : Un X.fs [] H H' s.heap h') (hok : HOk X.prog X.w H' h') : Inv X pins σ H' { s with heap := h', toks := t' } := by
  obtain ⟨m, ⟨o, es, ep, ho, r⟩, _⟩ := id I.loc
  obtain ⟨sl, hL⟩ := u.any ho I.free (by simp)
  exact I.step (g' := s.gens) (d' := s.drawn) (ch := []) (fun _ z => nomatch z) (fun b o _ hb _ e n => u.keep b o e n hb (by simp)) (fun b o _ hb _ e n => u.slot b o e n hb (by simp)) (fun b o _ e n => u.free b o e n (by simp)) (fun b o _ e => u.there b o e (by simp)) u.tups u.frzs u.tbls (fun m' hm => by
    obtain ⟨o', es', ep', ho', r'⟩ := hm
    rw [ho] at ho'; cases ho'
    exact ⟨_, es', ep', hL, r'⟩) hok I.bare
/-- behind a call (or a comprehension's block): the slots of this frame may have changed too, the records at ch may have turned -/
theorem Inv.call {g' : Array GenState} {t' : Nat} {d' : Drawn} {ch : List Addr} (I : Inv X pins σ H s) (u : Un (frs X.stack) ch H H' s.heap h') (hok : HOk X.prog X.w H' h') (hg : AllBare g')
    (hch : ∀ b ∈ ch, (b ∈ X.ex ∨ X.s₀.heap.objs.size ≤ b) ∧ b ≠ X.env.locals ∧ (∀ x c, X.env.cells.lookup x = some c → c ≠ b) ∧ ∀ p ∈ X.pn ++ pins, p.1 ≠ b) :
    Inv X pins σ H' { s with heap := h', gens := g', drawn := d', toks := t' } := by
  obtain ⟨m, ⟨o, es, ep, ho, r⟩, _⟩ := id I.loc
  obtain ⟨sl, hL⟩ := u.any ho I.free fun z => (hch _ z).2.1 rfl
  exact I.step (ch := ch) hch (fun b o hL hb hc e n => u.keep b o e n (fun z => (List.mem_cons.mp (I.stkSub b z)).elim hL hb) hc) (fun b o _ _ hc e n => u.any e n hc) (fun b o hc e n => u.free b o e n hc) (fun b o hc e => u.there b o e hc) u.tups u.frzs u.tbls (fun m' hm => by
    obtain ⟨o', es', ep', ho', r'⟩ := hm
    rw [ho] at ho'; cases ho'
    exact ⟨_, es', ep', hL, r'⟩) hok hg
/-- an untracked record of ours (an iterator) has turned -/
theorem Inv.turned {t' : Nat} {it : Addr} (I : Inv X pins σ H s) (k : ∀ b o, b ≠ it → s.heap.get? b = some o → h'.get? b = some o) (hn : H it = none) (hL : it ≠ X.env.locals)
    (h1 : it ∈ X.ex ∨ X.s₀.heap.objs.size ≤ it) (h2 : ∀ x c, X.env.cells.lookup x = some c → c ≠ it) (h3 : ∀ p ∈ X.pn ++ pins, p.1 ≠ it) : Inv X pins σ H { s with heap := h', toks := t' } := by
  have nit : ∀ b u, H b = some u → b ≠ it := fun b u e z => by rw [z, hn] at e; cases e
  refine I.step (g' := s.gens) (d' := s.drawn) (ch := [it]) (fun b hb => ?_) (fun b o _ _ hc e _ => k b o (fun z => hc (by simp [z])) e) (fun b o _ _ hc e _ => ⟨o.slots, k b o (fun z => hc (by simp [z])) e⟩) (fun _ _ _ _ n => n)
    (fun b o hc e => ⟨o, k b o (fun z => hc (by simp [z])) e⟩) (fun _ _ e => e) (fun _ _ _ e => e) (fun b ps e => ⟨#[], by rw [e]; simp⟩) (fun m hm => ?_) (fun b u e => ?_) I.bare
  · have e : b = it := by simpa using hb
    subst e
    exact ⟨h1, hL, h2, h3⟩
  · obtain ⟨o, es, ep, ho, r⟩ := hm
    exact ⟨o, es, ep, k _ o (Ne.symm hL) ho, r⟩
  · refine (I.hok b u e).stay (fun c v hc q => k c v ?_ q) (fun _ q => q) fun _ _ q => q
    rcases hc with z | z
    · rw [z]; exact nit b u e
    · exact nit c _ z
theorem Inv.tok (I : Inv X pins σ H s) (t : Nat) : Inv X pins σ H { s with toks := t } := I.un (h' := s.heap) (t' := t) Un.refl I.hok
/-- all objects kept -/
theorem Inv.kept {t' : Nat} (I : Inv X pins σ H s) (k : ∀ b u, s.heap.get? b = some u → h'.get? b = some u) : Inv X pins σ H { s with heap := h', toks := t' } := I.un (Un.kept k) (I.hok.kept k)
/-- a new object laid and tracked -/
theorem Inv.laid {a : Addr} {o : HO} {t' : Nat} (I : Inv X pins σ H s) (k : ∀ b u, s.heap.get? b = some u → h'.get? b = some u) (hp : s.heap.objs.size ≤ a) (new : ObjOk X.prog X.w (upd H a o) h' a o) :
    Inv X pins σ (upd H a o) { s with heap := h', toks := t' } := I.un (Un.laid k hp (I.hok.fresh hp)) (I.hok.laid k hp new)
/-- an object written -/
theorem Inv.write {x e : Addr} {o : HO} {t' : Nat} (I : Inv X pins σ H s) (mu : Mut (H x)) (he : e = x ∨ H e = some (.own x)) (k : ∀ b u, b ≠ e → s.heap.get? b = some u → h'.get? b = some u) (heo : ∃ u, h'.get? e = some u)
    (new : ObjOk X.prog X.w (upd H x o) h' x o) : Inv X pins σ (upd H x o) { s with heap := h', toks := t' } := I.un (Un.write mu he k heo) (I.hok.write mu he k heo new)
theorem Inv.pins_of {pins' : List (Addr × Obj)} (I : Inv X pins σ H s) (h : ∀ p ∈ pins', s.heap.get? p.1 = some p.2 ∧ H p.1 = none ∧ p.1 ≠ X.env.locals ∧ p.1 ∉ X.fs ∧ ∀ v, p.2.data ≠ .cell v) : Inv X pins' σ H s :=
  ⟨I.ok, I.os, I.bare, I.base, I.loc, I.cell, I.free, I.freeC, fun p hp => (List.mem_append.mp hp).elim (fun z => I.pin p (List.mem_append_left _ z)) (h p), I.hok, I.len⟩

theorem nodup_ix {N : List Str} (hN : N.Nodup) {i j : Nat} {x : Str} (a : N[i]? = some x) (b : N[j]? = some x) : i = j := by
  obtain ⟨h1, e1⟩ := List.getElem?_eq_some_iff.mp a
  obtain ⟨h2, e2⟩ := List.getElem?_eq_some_iff.mp b
  exact (List.getElem_inj hN).mp (e1.trans e2.symm)

/-- a name is stored; what changed -/
theorem store_ok2 {M : Model} {A : Around} {E : Value → Shared → Prop} {i : Nat} {x : Str} {v : V} {u : Value} {Q : Unit → Shared → Prop} (I : Inv X pins σ H s) (hN : X.N.Nodup) (hi : X.N[i]? = some x) (hx : Loc X.env.scope x) (r : RelV v u)
    (h : ∀ s', Inv X pins (σ.set i (some v)) H s' → (∃ a, Heap.SameBut a s.heap s'.heap ∧ (a = X.env.locals ∨ X.env.cells.lookup x = some a)) → Q () s') (hf : X.fn x = true ∨ X.env.scope.names.lookup x = some .local := by first | exact .inl rfl | exact .inr rfl | assumption) : wpAny M A (storeName X.env x u) Q E s := by
  obtain ⟨m, hn, hl⟩ := id I.loc
  have hcls : (X.env.scope.kind == .class || (X.env.scope.kind == .module && X.env.locals != X.env.globals)) = false := by rw [I.ok.kind]; rfl
  have hiσ : i < σ.length := by rw [I.len]; exact (List.getElem?_eq_some_iff.mp hi).1
  have cne := I.cne
  have tracked : ∀ {a : Addr} {h' : Heap}, (∃ o, s.heap.get? a = some o ∧ H a = none) → Heap.SameBut a s.heap h' → HOk X.prog X.w H h' := fun {a h'} ha hs b ob e => by
    obtain ⟨_, _, hfree⟩ := ha
    refine (I.hok b ob e).stay (fun c w' hc q => (hs.2 c ?_).trans q) (fun _ q => q) fun _ _ q => q
    rintro rfl
    rcases hc with rfl | hc
    · rw [hfree] at e; cases e
    · rw [hfree] at hc; cases hc
  rcases hx with hk | hk
  · refine wpAny_storeName_local hk hn (fun h' hn' hs => ?_) hcls
    obtain ⟨oL, _, _, hoL, _⟩ := id hn
    refine h _ ⟨I.ok, I.os, I.bare, ⟨fun b o e n hb hx => ?_, fun b o e n hb hx => ?_, I.base.free, fun b o e hx => ?_, I.base.tups, I.base.frzs, I.base.tbls⟩, ⟨_, hn', fun j y v' e1 e2 e3 => ?_⟩, fun y c e => ?_, I.free, I.freeC, fun p hp => ?_, tracked ⟨oL, hoL, I.free⟩ hs, by simpa using I.len⟩ ⟨_, hs, .inl rfl⟩
    · exact (hs.2 b (Nat.ne_of_lt (Nat.lt_of_lt_of_le (Heap.lt_size e) I.ok.above))).trans (I.base.keep b o e n hb hx)
    · obtain ⟨sl, e1⟩ := I.base.slot b o e n hb hx
      exact ⟨sl, (hs.2 b (Nat.ne_of_lt (Nat.lt_of_lt_of_le (Heap.lt_size e) I.ok.above))).trans e1⟩
    · obtain ⟨o', e1⟩ := I.base.there b o e hx
      exact ⟨o', (hs.2 b (Nat.ne_of_lt (Nat.lt_of_lt_of_le (Heap.lt_size e) I.ok.above))).trans e1⟩
    · by_cases hj : j = i
      · subst hj
        rw [hi] at e1; cases e1
        rw [List.getElem?_set_self hiσ] at e2
        cases e2
        exact ⟨u, r, .inl ⟨hk, by simp⟩⟩
      · rw [List.getElem?_set_ne (Ne.symm hj)] at e2
        obtain ⟨u', r', q⟩ := hl j y v' e1 e2 e3
        refine ⟨u', r', ?_⟩
        rcases q with ⟨k, e⟩ | ⟨k, c, e, z⟩
        · refine .inl ⟨k, ?_⟩
          have : y ≠ x := fun e => hj (nodup_ix hN e1 (e ▸ hi))
          simp [this, e]
        · exact .inr ⟨k, c, e, z.sameBut hs (cne y c e)⟩
    · obtain ⟨w', z⟩ := I.cell y c e
      exact ⟨w', z.sameBut hs (cne y c e)⟩
    · obtain ⟨e, n, ne, nf, d⟩ := I.pin p hp
      exact ⟨(hs.2 p.1 ne).trans e, n, ne, nf, d⟩
  · have hfn : X.fn x = true := by
      rcases hf with z | z
      · exact z
      · rw [z] at hk; cases hk
    obtain ⟨c, hc⟩ := I.ok.has x (.inl hk)
    obtain ⟨w', z⟩ := I.cell x c hc
    refine wpAny_storeName_cell I.ok.kind hk hc z (fun h' hc' hs => ?_)
    obtain ⟨oc, hoc, hocd⟩ := id z
    refine h { s with heap := h' } ⟨I.ok, I.os, I.bare, ⟨fun b o e n hb hx => ?_, fun b o e n hb hx => ?_, I.base.free, fun b o e hx => ?_, I.base.tups, I.base.frzs, I.base.tbls⟩, ⟨m, hn.sameBut hs (Ne.symm (cne x c hc)), fun j y v' e1 e2 e3 => ?_⟩, fun y c' e => ?_, I.free, I.freeC, fun p hp => ?_, tracked ⟨oc, hoc, I.freeC x c hc⟩ hs, by simpa using I.len⟩ ⟨c, hs, .inr hc⟩
    · exact (hs.2 b (Nat.ne_of_lt (Nat.lt_of_lt_of_le (Heap.lt_size e) (I.ok.cab x c hfn hc)))).trans (I.base.keep b o e n hb hx)
    · obtain ⟨sl, e1⟩ := I.base.slot b o e n hb hx
      exact ⟨sl, (hs.2 b (Nat.ne_of_lt (Nat.lt_of_lt_of_le (Heap.lt_size e) (I.ok.cab x c hfn hc)))).trans e1⟩
    · obtain ⟨o', e1⟩ := I.base.there b o e hx
      exact ⟨o', (hs.2 b (Nat.ne_of_lt (Nat.lt_of_lt_of_le (Heap.lt_size e) (I.ok.cab x c hfn hc)))).trans e1⟩
    · by_cases hj : j = i
      · subst hj
        rw [hi] at e1; cases e1
        rw [List.getElem?_set_self hiσ] at e2
        cases e2
        exact ⟨u, r, .inr ⟨.inl hk, c, hc, hc'⟩⟩
      · rw [List.getElem?_set_ne (Ne.symm hj)] at e2
        obtain ⟨u', r', q⟩ := hl j y v' e1 e2 e3
        refine ⟨u', r', ?_⟩
        rcases q with q | ⟨k, c', e, z'⟩
        · exact .inl q
        · refine .inr ⟨k, c', e, z'.sameBut hs ?_⟩
          rintro rfl
          exact hj (nodup_ix hN e1 (I.ok.inj _ _ _ e hc ▸ hi))
    · by_cases hcc : c' = c
      · subst hcc; exact ⟨_, hc'⟩
      · obtain ⟨w2, z2⟩ := I.cell y c' e
        exact ⟨w2, z2.sameBut hs hcc⟩
    · obtain ⟨e, n, ne, nf, d⟩ := I.pin p hp
      refine ⟨(hs.2 p.1 ?_).trans e, n, ne, nf, d⟩
      intro q
      rw [q, hoc] at e
      have q' : oc = p.2 := Option.some.inj e
      exact d w' (by rw [← q']; exact hocd)
theorem store_ok {M : Model} {A : Around} {E : Value → Shared → Prop} {i : Nat} {x : Str} {v : V} {u : Value} {Q : Unit → Shared → Prop} (I : Inv X pins σ H s) (hN : X.N.Nodup) (hi : X.N[i]? = some x) (hx : Loc X.env.scope x) (r : RelV v u)
    (h : ∀ s', Inv X pins (σ.set i (some v)) H s' → Q () s') (hf : X.fn x = true ∨ X.env.scope.names.lookup x = some .local := by first | exact .inl rfl | exact .inr rfl | assumption) : wpAny M A (storeName X.env x u) Q E s :=
  store_ok2 I hN hi hx r (fun s' I' _ => h s' I') hf
/-- behind a call or a block, the state as it is -/
theorem Inv.call' {s' : Shared} {ch : List Addr} (I : Inv X pins σ H s) (ho : s'.os = s.os) (u : Un (frs X.stack) ch H H' s.heap s'.heap) (hok : HOk X.prog X.w H' s'.heap) (hg : AllBare s'.gens)
    (hch : ∀ b ∈ ch, (b ∈ X.ex ∨ X.s₀.heap.objs.size ≤ b) ∧ b ≠ X.env.locals ∧ (∀ x c, X.env.cells.lookup x = some c → c ≠ b) ∧ ∀ p ∈ X.pn ++ pins, p.1 ≠ b) : Inv X pins σ H' s' := by
  obtain ⟨h', g', d', t', o'⟩ := s'
  have e : o' = s.os := ho
  subst e
  exact I.call (g' := g') (t' := t') (d' := d') u hok hg hch
end

/-- an exception: its class, its own dict's address (where it has one), the abstract heap behind it -/
abbrev XK := Value → Option Addr → Hp → Prop
abbrev St := List (Option V)
abbrev VK := V → Hp → Prop
/-- an expression's reading; a test's; an argument list's -/
abbrev TE := St → Hp → VK → Prop
abbrev TT := St → Hp → (Bool → Hp → Prop) → Prop
abbrev TA := St → Hp → (List V → Hp → Prop) → Prop
/-- what is wanted behind a statement -/
structure Ends where
  nx : St → Hp → Prop
  rt : VK
  bk : St → Hp → Prop := fun _ _ => False
  ct : St → Hp → Prop := fun _ _ => False
abbrev TS := Ends → St → Hp → Prop

def EP (X : Cx) (pins : List (Addr × Obj)) (σ : St) (Q : VK) (u : Value) (s' : Shared) : Prop := ∃ v H', Inv X pins σ H' s' ∧ RelV v u ∧ Q v H'
def TP (X : Cx) (pins : List (Addr × Obj)) (σ : St) (Q : Bool → Hp → Prop) (b : Bool) (s' : Shared) : Prop := ∃ H', Inv X pins σ H' s' ∧ Q b H'
def AP (X : Cx) (pins : List (Addr × Obj)) (σ : St) (Q : List V → Hp → Prop) (us : List Value) (s' : Shared) : Prop := ∃ vs H', Inv X pins σ H' s' ∧ Vals vs us ∧ Q vs H'
def SP (X : Cx) (pins : List (Addr × Obj)) (D : Ends) (f : Flow) (s' : Shared) : Prop :=
  match f with
  | .next => ∃ σ' H', Inv X pins σ' H' s' ∧ D.nx σ' H'
  | .brk => ∃ σ' H', Inv X pins σ' H' s' ∧ D.bk σ' H'
  | .cont => ∃ σ' H', Inv X pins σ' H' s' ∧ D.ct σ' H'
  | .ret u => ∃ v σ' H', Inv X pins σ' H' s' ∧ RelV v u ∧ D.rt v H'

def PE (X : Cx) (e : Expr) (t : TE) : Prop :=
  ∀ (pins : List (Addr × Obj)) (s : Shared) (σ : St) (H : Hp) (Q : VK), Inv X pins σ H s → t σ H Q → wpAny (model X.prog X.w) X.A (eval e X.env) (EP X pins σ Q) X.xe s
def PT (X : Cx) (e : Expr) (t : TT) : Prop :=
  ∀ (pins : List (Addr × Obj)) (s : Shared) (σ : St) (H : Hp) (Q : Bool → Hp → Prop), Inv X pins σ H s → t σ H Q → wpAny (model X.prog X.w) X.A (isTrue e X.env (eval e X.env)) (TP X pins σ Q) X.xe s
/-- a test whatever its 'whole' is (and, or) -/
def PW (X : Cx) (e : Expr) (t : TT) : Prop :=
  ∀ (whole : Sem Value) (pins : List (Addr × Obj)) (s : Shared) (σ : St) (H : Hp) (Q : Bool → Hp → Prop), Inv X pins σ H s → t σ H Q → wpAny (model X.prog X.w) X.A (isTrue e X.env whole) (TP X pins σ Q) X.xe s
theorem PW.pt {X : Cx} {e : Expr} {t : TT} (h : PW X e t) : PT X e t := h _
/-- an argument list (no star), from the left -/
def PA (X : Cx) (es : List Expr) (t : TA) : Prop :=
  ∀ (pos : Pos) (pins : List (Addr × Obj)) (s : Shared) (σ : St) (H : Hp) (Q : List V → Hp → Prop), Inv X pins σ H s → t σ H Q → wpAny (model X.prog X.w) X.A (spliced (backTo pos (starEach es X.env))) (AP X pins σ Q) X.xe s
def PS (X : Cx) (st : Stmt) (t : TS) : Prop :=
  ∀ (pins : List (Addr × Obj)) (s : Shared) (σ : St) (H : Hp) (D : Ends), Inv X pins σ H s → t D σ H → wpAny (model X.prog X.w) X.A (exec st X.env) (SP X pins D) X.xe s
def PSs (X : Cx) (st : List Stmt) (t : TS) : Prop :=
  ∀ (pins : List (Addr × Obj)) (s : Shared) (σ : St) (H : Hp) (D : Ends), Inv X pins σ H s → t D σ H → wpAny (model X.prog X.w) X.A (execs st X.env) (SP X pins D) X.xe s
/-- weaken the end -/
theorem thn {α : Type} {t : Sem α} {Q Q' : α → Shared → Prop} {M : Model} {A : Around} {E : Value → Shared → Prop} {s : Shared} (h : wpAny M A t Q E s) (hQ : ∀ a s, Q a s → Q' a s) : wpAny M A t Q' E s := wpAny_mono h hQ fun _ _ x => x
end L2

namespace L2
open PySem PySem.Spec PyProof.Rows
section
variable {X : Cx}

def tVar (i : Nat) : TE := fun σ H Q => ∃ v, σ[i]? = some (some v) ∧ Q v H
def tC (v : V) : TE := fun _ H Q => Q v H
theorem pe_var {i : Nat} {x : Str} {pos : Pos} (hN : X.N[i]? = some x) (hv : Vis X.env.scope x) (hd : (x == ("__debug__" : Str)) = false := by decide) (hcd : (x == ("__classdict__" : Str)) = false := by decide) : PE X (.Name x pos) (tVar i) := by
  intro pins s σ H Q I h
  obtain ⟨v, e, h⟩ := h
  obtain ⟨m, hn, hl⟩ := I.loc
  obtain ⟨u, r, l⟩ := hl i x v hN e hv
  have fin : EP X pins σ Q u s := ⟨v, H, I, r, h⟩
  rcases l with ⟨hk, hm⟩ | ⟨hk, c, hc, hcell⟩
  · exact wpAny_Name (wpAny_loadName_local I.ok.kind hk hn hm fin) hd
  · rcases hk with hk | hk
    · exact wpAny_Name (wpAny_loadName_cell I.ok.kind hk hc hcell fin) hd
    · exact wpAny_Name (wpAny_loadName_free I.ok.kind hk hc hcell fin hcd) hd
theorem pe_int {i j pos} : PE X (.Constant (.int i) j pos) (tC (.int i)) := fun _ _ _ H _ I h => wpAny_Constant_int ⟨.int i, H, I.tok _, ⟨_, rfl⟩, h⟩
theorem pe_bl {b j pos} : PE X (.Constant (.bool b) j pos) (tC (.bl b)) := fun _ _ _ H _ I h => Constant_bool ⟨.bl b, H, I, rfl, h⟩
theorem pe_str {x j pos} : PE X (.Constant (.str x) j pos) (tC (.str x)) := fun _ _ _ H _ I h => Calls.Constant_str ⟨.str x, H, I.tok _, ⟨_, rfl⟩, h⟩

/-- a global name of the def -/
def Gl (X : Cx) (x : Str) : Prop := X.env.kindOf x = some .globalImplicit
theorem ld_glob {E : Value → Shared → Prop} {pins : List (Addr × Obj)} {s : Shared} {σ : St} {H : Hp} {x : Str} {u : Value} {pos : Pos} {Q : Value → Shared → Prop} (I : Inv X pins σ H s) (hg : Gl X x) (hm : X.mg x = some u) (h : Q u s)
    (hd : (x == ("__debug__" : Str)) = false := by decide) : wpAny (model X.prog X.w) X.A (eval (.Name x pos) X.env) Q E s :=
  Calls.Name_function_global I.ok.kind hg (Calls.loadGlobal_global (by rw [I.ok.glob]; exact I.mod.glob.keeps I.bk) hm h) hd
theorem ld_blt {E : Value → Shared → Prop} {pins : List (Addr × Obj)} {s : Shared} {σ : St} {H : Hp} {x : Str} {u : Value} {pos : Pos} {Q : Value → Shared → Prop} (I : Inv X pins σ H s) (hg : Gl X x) (hm : X.mg x = none) (hv : bootBuiltins x = some u) (h : Q u s)
    (hn : x ≠ "__name__" := by decide) (hd : (x == ("__debug__" : Str)) = false := by decide) : wpAny (model X.prog X.w) X.A (eval (.Name x pos) X.env) Q E s := by
  obtain ⟨mb, h1, h2⟩ := I.mod.blt
  exact Calls.Name_function_global I.ok.kind hg (Calls.loadGlobal_builtin (by rw [I.ok.glob]; exact I.mod.glob.keeps I.bk) hm (by rw [I.ok.blt]; exact h1.keeps I.bk) ((h2 x hn).trans hv) h) hd
/-- a module's constant, a class, a function, as a value -/
theorem pe_glob {x : Str} {v : V} {u : Value} {pos : Pos} (hg : Gl X x) (hm : X.mg x = some u) (r : RelV v u) (hd : (x == ("__debug__" : Str)) = false := by decide) : PE X (.Name x pos) (tC v) :=
  fun _ _ _ H _ I h => ld_glob I hg hm ⟨v, H, I, r, h⟩ hd
theorem pe_bltn {x : Str} {v : V} {u : Value} {pos : Pos} (hg : Gl X x) (hm : X.mg x = none) (hv : bootBuiltins x = some u) (r : RelV v u) (hn : x ≠ "__name__" := by decide) (hd : (x == ("__debug__" : Str)) = false := by decide) : PE X (.Name x pos) (tC v) :=
  fun _ _ _ H _ I h => ld_blt I hg hm hv ⟨v, H, I, r, h⟩ hn hd

variable {a b : Expr} {ta tb : TE} {pos : Pos}
/-- a comparison as a value, as a test -/
def tB (t : TE) : TT := fun σ H Q => t σ H fun x H1 => ∃ c, x = .bl c ∧ Q c H1
/-- an expression whose value is a bool, as a test -/
theorem pt_val {e : Expr} {t : TE} (h : PE X e t) (he : ∀ whole, isTrue e X.env whole = (do let v ← whole; standAt e.pos; holding [v] (truthy v)) := by intro _; rfl) : PT X e (tB t) := by
  intro pins s σ H Q I hw
  refine isTrue_plain (thn (h pins s σ H _ I hw) fun v s1 ⟨x, H1, I1, r1, q1⟩ => ?_) (he _)
  obtain ⟨d, rfl, q⟩ := q1
  cases r1
  exact wpAny_truthy_bool ⟨H1, I1, q⟩

variable {tA tB' : TT} {rest : List Expr}
def tAnd (t u : TT) : TT := fun σ H Q => t σ H fun c H1 => if c = true then u σ H1 Q else Q false H1
def tOr (t u : TT) : TT := fun σ H Q => t σ H fun c H1 => if c = true then Q true H1 else u σ H1 Q
def tNot (t : TT) : TT := fun σ H Q => t σ H fun c H1 => Q (!c) H1
theorem pw_and1 (ha : PT X a tA) : PW X (.BoolOp .And [a] pos) tA := by
  intro wh pins s σ H Q I h
  refine isTrue_and (thn (ha pins s σ H Q I h) fun c s1 e => ?_)
  cases c with
  | true => exact isTrue_and_nil e
  | false => exact e
theorem pw_or1 (ha : PT X a tA) : PW X (.BoolOp .Or [a] pos) tA := by
  intro wh pins s σ H Q I h
  refine isTrue_or (thn (ha pins s σ H Q I h) fun c s1 e => ?_)
  cases c with
  | false => exact isTrue_or_nil e
  | true => exact e
theorem pw_and (ha : PT X a tA) (hb : PW X (.BoolOp .And (b :: rest) pos) tB') : PW X (.BoolOp .And (a :: b :: rest) pos) (tAnd tA tB') := by
  intro wh pins s σ H Q I h
  refine isTrue_and (thn (ha pins s σ H _ I h) fun c s1 ⟨H1, I1, q1⟩ => ?_)
  cases c with
  | true => exact hb wh pins s1 σ H1 Q I1 q1
  | false => exact ⟨H1, I1, q1⟩
theorem pw_or (ha : PT X a tA) (hb : PW X (.BoolOp .Or (b :: rest) pos) tB') : PW X (.BoolOp .Or (a :: b :: rest) pos) (tOr tA tB') := by
  intro wh pins s σ H Q I h
  refine isTrue_or (thn (ha pins s σ H _ I h) fun c s1 ⟨H1, I1, q1⟩ => ?_)
  cases c with
  | true => exact ⟨H1, I1, q1⟩
  | false => exact hb wh pins s1 σ H1 Q I1 q1
theorem pt_not (ha : PT X a tA) : PT X (.UnaryOp .Not a pos) (tNot tA) := by
  intro pins s σ H Q I h
  exact isTrue_not (ha pins s σ H (fun c H1 => Q (!c) H1) I h)
/-- .. as values (bools) -/
def tAndV (ta tb : TE) : TE := fun σ H Q => ta σ H fun x H1 => ∃ c, x = .bl c ∧ if c = true then tb σ H1 Q else Q (.bl false) H1
def tNotV (ta : TE) : TE := fun σ H Q => ta σ H fun x H1 => ∃ c, x = .bl c ∧ Q (.bl (!c)) H1
theorem pe_one {op} {t : TE} (h : PE X a t) : PE X (.BoolOp op [a] pos) t := fun pins s σ H Q I hw => BoolOp_one (h pins s σ H Q I hw)
theorem pe_and (ha : PE X a ta) (hb : PE X (.BoolOp .And (b :: rest) pos) tb) : PE X (.BoolOp .And (a :: b :: rest) pos) (tAndV ta tb) := by
  intro pins s σ H Q I h
  refine BoolOp_and (thn (ha pins s σ H _ I h) fun v s1 ⟨x, H1, I1, r1, q1⟩ => ?_)
  obtain ⟨c, rfl, q1⟩ := q1
  cases r1
  refine wpAny_truthy_bool ?_
  cases c with
  | true => exact hb pins s1 σ H1 Q I1 q1
  | false => exact ⟨.bl false, H1, I1, rfl, q1⟩
theorem pe_not (ha : PE X a ta) : PE X (.UnaryOp .Not a pos) (tNotV ta) := by
  intro pins s σ H Q I h
  refine UnaryOp_ (thn (ha pins s σ H _ I h) fun v s1 ⟨x, H1, I1, r1, q1⟩ => ?_)
  obtain ⟨c, rfl, q1⟩ := q1
  cases r1
  exact not_of (wpAny_truthy_bool ⟨.bl (!c), H1, I1, rfl, q1⟩)
/-- a if t else b -/
def tIf (t : TT) (ta tb : TE) : TE := fun σ H Q => t σ H fun c H1 => if c = true then ta σ H1 Q else tb σ H1 Q
theorem pe_ifExp {c : Expr} (hc : PT X c tA) (ha : PE X a ta) (hb : PE X b tb) : PE X (.IfExp c a b pos) (tIf tA ta tb) := by
  intro pins s σ H Q I h
  refine wpAny_IfExp (thn (hc pins s σ H _ I h) fun d s1 ⟨H1, I1, q1⟩ => ?_)
  cases d with
  | true => exact ha pins s1 σ H1 Q I1 q1
  | false => exact hb pins s1 σ H1 Q I1 q1
end
end L2

namespace L2
open PySem PySem.Spec PyProof.Rows

def SqL (K : PySem.W.Frag) (H : Hp) (a : Addr) (xs : List V) : Prop :=
  Rd H a (.lst xs) ∨
    ∃ (o : Obj) (its : Array Value) (n : Nat), K.lookup a = some o ∧ o.cls = .type "list" ∧ o.dict = none ∧ o.data = .seq its n ∧ its.size ≤ sizeLine ∧ Vals xs its.toList
def SqT (K : PySem.W.Frag) (H : Hp) (a : Addr) (xs : List V) : Prop :=
  Rd H a (.tup xs) ∨
    ∃ (o : Obj) (its : Array Value) (n : Nat), K.lookup a = some o ∧ o.cls = .type "tuple" ∧ o.data = .seq its n ∧ its.size ≤ sizeLine ∧ Vals xs its.toList
def absV : Value → Option V
  | .none => some .non
  | .bool b => some (.bl b)
  | .int i _ => some (.int i)
  | .str x _ => some (.str x)
  | .bytes b _ => some (.byt b)
  | .float b _ => some (.flt b)
  | .ref a => some (.ref a)
  | .type n => some (.ty n)
  | _ => none
theorem RelV.abs {x : V} {u : Value} (r : RelV x u) : absV u = some x := by
  cases x with
  | non => cases r; rfl
  | bl _ => cases r; rfl
  | int _ => obtain ⟨t, rfl⟩ := r; rfl
  | str _ => obtain ⟨t, rfl⟩ := r; rfl
  | byt _ => obtain ⟨t, rfl⟩ := r; rfl
  | flt _ => obtain ⟨t, rfl⟩ := r; rfl
  | ref _ => cases r; rfl
  | ty _ => cases r; rfl
theorem RelV.inj {x y : V} {u : Value} (r : RelV x u) (q : RelV y u) : x = y := Option.some.inj (r.abs.symm.trans q.abs)
theorem Vals.inj : ∀ {xs ys : List V} {us : List Value}, Vals xs us → Vals ys us → xs = ys
  | _, _, _, .nil, .nil => rfl
  | _, _, _, .cons r t, .cons r' t' => by rw [r.inj r', Vals.inj t t']
section
variable {X : Cx} {pins : List (Addr × Obj)} {σ : St} {H : Hp} {s : Shared} {a : Addr} {xs ys : List V}
theorem SqL.of {K : PySem.W.Frag} (h : H a = some (.lst xs)) : SqL K H a xs := .inl (.inl h)
theorem SqT.of {K : PySem.W.Frag} (h : H a = some (.tup xs)) : SqT K H a xs := .inl (.inl h)
theorem Inv.list (I : Inv X pins σ H s) (h : SqL X.K H a xs) : ∃ its : List Value, Vals xs its ∧ PlainL s.heap a its.toArray ∧ xs.length ≤ sizeLine := by
  rcases h with h | ⟨o, its, n, hk, hc, hd, hs, hz, r⟩
  · obtain ⟨z, its, n, r, e⟩ := h.ok I.hok
    exact ⟨its, r, ⟨_, n, e, rfl, rfl, rfl⟩, z⟩
  · refine ⟨its.toList, r, ⟨o, n, I.kIn a o hk, hc, hd, by simpa using hs⟩, ?_⟩
    have e := r.length
    simp only [Array.length_toList] at e
    omega
theorem Inv.tuple (I : Inv X pins σ H s) (h : SqT X.K H a xs) : ∃ its : List Value, Vals xs its ∧ IsTup s.heap a its.toArray ∧ xs.length ≤ sizeLine := by
  rcases h with h | ⟨o, its, n, hk, hc, hs, hz, r⟩
  · obtain ⟨z, its, r, p⟩ := h.ok I.hok
    exact ⟨its, r, p, z.1⟩
  · refine ⟨its.toList, r, ⟨o, I.kIn a o hk, hc, n, by simpa using hs⟩, ?_⟩
    have e := r.length
    simp only [Array.length_toList] at e
    omega
theorem Inv.list_inj (I : Inv X pins σ H s) (h : SqL X.K H a xs) (h' : SqL X.K H a ys) : xs = ys := by
  obtain ⟨its, r, ⟨o, n, e, _, _, d⟩, _⟩ := I.list h
  obtain ⟨its', r', ⟨o', n', e', _, _, d'⟩, _⟩ := I.list h'
  rw [e] at e'; cases e'
  rw [d] at d'
  injection d' with d1 _
  have : its = its' := by simpa using congrArg Array.toList d1
  subst this
  exact r.inj r'
theorem Inv.tuple_inj (I : Inv X pins σ H s) (h : SqT X.K H a xs) (h' : SqT X.K H a ys) : xs = ys := by
  obtain ⟨its, r, ⟨o, e, _, n, d⟩, _⟩ := I.tuple h
  obtain ⟨its', r', ⟨o', e', _, n', d'⟩, _⟩ := I.tuple h'
  rw [e] at e'; cases e'
  rw [d] at d'
  injection d' with d1 _
  have : its = its' := by simpa using congrArg Array.toList d1
  subst this
  exact r.inj r'
end

abbrev Cx.wish (X : Cx) (E : Value → Shared → Prop) : Cx := { X with xe := E }
/-- no exception leaves -/
abbrev Cx.nox (X : Cx) : Cx := X.wish fun _ _ => False
theorem Cx.Ok.wish {X : Cx} (ok : X.Ok) (E : Value → Shared → Prop) : (X.wish E).Ok :=
  ⟨ok.mod, ok.kind, ok.glob, ok.blt, ok.above, ok.inj, ok.has, ok.cab, ok.hd, ok.frames, ok.stk, ok.exf, ok.bs, ok.bsz, ok.noex, ok.exfs, ok.funs, ok.frf⟩
theorem Cx.Ok.unwish {X : Cx} {E : Value → Shared → Prop} (ok : (X.wish E).Ok) : X.Ok :=
  ⟨ok.mod, ok.kind, ok.glob, ok.blt, ok.above, ok.inj, ok.has, ok.cab, ok.hd, ok.frames, ok.stk, ok.exf, ok.bs, ok.bsz, ok.noex, ok.exfs, ok.funs, ok.frf⟩
section
variable {X : Cx} {pins : List (Addr × Obj)} {σ : St} {H : Hp} {s : Shared} {E : Value → Shared → Prop}
theorem Inv.wish (I : Inv X pins σ H s) (E : Value → Shared → Prop) : Inv (X.wish E) pins σ H s := ⟨I.ok.wish E, I.os, I.bare, I.base, I.loc, I.cell, I.free, I.freeC, I.pin, I.hok, I.len⟩
theorem Inv.unwish (I : Inv (X.wish E) pins σ H s) : Inv X pins σ H s := ⟨I.ok.unwish, I.os, I.bare, I.base, I.loc, I.cell, I.free, I.freeC, I.pin, I.hok, I.len⟩
theorem SP.unwish {D : Ends} {f : Flow} {s' : Shared} (h : SP (X.wish E) pins D f s') : SP X pins D f s' := by
  cases f with
  | next => obtain ⟨σ', H', I, q⟩ := h; exact ⟨σ', H', I.unwish, q⟩
  | brk => obtain ⟨σ', H', I, q⟩ := h; exact ⟨σ', H', I.unwish, q⟩
  | cont => obtain ⟨σ', H', I, q⟩ := h; exact ⟨σ', H', I.unwish, q⟩
  | ret u => obtain ⟨v, σ', H', I, r, q⟩ := h; exact ⟨v, σ', H', I.unwish, r, q⟩
theorem PSs.nox {st : List Stmt} {t : TS} (h : PSs X.nox st t) : PSs X st t := fun pins s σ H D I hw =>
  wpAny_mono (h pins s σ H D (I.wish _) hw) (fun _ _ q => q.unwish) fun _ _ z => False.elim z
end

section
variable {X : Cx} {st : Stmt} {rest : List Stmt} {t u : TS} {e : Expr} {te : TE} {pos : Pos}
def tNext : TS := fun D σ H => D.nx σ H
def tSeq (t u : TS) : TS := fun D σ H => t { D with nx := u D } σ H
theorem pss_nil : PSs X [] tNext := fun _ _ σ H _ I h => wpAny_execs_nil ⟨σ, H, I, h⟩
theorem pss_cons (h1 : PS X st t) (h2 : PSs X rest u) : PSs X (st :: rest) (tSeq t u) := by
  intro pins s σ H D I h
  refine wpAny_execs_cons (thn (h1 pins s σ H { D with nx := u D } I h) fun f s1 q => ?_)
  cases f with
  | next =>
    obtain ⟨σ', H', I', q⟩ := q
    exact h2 pins s1 σ' H' D I' q
  | ret v => exact q
  | brk => exact q
  | cont => exact q
theorem pss_one (h1 : PS X st t) : PSs X [st] t := by
  intro pins s σ H D I h
  refine wpAny_execs_cons (thn (h1 pins s σ H D I h) fun f s1 q => ?_)
  cases f with
  | next => exact wpAny_execs_nil q
  | ret v => exact q
  | brk => exact q
  | cont => exact q
/-- in a def's body nothing is shown -/
theorem Inv.quiet {pins : List (Addr × Obj)} {σ : St} {H : Hp} {s : Shared} (I : Inv X pins σ H s) : interactive X.env = false := by simp [interactive, I.ok.kind]
/-- an expression whose value is dropped -/
def tDrop (te : TE) : TS := fun D σ H => te σ H fun _ H1 => D.nx σ H1
theorem ps_expr (he : PE X e te) (hs : swapsWith e none pos.line X.env = pure false := by rfl) : PS X (.Expr e pos) (tDrop te) := by
  intro pins s σ H D I h
  exact wpAny_Expr_any (thn (he pins s σ H _ I h) fun v s1 ⟨x, H1, I1, r1, q1⟩ => ⟨σ, H1, I1, q1⟩) I.quiet hs
def tRet (te : TE) : TS := fun D σ H => te σ H D.rt
theorem ps_ret (he : PE X e te) : PS X (.Return (some e) pos) (tRet te) := by
  intro pins s σ H D I h
  exact wpAny_Return_some (thn (he pins s σ H _ I h) fun v s1 ⟨x, H1, I1, r1, q1⟩ => ⟨x, σ, H1, I1, r1, q1⟩)
def tIfS (c : TT) (t u : TS) : TS := fun D σ H => c σ H fun b H1 => if b = true then t D σ H1 else u D σ H1
theorem ps_if {c : Expr} {a b : List Stmt} {tc : TT} (hc : PT X c tc) (ha : PSs X a t) (hb : PSs X b u) : PS X (.If c a b pos) (tIfS tc t u) := by
  intro pins s σ H D I h
  refine wpAny_If (thn (hc pins s σ H _ I h) fun d s1 ⟨H1, I1, q1⟩ => ?_)
  cases d with
  | true => exact ha pins s1 σ H1 D I1 q1
  | false => exact hb pins s1 σ H1 D I1 q1
/-- code that the proof never comes to -/
def tNever : TS := fun _ _ _ => False
theorem pss_never {sts : List Stmt} : PSs X sts tNever := fun _ _ _ _ _ _ h => h.elim
end

abbrev TG := V → St → Hp → (St → Hp → Prop) → Prop
abbrev TGs := List V → St → Hp → (St → Hp → Prop) → Prop
def PG (X : Cx) (target : Expr) (t : TG) : Prop :=
  ∀ (pins : List (Addr × Obj)) (s : Shared) (σ : St) (H : Hp) (v : V) (u : Value) (Q : St → Hp → Prop), Inv X pins σ H s → RelV v u → t v σ H Q →
    wpAny (model X.prog X.w) X.A (assign target X.env u) (fun _ s' => ∃ σ' H', Inv X pins σ' H' s' ∧ Q σ' H') X.xe s
/-- several targets, one after another -/
def PGs (X : Cx) (ts : List Expr) (t : TGs) : Prop :=
  ∀ (pins : List (Addr × Obj)) (s : Shared) (σ : St) (H : Hp) (vs : List V) (us : List Value) (Q : St → Hp → Prop), Inv X pins σ H s → Vals vs us → t vs σ H Q →
    wpAny (model X.prog X.w) X.A (assignInOrder ((assignEach ts X.env).map (·.2)) us) (fun _ s' => ∃ σ' H', Inv X pins σ' H' s' ∧ Q σ' H') X.xe s
/-- o[i] = v, by values -/
abbrev TSet := V → V → V → Hp → (Hp → Prop) → Prop
def PSet (X : Cx) (t : TSet) : Prop :=
  ∀ (pins : List (Addr × Obj)) (s : Shared) (σ : St) (H : Hp) (o i v : V) (ov iv u : Value) (Q : Hp → Prop), Inv X pins σ H s → RelV o ov → RelV i iv → RelV v u → t o i v H Q →
    wpAny (model X.prog X.w) X.A (setItem ov iv u) (fun _ s' => ∃ H', Inv X pins σ H' s' ∧ Q H') X.xe s
/-- a op= b, by values -/
abbrev TIp := V → V → Hp → VK → Prop
def PIp (X : Cx) (op : Operator) (t : TIp) : Prop :=
  ∀ (pins : List (Addr × Obj)) (s : Shared) (σ : St) (H : Hp) (x y : V) (v u : Value) (Q : VK), Inv X pins σ H s → RelV x v → RelV y u → t x y H Q →
    wpAny (model X.prog X.w) X.A (inplaceOp op v u) (EP X pins σ Q) X.xe s
section
variable {X : Cx} {pos : Pos}
def gName (i : Nat) : TG := fun v σ H Q => Q (σ.set i (some v)) H
theorem pg_name {i : Nat} {x : Str} (hN : X.N.Nodup) (hi : X.N[i]? = some x) (hx : Loc X.env.scope x) (hf : X.fn x = true ∨ X.env.scope.names.lookup x = some .local := by first | exact .inl rfl | exact .inr rfl | assumption) : PG X (.Name x pos) (gName i) := by
  intro pins s σ H v u Q I r h
  exact wpAny_assign_Name (store_ok I hN hi hx r (fun s' I' => ⟨_, H, I', h⟩) hf)
def gNil : TGs := fun vs σ H Q => vs = [] ∧ Q σ H
def gCons (t : TG) (u : TGs) : TGs := fun vs σ H Q => ∃ v r, vs = v :: r ∧ t v σ H fun σ' H' => u r σ' H' Q
theorem pgs_nil : PGs X [] gNil := by
  intro pins s σ H vs us Q I r h
  obtain ⟨e, h⟩ := h
  subst e
  cases r
  exact assignInOrder_nil ⟨σ, H, I, h⟩
theorem pgs_cons {e : Expr} {es : List Expr} {t : TG} {u : TGs} (h1 : PG X e t) (h2 : PGs X es u)
    (hs : (assignEach (e :: es) X.env).map (·.2) = assign e X.env :: (assignEach es X.env).map (·.2) := by rfl) : PGs X (e :: es) (gCons t u) := by
  intro pins s σ H vs us Q I r h
  obtain ⟨v, vr, e1, h⟩ := h
  subst e1
  cases r with
  | cons r rr =>
    rw [hs]
    refine assignInOrder_cons (thn (h1 pins s σ H _ _ _ I r h) fun _ s1 ⟨σ1, H1, I1, q1⟩ => ?_)
    exact h2 pins s1 σ1 H1 _ _ Q I1 rr q1
/-- (a, b, ..) = a tuple of that length -/
def gTup (K : PySem.W.Frag) (n : Nat) (t : TGs) : TG := fun v σ H Q => ∃ a xs, v = .ref a ∧ SqT K H a xs ∧ xs.length = n ∧ t xs σ H Q
theorem pg_tup {es : List Expr} {k : Nat} {t : TGs} {n : Nat} (hc : X.calm = true) (h : PGs X es t)
    (hn : (assignEach es X.env).length = n := by rfl) (hst : (assignEach es X.env).findIdx? (·.1) = none := by rfl) : PG X (.Tuple es k pos) (gTup X.K n t) := by
  intro pins s σ H v u Q I r hw
  obtain ⟨a, xs, e1, hq, hl, hw⟩ := hw
  subst e1
  cases r
  obtain ⟨its, rv, ht, hz⟩ := I.tuple hq
  refine assign_Tuple_tuple (I.ok.hd hc) ht (by simp [hn, ← hl, rv.length]) hst fun h' hx => ?_
  have I1 : Inv X pins σ H { s with heap := h' } := I.kept (t' := s.toks) fun b o e => hx b o (Nat.ne_of_lt (Heap.lt_size e)) e
  exact h pins _ σ H xs _ Q I1 (by simpa using rv) hw
/-- target = value -/
def tAsg (te : TE) (g : TG) : TS := fun D σ H => te σ H fun x H1 => g x σ H1 D.nx
theorem ps_asg {tg e : Expr} {te : TE} {g : TG} (he : PE X e te) (hg : PG X tg g) (hs : swapsWithSole [tg] e pos.line X.env = pure false := by rfl) (hw : swappedStores [tg] e X.env = pure none := by rfl)
    (h1 : (assignEach [tg] X.env).map (·.2) = [assign tg X.env] := by rfl) : PS X (.Assign [tg] e pos) (tAsg te g) := by
  intro pins s σ H D I h
  refine wpAny_Assign_stores (thn (he pins s σ H _ I h) fun v s1 ⟨x, H1, I1, r1, q1⟩ => ?_) hs hw
  rw [h1]
  exact thn (hg pins s1 σ H1 x v _ I1 r1 q1) fun _ s2 q => q
/-- name = value -/
theorem ps_set {i : Nat} {x : Str} {e : Expr} {te : TE} {pos' : Pos} (hN : X.N.Nodup) (hi : X.N[i]? = some x) (hx : Loc X.env.scope x) (he : PE X e te) (hs : swapsWith e (some (.Name x pos')) pos.line X.env = pure false := by rfl) (hf : X.fn x = true ∨ X.env.scope.names.lookup x = some .local := by first | exact .inl rfl | exact .inr rfl | assumption) :
    PS X (.Assign [.Name x pos'] e pos) (tAsg te (gName i)) := by
  intro pins s σ H D I h
  refine wpAny_Assign_Name (thn (he pins s σ H _ I h) fun v s1 ⟨y, H1, I1, r1, q1⟩ => ?_) hs
  exact store_ok I1 hN hi hx r1 (fun s2 I2 => ⟨_, H1, I2, q1⟩) hf
/-- o[i] op= e -/
def tAugS (to ti te : TE) (tget : V → V → Hp → VK → Prop) (tip : TIp) (tset : TSet) : TS := fun D σ H => to σ H fun o H1 => ti σ H1 fun i H2 => tget o i H2 fun x H3 => te σ H3 fun y H4 => tip x y H4 fun z H5 => tset o i z H5 fun H6 => D.nx σ H6
/-- o[i], by values -/
def PGet (X : Cx) (t : V → V → Hp → VK → Prop) : Prop :=
  ∀ (pins : List (Addr × Obj)) (s : Shared) (σ : St) (H : Hp) (o i : V) (ov iv : Value) (Q : VK), Inv X pins σ H s → RelV o ov → RelV i iv → t o i H Q →
    wpAny (model X.prog X.w) X.A (getItem ov iv) (EP X pins σ Q) X.xe s
theorem ps_augS {o i e : Expr} {to ti te : TE} {tget : V → V → Hp → VK → Prop} {tip : TIp} {tset : TSet} {op : Operator} {tpos : Pos} (ho : PE X o to) (hi : PE X i ti) (hg : PGet X tget) (he : PE X e te) (hp : PIp X op tip) (hs : PSet X tset)
    (ha : ∀ ov iv new, augStore i ov iv new = (do holding [new, ov, iv] (setItem ov iv new); release [new, ov, iv] []; pure .next) := by intros; rfl) : PS X (.AugAssign (.Subscript o i tpos) op e pos) (tAugS to ti te tget tip tset) := by
  intro pins s σ H D I h
  refine wpAny_AugAssign_SubscriptAny (thn (ho pins s σ H _ I h) fun ov s1 ⟨x1, H1, I1, r1, q1⟩ => ?_) ha
  refine thn (hi pins s1 σ H1 _ I1 q1) fun iv s2 ⟨x2, H2, I2, r2, q2⟩ => ?_
  refine thn (hg pins s2 σ H2 x1 x2 ov iv _ I2 r1 r2 q2) fun old s3 ⟨x3, H3, I3, r3, q3⟩ => ?_
  refine thn (he pins s3 σ H3 _ I3 q3) fun v s4 ⟨x4, H4, I4, r4, q4⟩ => ?_
  refine thn (hp pins s4 σ H4 x3 x4 old v _ I4 r3 r4 q4) fun new s5 ⟨x5, H5, I5, r5, q5⟩ => ?_
  exact thn (hs pins s5 σ H5 x1 x2 x5 ov iv new _ I5 r1 r2 r5 q5) fun _ s6 ⟨H6, I6, q6⟩ => ⟨σ, H6, I6, q6⟩
/-- ints -/
def ipI (f : Int → Int → Int) : TIp := fun x y H Q => ∃ i j, x = .int i ∧ y = .int j ∧ Q (.int (f i j)) H
theorem ip_add : PIp X .Add (ipI fun i j => i + j) := by
  intro pins s σ H x y v u Q I r1 r2 h
  obtain ⟨i, j, e1, e2, q⟩ := h
  subst e1; subst e2
  obtain ⟨t, rfl⟩ := r1
  obtain ⟨t', rfl⟩ := r2
  exact iadd_int ⟨.int _, H, I.tok _, ⟨_, rfl⟩, q⟩
end

section
variable {X : Cx} {pos : Pos}
/-- the invariant W with its measure -/
def tWhile (c : TT) (tb : TS) : TS := fun D σ H => ∃ W : Nat → St → Hp → Prop, (∃ m, W m σ H) ∧ ∀ m σ H, W m σ H →
  c σ H fun b H1 => if b = true then ∃ N : St → Hp → Prop, (∀ σ' H', N σ' H' → ∃ m', m' < m ∧ W m' σ' H') ∧ tb { D with nx := N, ct := N, bk := D.nx } σ H1 else D.nx σ H1
theorem ps_while {c : Expr} {body : List Stmt} {tc : TT} {tb : TS} (hp : PassesOwn (model X.prog X.w) X.A X.env X.xe) (hc : PT X c tc) (hb : PSs X body tb) : PS X (.While c body [] pos) (tWhile tc tb) := by
  intro pins s σ H D I h
  obtain ⟨W, ⟨m0, w0⟩, turn⟩ := h
  refine wpAny_While (codeAny_whileLoop (fun n s' => ∃ σ' H', Inv X pins σ' H' s' ∧ W n σ' H') ?_ m0 ⟨σ, H, I, w0⟩)
  rintro n s1 ⟨σ1, H1, I1, w1⟩
  refine wpAny_passesOwn hp (thn (hc pins s1 σ1 H1 _ I1 (turn n σ1 H1 w1)) fun b s2 ⟨H2, I2, q2⟩ => ?_)
  cases b with
  | true =>
    obtain ⟨N, hN, q2⟩ := q2
    rw [if_pos rfl]
    refine wpAny_passesOwn hp (thn (hb pins s2 σ1 H2 _ I2 q2) fun f s3 q3 => ?_)
    cases f with
    | next =>
      obtain ⟨σ3, H3, I3, n3⟩ := q3
      obtain ⟨m', hm, w3⟩ := hN σ3 H3 n3
      exact ⟨m', hm, σ3, H3, I3, w3⟩
    | cont =>
      obtain ⟨σ3, H3, I3, n3⟩ := q3
      obtain ⟨m', hm, w3⟩ := hN σ3 H3 n3
      exact ⟨m', hm, σ3, H3, I3, w3⟩
    | brk => exact q3
    | ret v => exact q3
  | false =>
    rw [if_neg Bool.false_ne_true]
    exact wpAny_execs_nil ⟨σ1, H2, I2, q2⟩
end

/-- at turn i: it yields x (the heap may grow), or it stops -/
structure It where
  go : Nat → Hp → Prop
  yld : Nat → Hp → V → Hp → Prop
  stop : Nat → Hp → Prop
/-- the iterator's own objects may turn: they are not the frame's, not pinned, younger than the entry (or a comprehension's own) -/
def FpOk (X : Cx) (pins : List (Addr × Obj)) (H : Hp) (b : Addr) : Prop :=
  H b = none ∧ b ≠ X.env.locals ∧ b ∉ X.fs ∧ (b ∈ X.ex ∨ X.s₀.heap.objs.size ≤ b) ∧ (∀ x c, X.env.cells.lookup x = some c → c ≠ b) ∧ ∀ p ∈ X.pn ++ pins, p.1 ≠ b
theorem Inv.fpOk {X : Cx} {pins : List (Addr × Obj)} {σ : St} {H H' : Hp} {s : Shared} {b : Addr} (I : Inv X pins σ H s) (hb : s.heap.objs.size ≤ b) (hn : H' b = none) : FpOk X pins H' b := by
  refine ⟨hn, Nat.ne_of_gt (Nat.lt_of_lt_of_le I.lt hb), I.nofs hb, .inr (Nat.le_trans I.sz hb), fun x c e z => ?_, fun p hp z => ?_⟩
  · obtain ⟨v, q⟩ := I.cell x c e
    exact absurd (Nat.lt_of_lt_of_le q.lt (by rw [z]; exact hb)) (Nat.lt_irrefl _)
  · exact absurd (Nat.lt_of_lt_of_le (Heap.lt_size (I.pin p hp).1) (by rw [z]; exact hb)) (Nat.lt_irrefl _)
structure Turn (P : Program) (w : World) (K : PySem.W.Frag) (tg : Expr) (J : It) (fp : List Addr) (it : Addr) (tn : Nat → Heap → Prop) : Prop where
  mem : it ∈ fp
  obj : ∀ i h, tn i h → ∀ b ∈ fp, ∃ o, h.get? b = some o ∧ ∀ v, o.data ≠ .cell v
  keep : ∀ i h h', tn i h → (∀ b ∈ fp, ∀ o, h.get? b = some o → h'.get? b = some o) → tn i h'
  item : ∀ (X : Cx), X.prog = P → X.w = w → X.K = K → X.calm = true → ∀ (i : Nat) (pins : List (Addr × Obj)) (s : Shared) (σ : St) (H : Hp) (E : Value → Shared → Prop), Inv X pins σ H s → (∀ b ∈ fp, FpOk X pins H b) → tn i s.heap → J.go i H →
    wpAny (model P w) X.A (pyNext (.ref it)) (fun r s1 => ∃ u, r = some u ∧
      wpAny (model P w) X.A (letOwnedTupleGo tg (.ref it) u) (fun _ s2 => ∃ x H', Inv X pins σ H' s2 ∧ RelV x u ∧ J.yld i H x H' ∧ tn (i + 1) s2.heap ∧ ∀ b ∈ fp, H' b = none) E s1) E s
  done : ∀ (X : Cx), X.prog = P → X.w = w → X.K = K → X.calm = true → ∀ (i : Nat) (pins : List (Addr × Obj)) (s : Shared) (σ : St) (H : Hp) (E : Value → Shared → Prop), Inv X pins σ H s → (∀ b ∈ fp, FpOk X pins H b) → tn i s.heap → J.stop i H →
    wpAny (model P w) X.A (pyNext (.ref it)) (fun r s1 => r = none ∧ Inv X pins σ H s1) E s
  self : ∀ (A : Around) (i : Nat) (s : Shared) (Q : Value → Shared → Prop) (E : Value → Shared → Prop), tn i s.heap → Q (.ref it) s → wpAny (model P w) A (pyIter (.ref it)) Q E s
abbrev TI := St → Hp → (It → Hp → Prop) → Prop
/-- an iterator has come -/
def PIE (X : Cx) (pins : List (Addr × Obj)) (σ : St) (tg : Expr) (R : It → Hp → Prop) (itv : Value) (s2 : Shared) : Prop :=
  ∃ (it : Addr) (fp : List Addr) (tn : Nat → Heap → Prop) (J : It) (H' : Hp), itv = .ref it ∧ Inv X pins σ H' s2 ∧ Turn X.prog X.w X.K tg J fp it tn ∧ tn 0 s2.heap ∧ (∀ b ∈ fp, FpOk X pins H' b) ∧ R J H'
def PI (X : Cx) (tg iter : Expr) (wi : TI) : Prop :=
  ∀ (pins : List (Addr × Obj)) (s : Shared) (σ : St) (H : Hp) (R : It → Hp → Prop), Inv X pins σ H s → wi σ H R →
    wpAny (model X.prog X.w) X.A (eval iter X.env) (fun v s1 => wpAny (model X.prog X.w) X.A (pyIter v) (PIE X pins σ tg R) X.xe s1) X.xe s

/-- the step ahead of the store is nothing for an iterator that keeps no tuple -/
theorem go_of {M : Model} {A : Around} {E : Value → Shared → Prop} {s : Shared} {tg : Expr} {it : Addr} {u : Value} {o : Obj} {n : String} {vs : Array Value} {Q : Unit → Shared → Prop} (ho : s.heap.get? it = some o) (hc : o.cls = .type n) (hd : o.data = .fields vs)
    (hn : ["enumerate", "zip", "dict_itemiterator", "dict_reverseitemiterator", "odict_iterator", "itertools.zip_longest", "itertools.pairwise"].contains n = false) (hQ : Q () s) : wpAny M A (letOwnedTupleGo tg (.ref it) u) Q E s := by
  unfold letOwnedTupleGo
  cases tg <;> first
    | exact wpAny_pure hQ
    | (cases u <;> first
        | exact wpAny_pure hQ
        | (refine wpAny_bind (wpAny_load ho ?_)
           rw [hc, hd]
           show wpAny M A (if (["enumerate", "zip", "dict_itemiterator", "dict_reverseitemiterator", "odict_iterator", "itertools.zip_longest", "itertools.pairwise"].contains n && vs[0]? == some (rawInt _)) = true then _ else _) Q E s
           rw [if_neg (by intro h; rw [hn, Bool.false_and] at h; cases h)]
           exact wpAny_pure hQ))

/-- the list at a, as it stands at each turn (a loop may append to it) -/
def Itl (K : PySem.W.Frag) (a : Addr) : It :=
  ⟨fun i H => ∃ xs x, SqL K H a xs ∧ xs[i]? = some x, fun i H x H' => H' = H ∧ ∀ xs, SqL K H a xs → xs[i]? = some x, fun i H => ∃ xs, SqL K H a xs ∧ xs.length ≤ i⟩
def Itt (K : PySem.W.Frag) (a : Addr) : It :=
  ⟨fun i H => ∃ xs x, SqT K H a xs ∧ xs[i]? = some x, fun i H x H' => H' = H ∧ ∀ xs, SqT K H a xs → xs[i]? = some x, fun i H => ∃ xs, SqT K H a xs ∧ xs.length ≤ i⟩
theorem turn_list {P : Program} {w : World} {K : PySem.W.Frag} {tg : Expr} (a it : Addr) : Turn P w K tg (Itl K a) [it] it (fun i h => h.IsListIter it a i) where
  mem := by simp
  obj := fun i h st b hb => by
    have e : b = it := by simpa using hb
    subst e
    obtain ⟨o, e, c, d⟩ := st
    exact ⟨o, e, fun v z => by rw [d] at z; cases z⟩
  keep := fun i h h' st k => st.at fun o e => k it (by simp) o e
  item := by
    intro X hP hw hK hc i pins s σ H E I hf st hg
    subst hP hw hK
    obtain ⟨xs, x, hq, hx⟩ := hg
    obtain ⟨its, rv, p, hz⟩ := I.list hq
    obtain ⟨u, hu, ru⟩ := rv.get hx
    obtain ⟨f0, f1, f2, f3, f4, f5⟩ := hf it (by simp)
    refine wpAny_pyNext_list_item st p.isList (x := u) (by simpa using hu) fun h' st' sb => ?_
    have I1 : Inv X pins σ H { s with heap := h' } := I.turned (t' := s.toks) (fun b o hb e => (sb.2 b hb).trans e) f0 f1 f3 f4 f5
    obtain ⟨o, e, c, d⟩ := id st'
    exact ⟨u, rfl, go_of (s := { s with heap := h' }) e c d (by decide) ⟨x, H, I1, ru, ⟨rfl, fun ys hy => by rw [I.list_inj hy hq]; exact hx⟩, st', fun b hb => (hf b hb).1⟩⟩
  done := by
    intro X hP hw hK hc i pins s σ H E I hf st hg
    subst hP hw hK
    obtain ⟨xs, hq, hx⟩ := hg
    obtain ⟨its, rv, p, hz⟩ := I.list hq
    obtain ⟨f0, f1, f2, f3, f4, f5⟩ := hf it (by simp)
    have hl := rv.length
    exact wpAny_pyNext_list_end (I.ok.hd hc) st p.isList (by simp; omega) fun h' eb => ⟨rfl, I.turned (t' := s.toks) (fun b o hb e => eb b o hb e) f0 f1 f3 f4 f5⟩
  self := fun _ _ _ _ _ st h => wpAny_pyIter_listiter st h
theorem turn_tuple {P : Program} {w : World} {K : PySem.W.Frag} {tg : Expr} (a it : Addr) : Turn P w K tg (Itt K a) [it] it (fun i h => h.IsTupleIter it a i) where
  mem := by simp
  obj := fun i h st b hb => by
    have e : b = it := by simpa using hb
    subst e
    obtain ⟨o, e, c, d⟩ := st
    exact ⟨o, e, fun v z => by rw [d] at z; cases z⟩
  keep := fun i h h' st k => st.at fun o e => k it (by simp) o e
  item := by
    intro X hP hw hK hc i pins s σ H E I hf st hg
    subst hP hw hK
    obtain ⟨xs, x, hq, hx⟩ := hg
    obtain ⟨its, rv, p, hz⟩ := I.tuple hq
    obtain ⟨u, hu, ru⟩ := rv.get hx
    obtain ⟨f0, f1, f2, f3, f4, f5⟩ := hf it (by simp)
    refine wpAny_pyNext_tuple_item st (show s.heap.IsTuple a its.toArray from p) (x := u) (by simpa using hu) fun h' st' sb => ?_
    have I1 : Inv X pins σ H { s with heap := h' } := I.turned (t' := s.toks) (fun b o hb e => (sb.2 b hb).trans e) f0 f1 f3 f4 f5
    obtain ⟨o, e, c, d⟩ := id st'
    exact ⟨u, rfl, go_of (s := { s with heap := h' }) e c d (by decide) ⟨x, H, I1, ru, ⟨rfl, fun ys hy => by rw [I.tuple_inj hy hq]; exact hx⟩, st', fun b hb => (hf b hb).1⟩⟩
  done := by
    intro X hP hw hK hc i pins s σ H E I hf st hg
    subst hP hw hK
    obtain ⟨xs, hq, hx⟩ := hg
    obtain ⟨its, rv, p, hz⟩ := I.tuple hq
    obtain ⟨f0, f1, f2, f3, f4, f5⟩ := hf it (by simp)
    have hl := rv.length
    exact wpAny_pyNext_tuple_end (I.ok.hd hc) st (show s.heap.IsTuple a its.toArray from p) (by simp; omega) fun h' eb => ⟨rfl, I.turned (t' := s.toks) (fun b o hb e => eb b o hb e) f0 f1 f3 f4 f5⟩
  self := fun _ _ _ _ _ st h => wpAny_pyIter_tupleiter st h
end L2

namespace L2
open PySem PySem.Spec PyProof.Rows
section
variable {X : Cx} {tg : Expr}
def iList (K : PySem.W.Frag) (tl : TE) : TI := fun σ H R => tl σ H fun x H1 => ∃ a, x = .ref a ∧ (∃ xs, SqL K H1 a xs) ∧ R (Itl K a) H1
def iTup (K : PySem.W.Frag) (tl : TE) : TI := fun σ H R => tl σ H fun x H1 => ∃ a, x = .ref a ∧ (∃ xs, SqT K H1 a xs) ∧ R (Itt K a) H1
theorem pi_list {l : Expr} {tl : TE} (hl : PE X l tl) : PI X tg l (iList X.K tl) := by
  intro pins s σ H R I h
  refine thn (hl pins s σ H _ I h) fun v s1 ⟨x, H1, I1, r1, q1⟩ => ?_
  obtain ⟨a, e, ⟨xs, hq⟩, q⟩ := q1
  subst e
  cases r1
  obtain ⟨its, rv, p, hz⟩ := I1.list hq
  refine wpAny_pyIter_list p.isList ?_
  refine ⟨s1.heap.objs.size, [s1.heap.objs.size], _, _, H1, rfl, I1.kept (t' := s1.toks) fun b o e => Heap.get?_push_of_some _ e, turn_list a _, ⟨_, Heap.get?_push_size _ rfl, rfl, rfl⟩, fun b hb => ?_, q⟩
  have e : b = s1.heap.objs.size := by simpa using hb
  subst e
  exact I1.fpOk (Nat.le_refl _) (I1.hok.fresh (Nat.le_refl _))
theorem pi_tup {l : Expr} {tl : TE} (hl : PE X l tl) : PI X tg l (iTup X.K tl) := by
  intro pins s σ H R I h
  refine thn (hl pins s σ H _ I h) fun v s1 ⟨x, H1, I1, r1, q1⟩ => ?_
  obtain ⟨a, e, ⟨xs, hq⟩, q⟩ := q1
  subst e
  cases r1
  obtain ⟨its, rv, p, hz⟩ := I1.tuple hq
  refine wpAny_pyIter_tuple (show s1.heap.IsTuple a its.toArray from p) ?_
  refine ⟨s1.heap.objs.size, [s1.heap.objs.size], _, _, H1, rfl, I1.kept (t' := s1.toks) fun b o e => Heap.get?_push_of_some _ e, turn_tuple a _, ⟨_, Heap.get?_push_size _ rfl, rfl, rfl⟩, fun b hb => ?_, q⟩
  have e : b = s1.heap.objs.size := by simpa using hb
  subst e
  exact I1.fpOk (Nat.le_refl _) (I1.hok.fresh (Nat.le_refl _))
/-- W: the invariant by the turn and a measure; N: what the body is to reach -/
def tFor (wi : TI) (g : TG) (tb : TS) : TS := fun D σ H => wi σ H fun J H1 => ∃ W : Nat → Nat → St → Hp → Prop, (∃ m, W 0 m σ H1) ∧ ∀ i m σ H, W i m σ H →
  (J.stop i H ∧ D.nx σ H) ∨ (J.go i H ∧ ∃ N : St → Hp → Prop, (∀ σ' H', N σ' H' → ∃ m', m' < m ∧ W (i + 1) m' σ' H') ∧ ∀ x H', J.yld i H x H' → g x σ H' fun σ2 H2 => tb { D with nx := N, ct := N, bk := D.nx } σ2 H2)
/-- the records at fp as they stand -/
def pinsAt (fp : List Addr) (h : Heap) : List (Addr × Obj) := fp.filterMap fun b => (h.get? b).map fun o => (b, o)
theorem mem_pinsAt {fp : List Addr} {h : Heap} {b : Addr} {o : Obj} (hb : b ∈ fp) (e : h.get? b = some o) : (b, o) ∈ pinsAt fp h := List.mem_filterMap.mpr ⟨b, hb, by rw [e]; rfl⟩
theorem of_pinsAt {fp : List Addr} {h : Heap} {p : Addr × Obj} (hp : p ∈ pinsAt fp h) : p.1 ∈ fp ∧ h.get? p.1 = some p.2 := by
  obtain ⟨b, hb, e⟩ := List.mem_filterMap.mp hp
  cases q : h.get? b with
  | none => rw [q] at e; cases e
  | some o =>
    rw [q] at e
    have e' : (b, o) = p := Option.some.inj e
    subst e'
    exact ⟨hb, q⟩
theorem Inv.pinned {pins : List (Addr × Obj)} {σ : St} {H : Hp} {s : Shared} {fp : List Addr} (I : Inv X pins σ H s) (hf : ∀ b ∈ fp, FpOk X pins H b) (ho : ∀ b ∈ fp, ∃ o, s.heap.get? b = some o ∧ ∀ v, o.data ≠ .cell v) : Inv X (pins ++ pinsAt fp s.heap) σ H s :=
  I.pins_of fun p hp => (List.mem_append.mp hp).elim (fun z => I.pin p (List.mem_append_right _ z)) fun z => by
    obtain ⟨hb, e⟩ := of_pinsAt z
    obtain ⟨f0, f1, f2, _⟩ := hf p.1 hb
    obtain ⟨o, e', d⟩ := ho p.1 hb
    rw [e] at e'; cases e'
    exact ⟨e, f0, f1, f2, d⟩
theorem Inv.unpinned {pins pl : List (Addr × Obj)} {σ : St} {H : Hp} {s : Shared} (I : Inv X (pins ++ pl) σ H s) : Inv X pins σ H s := I.pins_of fun p hp => I.pin p (List.mem_append_right _ (List.mem_append_left _ hp))
theorem ps_for {iter : Expr} {body : List Stmt} {wi : TI} {g : TG} {tb : TS} {pos : Pos} (hp : PassesOwn (model X.prog X.w) X.A X.env X.xe) (hc : X.calm = true) (hi : PI X tg iter wi) (hg : PG X tg g) (hb : PSs X body tb)
    (hs : ∀ x, foldedSetIterable iter X.env x = pure x := by intro _; rfl) : PS X (.For tg iter body [] pos) (tFor wi g tb) := by
  intro pins s σ H D I h
  refine wpAny_For (thn (hi pins s σ H _ I h) fun v s1 h1 => thn h1 fun itv s2 h2 => ?_) hs
  obtain ⟨it, fp, tn, J, H2, e, I2, T, st2, f2, W, ⟨m0, w0⟩, turn⟩ := h2
  subst e
  -- what stays true of the iterator's objects through the loop
  have stat : ∀ {H' : Hp}, (∀ b ∈ fp, H' b = none) → ∀ b ∈ fp, FpOk X pins H' b := fun hn b hb => ⟨hn b hb, (f2 b hb).2⟩
  refine codeAny_forLoop_any (fun n s' => ∃ i σ' H', Inv X pins σ' H' s' ∧ tn i s'.heap ∧ (∀ b ∈ fp, H' b = none) ∧ W i n σ' H') ?_ m0 ⟨0, σ, H2, I2, st2, fun b hb => (f2 b hb).1, w0⟩
  rintro n s3 ⟨i, σ3, H3, I3, st3, fr3, w3⟩
  rcases turn i n σ3 H3 w3 with ⟨stop, qn⟩ | ⟨go, N, hN, step⟩
  · refine wpAny_passesOwn hp (thn (T.done X rfl rfl rfl hc i pins s3 σ3 H3 X.xe I3 (stat fr3) st3 stop) fun r s4 ⟨hr, I4⟩ => ?_)
    subst hr
    exact wpAny_execs_nil ⟨σ3, H3, I4, qn⟩
  · refine wpAny_passesOwn hp (thn (T.item X rfl rfl rfl hc i pins s3 σ3 H3 X.xe I3 (stat fr3) st3 go) fun r s4 ⟨u, hr, h4⟩ => ?_)
    subst hr
    refine wpAny_passesOwn hp (thn h4 fun _ s5 ⟨x, H5, I5, r5, y5, st5, fr5⟩ => ?_)
    have I5' := I5.pinned (stat fr5) (T.obj _ _ st5)
    refine wpAny_passesOwn hp (thn (hg _ s5 σ3 H5 x u _ I5' r5 (step x H5 y5)) fun _ s6 ⟨σ6, H6, I6, q6⟩ => ?_)
    refine wpAny_passesOwn hp (thn (hb _ s6 σ6 H6 _ I6 q6) fun f s7 q7 => ?_)
    have again : ∀ {σ7 : St} {H7 : Hp}, Inv X (pins ++ pinsAt fp s5.heap) σ7 H7 s7 → N σ7 H7 → ∃ m, m < n ∧ ∃ i σ' H', Inv X pins σ' H' s7 ∧ tn i s7.heap ∧ (∀ b ∈ fp, H' b = none) ∧ W i m σ' H' := fun {σ7 H7} I7 n7 => by
      obtain ⟨m', hm, w7⟩ := hN σ7 H7 n7
      refine ⟨m', hm, i + 1, σ7, H7, I7.unpinned, T.keep _ _ _ st5 fun b hb o e => (I7.pin (b, o) (List.mem_append_right _ (List.mem_append_right _ (mem_pinsAt hb e)))).1, fun b hb => ?_, w7⟩
      obtain ⟨o, e, d⟩ := T.obj _ _ st5 b hb
      exact (I7.pin (b, o) (List.mem_append_right _ (List.mem_append_right _ (mem_pinsAt hb e)))).2.1
    cases f with
    | next => obtain ⟨σ7, H7, I7, n7⟩ := q7; exact again I7 n7
    | cont => obtain ⟨σ7, H7, I7, n7⟩ := q7; exact again I7 n7
    | brk => obtain ⟨σ7, H7, I7, q7⟩ := q7; exact ⟨σ7, H7, I7.unpinned, q7⟩
    | ret v => obtain ⟨x7, σ7, H7, I7, r7, q7⟩ := q7; exact ⟨x7, σ7, H7, I7.unpinned, r7, q7⟩
end

/-- over a list that the body leaves as it is -/
theorem for_list {K : PySem.W.Frag} {a : Addr} {xs : List V} {g : TG} {tb : TS} {D : Ends} {σ : St} {H : Hp} (Pv : Nat → St → Hp → Prop) (h0 : Pv 0 σ H) (hl : ∀ i σ H, i ≤ xs.length → Pv i σ H → SqL K H a xs)
    (hs : ∀ i x σ H, xs[i]? = some x → Pv i σ H → g x σ H fun σ2 H2 => tb { D with nx := Pv (i + 1), ct := Pv (i + 1), bk := D.nx } σ2 H2) (hd : ∀ σ H, Pv xs.length σ H → D.nx σ H) :
    ∃ W : Nat → Nat → St → Hp → Prop, (∃ m, W 0 m σ H) ∧ ∀ i m σ H, W i m σ H →
      ((Itl K a).stop i H ∧ D.nx σ H) ∨ ((Itl K a).go i H ∧ ∃ N : St → Hp → Prop, (∀ σ' H', N σ' H' → ∃ m', m' < m ∧ W (i + 1) m' σ' H') ∧ ∀ x H', (Itl K a).yld i H x H' → g x σ H' fun σ2 H2 => tb { D with nx := N, ct := N, bk := D.nx } σ2 H2) := by
  refine ⟨fun i m σ H => m = xs.length - i ∧ i ≤ xs.length ∧ Pv i σ H, ⟨xs.length, by simp, Nat.zero_le _, h0⟩, ?_⟩
  rintro i m σ H ⟨rfl, hi, p⟩
  have q := hl i σ H hi p
  by_cases hlt : i < xs.length
  · refine .inr ⟨⟨xs, xs[i], q, by simp [hlt]⟩, Pv (i + 1), fun σ' H' p' => ⟨xs.length - (i + 1), by omega, rfl, hlt, p'⟩, fun x H' y => ?_⟩
    obtain ⟨e, y⟩ := y
    subst e
    exact hs i x σ _ (y xs q) p
  · have e : i = xs.length := by omega
    subst e
    exact .inl ⟨⟨xs, q, Nat.le_refl _⟩, hd σ H p⟩
end L2

namespace L2
open PySem PySem.Spec PyProof.Rows

abbrev R2 := V → V → Hp → VK → Prop
/-- a two-place operation on values: f is binaryOp op, inplaceOp op or compareOp op -/
def OpR (X : Cx) (f : Value → Value → Sem Value) (r : R2) : Prop :=
  ∀ (pins : List (Addr × Obj)) (s : Shared) (σ : St) (H : Hp) (x y : V) (v u : Value) (Q : VK), Inv X pins σ H s → RelV x v → RelV y u → r x y H Q →
    wpAny (model X.prog X.w) X.A (f v u) (EP X pins σ Q) X.xe s
/-- a one-place operation -/
def UnR (X : Cx) (f : Value → Sem Value) (r : V → Hp → VK → Prop) : Prop :=
  ∀ (pins : List (Addr × Obj)) (s : Shared) (σ : St) (H : Hp) (x : V) (v : Value) (Q : VK), Inv X pins σ H s → RelV x v → r x H Q →
    wpAny (model X.prog X.w) X.A (f v) (EP X pins σ Q) X.xe s
/-- a call of a value that is known (a builtin, a type) with values -/
def CallR (X : Cx) (f : Value) (r : List V → Hp → VK → Prop) : Prop :=
  ∀ (pins : List (Addr × Obj)) (s : Shared) (σ : St) (H : Hp) (xs : List V) (us : List Value) (Q : VK), Inv X pins σ H s → Vals xs us → r xs H Q →
    wpAny (model X.prog X.w) X.A (call f us) (EP X pins σ Q) X.xe s
def tOp (r : R2) (ta tb : TE) : TE := fun σ H Q => ta σ H fun x H1 => tb σ H1 fun y H2 => r x y H2 Q
def tUn (r : V → Hp → VK → Prop) (ta : TE) : TE := fun σ H Q => ta σ H fun x H1 => r x H1 Q
/-- ints in, under C, and a value out -/
def rI (C : Int → Int → Prop) (g : Int → Int → V) : R2 := fun x y H Q => ∃ i j, x = .int i ∧ y = .int j ∧ C i j ∧ Q (g i j) H
def rI0 (g : Int → Int → V) : R2 := fun x y H Q => ∃ i j, x = .int i ∧ y = .int j ∧ Q (g i j) H
def rU (g : Int → V) : V → Hp → VK → Prop := fun x H Q => ∃ i, x = .int i ∧ Q (g i) H

section
variable {X : Cx} {a b c : Expr} {ta tb tc : TE} {pos : Pos}

theorem binT (ha : PE X a ta) (hb : PE X b tb) {pins : List (Addr × Obj)} {s : Shared} {σ : St} {H : Hp} {R : V → V → Hp → Prop} (I : Inv X pins σ H s)
    (h : ta σ H fun x H1 => tb σ H1 fun y H2 => R x y H2) {Q : Value → Shared → Prop} {f : Value → Value → Sem Value}
    (hf : ∀ v u s2 x y H2, Inv X pins σ H2 s2 → RelV x v → RelV y u → R x y H2 → wpAny (model X.prog X.w) X.A (f v u) Q X.xe s2) :
    wpAny (model X.prog X.w) X.A (eval a X.env) (fun v s₁ => wpAny (model X.prog X.w) X.A (eval b X.env) (fun u s₂ => wpAny (model X.prog X.w) X.A (f v u) Q X.xe s₂) X.xe s₁) X.xe s := by
  refine thn (ha pins s σ H _ I h) fun v s1 ⟨x, H1, I1, r1, q1⟩ => ?_
  refine thn (hb pins s1 σ H1 _ I1 q1) fun u s2 ⟨y, H2, I2, r2, q2⟩ => ?_
  exact hf v u s2 x y H2 I2 r1 r2 q2

theorem pe_op {op : Operator} {r : R2} (ho : OpR X (binaryOp op) r) (ha : PE X a ta) (hb : PE X b tb) : PE X (.BinOp a op b pos) (tOp r ta tb) := by
  intro pins s σ H Q I h
  exact wpAny_BinOp (binT ha hb I h fun v u s2 x y H2 I2 rx ry q => ho pins s2 σ H2 x y v u Q I2 rx ry q)
theorem pe_un {op : UnaryOp} {r : V → Hp → VK → Prop} (ho : UnR X (unaryOp op) r) (ha : PE X a ta) : PE X (.UnaryOp op a pos) (tUn r ta) := by
  intro pins s σ H Q I h
  exact UnaryOp_ (thn (ha pins s σ H _ I h) fun v s1 ⟨x, H1, I1, r1, q1⟩ => ho pins s1 σ H1 x v Q I1 r1 q1)
theorem opI {f : Value → Value → Sem Value} {C : Int → Int → Prop} {g : Int → Int → Int}
    (rule : ∀ (i j : Int) (t u : Tok) (s : Shared) (Q : Value → Shared → Prop) (E : Value → Shared → Prop), C i j → Q (.int (g i j) s.toks) { s with toks := s.toks + 1 } → wpAny (model X.prog X.w) X.A (f (.int i t) (.int j u)) Q E s) :
    OpR X f (rI C fun i j => .int (g i j)) := by
  intro pins s σ H x y v u Q I rx ry h
  obtain ⟨i, j, rfl, rfl, hc, q⟩ := h
  obtain ⟨t, rfl⟩ := rx
  obtain ⟨t', rfl⟩ := ry
  exact rule i j t t' s _ _ hc ⟨.int (g i j), H, I.tok _, ⟨_, rfl⟩, q⟩
theorem opI0 {f : Value → Value → Sem Value} {g : Int → Int → Int}
    (rule : ∀ (i j : Int) (t u : Tok) (s : Shared) (Q : Value → Shared → Prop) (E : Value → Shared → Prop), Q (.int (g i j) s.toks) { s with toks := s.toks + 1 } → wpAny (model X.prog X.w) X.A (f (.int i t) (.int j u)) Q E s) :
    OpR X f (rI0 fun i j => .int (g i j)) := by
  intro pins s σ H x y v u Q I rx ry h
  obtain ⟨i, j, rfl, rfl, q⟩ := h
  obtain ⟨t, rfl⟩ := rx
  obtain ⟨t', rfl⟩ := ry
  exact rule i j t t' s _ _ ⟨.int (g i j), H, I.tok _, ⟨_, rfl⟩, q⟩
theorem opB0 {f : Value → Value → Sem Value} {g : Int → Int → Bool}
    (rule : ∀ (i j : Int) (t u : Tok) (s : Shared) (Q : Value → Shared → Prop) (E : Value → Shared → Prop), Q (.bool (g i j)) s → wpAny (model X.prog X.w) X.A (f (.int i t) (.int j u)) Q E s) :
    OpR X f (rI0 fun i j => .bl (g i j)) := by
  intro pins s σ H x y v u Q I rx ry h
  obtain ⟨i, j, rfl, rfl, q⟩ := h
  obtain ⟨t, rfl⟩ := rx
  obtain ⟨t', rfl⟩ := ry
  exact rule i j t t' s _ _ ⟨.bl (g i j), H, I, rfl, q⟩

def CDiv (i j : Int) : Prop := 0 < j ∧ j < 1073741824
def CDivN (i j : Int) : Prop := j ≠ 0 ∧ j.natAbs < 1073741824
theorem op_add : OpR X (binaryOp .Add) (rI0 fun i j => .int (i + j)) := opI0 fun _ _ _ _ _ _ _ q => add_int q
theorem op_sub : OpR X (binaryOp .Sub) (rI0 fun i j => .int (i - j)) := opI0 fun _ _ _ _ _ _ _ q => sub_int q
/-- // by a positive divisor -/
theorem op_fdiv : OpR X (binaryOp .FloorDiv) (rI CDiv fun i j => .int (i / j)) := opI fun i j _ _ _ _ _ hc q => by
  have h1 : (0 : Int) < j := hc.1
  have h2 : j < 1073741824 := hc.2
  exact floordiv_int (by omega) (by rw [Int.fdiv_eq_ediv_of_nonneg i (by omega)]; exact q) (.inl (PyProof.noPylong_small (by omega)))
theorem op_fdivN : OpR X (binaryOp .FloorDiv) (rI CDivN fun i j => .int (i.fdiv j)) := opI fun _ _ _ _ _ _ _ hc q => floordiv_int hc.1 q (.inl (PyProof.noPylong_small hc.2))
/-- % by a positive divisor of any size -/
theorem op_mod : OpR X (binaryOp .Mod) (rI (fun _ j => 0 < j) fun i j => .int (i % j)) := opI fun i j _ _ _ _ _ hc q => by
  have h1 : (0 : Int) < j := hc
  exact mod_int' (by omega) (by rw [Int.fmod_eq_emod_of_nonneg i (by omega)]; exact q)
theorem unI {f : Value → Sem Value} {g : Int → Int}
    (rule : ∀ (i : Int) (t : Tok) (s : Shared) (Q : Value → Shared → Prop) (E : Value → Shared → Prop), Q (.int (g i) s.toks) { s with toks := s.toks + 1 } → wpAny (model X.prog X.w) X.A (f (.int i t)) Q E s) :
    UnR X f (rU fun i => .int (g i)) := by
  intro pins s σ H x v Q I rx h
  obtain ⟨i, rfl, q⟩ := h
  obtain ⟨t, rfl⟩ := rx
  exact rule i t s _ _ ⟨.int (g i), H, I.tok _, ⟨_, rfl⟩, q⟩
theorem un_neg : UnR X (unaryOp .USub) (rU fun i => .int (-i)) := unI fun _ _ _ _ _ q => neg_int q
end

/-- the scalars that == tells apart as data does -/
def scal : V → V → Bool
  | .non, .non => true | .non, .int _ => true | .int _, .non => true | .non, .bl _ => true | .bl _, .non => true | .non, .str _ => true | .str _, .non => true
  | .int _, .int _ => true | .bl _, .bl _ => true | .str _, .str _ => true | .byt _, .byt _ => true
  | .int _, .str _ => true | .str _, .int _ => true | .bl _, .str _ => true | .str _, .bl _ => true
  | _, _ => false
def rEq : R2 := fun x y H Q => scal x y = true ∧ Q (.bl (decide (x = y))) H
def rNe : R2 := fun x y H Q => scal x y = true ∧ Q (.bl (!decide (x = y))) H

theorem dec_int {i j : Int} : decide (V.int i = V.int j) = (i == j) := by
  rw [Bool.eq_iff_iff]
  simp
theorem dec_bl {i j : Bool} : decide (V.bl i = V.bl j) = (i == j) := by
  rw [Bool.eq_iff_iff]
  simp
theorem dec_str {i j : Str} : decide (V.str i = V.str j) = (i == j) := by
  rw [Bool.eq_iff_iff]
  simp
theorem dec_byt {i j : Array UInt8} : decide (V.byt i = V.byt j) = (i.toList == j.toList) := by
  rw [Bool.eq_iff_iff]
  cases i
  cases j
  simp

section
variable {X : Cx} {a b c : Expr} {ta tb tc : TE} {pos : Pos}
theorem fin_bl {pins : List (Addr × Obj)} {σ : St} {H : Hp} {s : Shared} {Q : VK} {k k' : Bool} (I : Inv X pins σ H s) (q : Q (.bl k) H) (e : k = k') : EP X pins σ Q (.bool k') s := by
  subst e
  exact ⟨.bl k, H, I, rfl, q⟩
theorem op_eq : OpR X (compareOp .Eq) rEq := by
  intro pins s σ H x y v u Q I rx ry h
  obtain ⟨hs, q⟩ := h
  cases x with
  | non =>
    cases rx
    cases y with
    | non => cases ry; exact PySem.EqNone.eq_none_none (fin_bl I q (by simp))
    | bl j => cases ry; exact PySem.EqNone.eq_none_bool (fin_bl I q (by simp))
    | int j => obtain ⟨t', rfl⟩ := ry; exact PySem.EqNone.eq_none_int (fin_bl I q (by simp))
    | str j => obtain ⟨t', rfl⟩ := ry; exact PySem.EqNone.eq_none_str (fin_bl I q (by simp))
    | _ => exact absurd (show false = true from hs) Bool.false_ne_true
  | bl i =>
    cases rx
    cases y with
    | non => cases ry; exact PySem.EqNone.eq_bool_none (fin_bl I q (by simp))
    | bl j => cases ry; exact eq_bool (fin_bl I q dec_bl)
    | str j => obtain ⟨t', rfl⟩ := ry; exact PySem.EqMixed.eq_bool_str (fin_bl I q (by simp))
    | _ => exact absurd (show false = true from hs) Bool.false_ne_true
  | int i =>
    obtain ⟨t, rfl⟩ := rx
    cases y with
    | non => cases ry; exact PySem.EqNone.eq_int_none (fin_bl I q (by simp))
    | int j => obtain ⟨t', rfl⟩ := ry; exact eq_int (fin_bl I q dec_int)
    | str j => obtain ⟨t', rfl⟩ := ry; exact PySem.EqMixed.eq_int_str (fin_bl I q (by simp))
    | _ => exact absurd (show false = true from hs) Bool.false_ne_true
  | str i =>
    obtain ⟨t, rfl⟩ := rx
    cases y with
    | non => cases ry; exact PySem.EqNone.eq_str_none (fin_bl I q (by simp))
    | bl j => cases ry; exact PySem.EqMixed.eq_str_bool (fin_bl I q (by simp))
    | int j => obtain ⟨t', rfl⟩ := ry; exact PySem.EqMixed.eq_str_int (fin_bl I q (by simp))
    | str j => obtain ⟨t', rfl⟩ := ry; exact eq_str (fin_bl I q dec_str)
    | _ => exact absurd (show false = true from hs) Bool.false_ne_true
  | byt i =>
    obtain ⟨t, rfl⟩ := rx
    cases y with
    | byt j => obtain ⟨t', rfl⟩ := ry; exact PySem.W.eq_bytes (fin_bl I q dec_byt)
    | _ => exact absurd (show false = true from hs) Bool.false_ne_true
  | _ => cases y <;> exact absurd (show false = true from hs) Bool.false_ne_true
theorem op_ne : OpR X (compareOp .NotEq) rNe := by
  intro pins s σ H x y v u Q I rx ry h
  obtain ⟨hs, q⟩ := h
  cases x with
  | non =>
    cases rx
    cases y with
    | non => cases ry; exact PySem.EqNone.ne_none_none (fin_bl I q (by simp))
    | bl j => cases ry; exact PySem.EqNone.ne_none_bool (fin_bl I q (by simp))
    | int j => obtain ⟨t', rfl⟩ := ry; exact PySem.EqNone.ne_none_int (fin_bl I q (by simp))
    | str j => obtain ⟨t', rfl⟩ := ry; exact PySem.EqNone.ne_none_str (fin_bl I q (by simp))
    | _ => exact absurd (show false = true from hs) Bool.false_ne_true
  | bl i =>
    cases rx
    cases y with
    | non => cases ry; exact PySem.EqNone.ne_bool_none (fin_bl I q (by simp))
    | bl j => cases ry; exact ne_bool (fin_bl I q (congrArg not dec_bl))
    | str j => obtain ⟨t', rfl⟩ := ry; exact PySem.EqMixed.ne_bool_str (fin_bl I q (by simp))
    | _ => exact absurd (show false = true from hs) Bool.false_ne_true
  | int i =>
    obtain ⟨t, rfl⟩ := rx
    cases y with
    | non => cases ry; exact PySem.EqNone.ne_int_none (fin_bl I q (by simp))
    | int j => obtain ⟨t', rfl⟩ := ry; exact ne_int (fin_bl I q (congrArg not dec_int))
    | str j => obtain ⟨t', rfl⟩ := ry; exact PySem.EqMixed.ne_int_str (fin_bl I q (by simp))
    | _ => exact absurd (show false = true from hs) Bool.false_ne_true
  | str i =>
    obtain ⟨t, rfl⟩ := rx
    cases y with
    | non => cases ry; exact PySem.EqNone.ne_str_none (fin_bl I q (by simp))
    | bl j => cases ry; exact PySem.EqMixed.ne_str_bool (fin_bl I q (by simp))
    | int j => obtain ⟨t', rfl⟩ := ry; exact PySem.EqMixed.ne_str_int (fin_bl I q (by simp))
    | str j => obtain ⟨t', rfl⟩ := ry; exact ne_str (fin_bl I q (congrArg not dec_str))
    | _ => exact absurd (show false = true from hs) Bool.false_ne_true
  | byt i =>
    obtain ⟨t, rfl⟩ := rx
    cases y with
    | byt j => obtain ⟨t', rfl⟩ := ry; exact PySem.W.ne_bytes (fin_bl I q (congrArg not dec_byt))
    | _ => exact absurd (show false = true from hs) Bool.false_ne_true
  | _ => cases y <;> exact absurd (show false = true from hs) Bool.false_ne_true

theorem op_lt : OpR X (compareOp .Lt) (rI0 fun i j => .bl (decide (i < j))) := opB0 fun _ _ _ _ _ _ _ q => lt_int q
theorem op_le : OpR X (compareOp .LtE) (rI0 fun i j => .bl (decide (i ≤ j))) := opB0 fun _ _ _ _ _ _ _ q => le_int q
theorem op_gt : OpR X (compareOp .Gt) (rI0 fun i j => .bl (decide (j < i))) := opB0 fun _ _ _ _ _ _ _ q => gt_int q
theorem op_ge : OpR X (compareOp .GtE) (rI0 fun i j => .bl (decide (j ≤ i))) := opB0 fun _ _ _ _ _ _ _ q => ge_int q
theorem nomark (b : Expr) {op : CmpOp} (h : op ≠ .In := by decide) (h2 : op ≠ .NotIn := by decide) : behindInMarks op b = false := by
  have e1 : (op == CmpOp.In) = false := by cases op <;> first | rfl | exact absurd rfl h
  have e2 : (op == CmpOp.NotIn) = false := by cases op <;> first | rfl | exact absurd rfl h2
  cases b <;> simp [behindInMarks, e1, e2]
/-- a comparison as a value; hm: nomark b, or (for in, not in) by with_unfolding_all rfl -/
theorem pe_cmpR {op : CmpOp} {r : R2} (ho : OpR X (compareOp op) r) (ha : PE X a ta) (hb : PE X b tb) (hm : behindInMarks op b = false) : PE X (.Compare a [op] [b] pos) (tOp r ta tb) := by
  intro pins s σ H Q I h
  exact wpAny_Compare1 (binT ha hb I h fun v u s2 x y H2 I2 rx ry q => ho pins s2 σ H2 x y v u Q I2 rx ry q) hm
/-- a reading of a value as a test -/
def tTest (t : TE) : TT := fun σ H Q => t σ H fun x H' => ∃ k, x = .bl k ∧ Q k H'
theorem pt_cmpR {op : CmpOp} {r : R2} (ho : OpR X (compareOp op) r) (ha : PE X a ta) (hb : PE X b tb) (hm : behindInMarks op b = false) : PT X (.Compare a [op] [b] pos) (tTest (tOp r ta tb)) := by
  intro pins s σ H Q I h
  refine wpAny_isTrue_Compare1 (thn (ha pins s σ H _ I h) fun v s1 ⟨x, H1, I1, r1, q1⟩ => thn (hb pins s1 σ H1 _ I1 q1) fun u s2 ⟨y, H2, I2, r2, q2⟩ =>
    thn (ho pins s2 σ H2 x y v u _ I2 r1 r2 q2) fun c s3 ⟨z, H3, I3, r3, k, e, q3⟩ => ?_) hm
  subst e
  cases r3
  exact wpAny_truthy_bool ⟨H3, I3, q3⟩
theorem line63 : (sizeLine : Nat) < 2 ^ 63 := by rw [sizeLine_eq]; decide
theorem op_add_str : OpR X (binaryOp .Add) (fun x y H Q => ∃ i j, x = .str i ∧ y = .str j ∧ i.length + j.length ≤ sizeLine ∧ Q (.str (i ++ j)) H) := by
  intro pins s σ H x y v u Q I rx ry h
  obtain ⟨i, j, rfl, rfl, hz, q⟩ := h
  obtain ⟨t, rfl⟩ := rx
  obtain ⟨t', rfl⟩ := ry
  exact add_str (fun t' tk => ⟨.str (i ++ j), H, I.tok _, ⟨_, rfl⟩, q⟩) hz
theorem vals1 {x : V} {us : List Value} (r : Vals [x] us) : ∃ u, us = [u] ∧ RelV x u := by
  cases r with
  | cons r1 r2 => cases r2; exact ⟨_, rfl, r1⟩
theorem vals2 {x y : V} {us : List Value} (r : Vals [x, y] us) : ∃ u w', us = [u, w'] ∧ RelV x u ∧ RelV y w' := by
  cases r with
  | cons r1 r2 =>
    cases r2 with
    | cons r3 r4 => cases r4; exact ⟨_, _, rfl, r1, r3⟩
theorem call_abs : CallR X (.builtin "abs") (fun xs H Q => ∃ i, xs = [.int i] ∧ Q (.int (if i < 0 then -i else i)) H) := by
  intro pins s σ H xs us Q I r h
  obtain ⟨i, rfl, q⟩ := h
  obtain ⟨u, rfl, t, rfl⟩ := vals1 r
  exact call_abs_int fun u tk => ⟨.int (if i < 0 then -i else i), H, I.tok _, ⟨_, rfl⟩, q⟩
end
end L2

namespace L2
open PySem PySem.Spec PyProof.Rows

structure ObjM (h : Heap) (x dx C : Addr) (mA : Str → Option Value) : Prop where
  obj : h.get? x = some (PySem.W.instObj C dx)
  ns : h.Ns1 dx mA
  ne : dx ≠ x

theorem lookIn_ns {h : Heap} {dx : Addr} {mA : Str → Option Value} (n : h.Ns1 dx mA) : ∃ od, h.get? dx = some od ∧ ∀ name, PySem.W.lookIn name od = some (mA name) := by
  obtain ⟨o, es, ep, ho, hd, hk, _, hm⟩ := n
  refine ⟨o, ho, fun name => ?_⟩
  have e := hm name
  unfold nsFind findBy at e
  rw [← Array.find?_toList] at e
  unfold PySem.W.lookIn
  rw [hd]
  dsimp only
  split
  · rename_i y q
    rw [q] at e
    exact congrArg some e
  · rename_i q
    rw [q] at e
    have a : es.toList.any (·.refKey) = false := by
      rw [List.any_eq_false]
      intro y hy
      obtain ⟨z, t, hkey⟩ := hk y (Array.mem_toList_iff.mp hy)
      simp [DictEntry.refKey, hkey]
    have a' : ¬ es.toList.any (·.refKey) = true := by rw [a]; exact Bool.false_ne_true
    rw [if_neg a']
    exact congrArg some e

theorem ObjM.look {h : Heap} {x dx C : Addr} {mA : Str → Option Value} (I : ObjM h x dx C mA) : ∃ od, PySem.W.InstAt h x (PySem.W.instObj C dx) C (some od) ∧ ∀ name, PySem.W.lookIn name od = some (mA name) :=
  let ⟨od, ho, hl⟩ := lookIn_ns I.ns
  ⟨od, ⟨I.obj, rfl, rfl, ho⟩, hl⟩

section
variable {prog : Program} {w : World} {A : Around} {E : Value → Shared → Prop} {s : Shared} {K : PySem.W.Frag} {x dx C f : Addr} {mA : Str → Option Value} {name : Str} {v : Value}

end

section
variable {P : Program} {w : World} {H H' : Hp} {h h' : Heap} {a C dx : Addr} {fs fs' : List (Str × V)}
theorem ins_get (hok : HOk P w H h) (e : H a = some (.ins C dx fs)) : ∃ mA, ObjM h a dx C mA ∧ (∀ f, RelO (fs.lookup f) (mA f)) ∧ PySem.Within mA (fs.map (·.1)) ∧ fs.length ≤ 1000 ∧ H dx = some (.own a) := by
  obtain ⟨d, z, ne, ob, mA, n, r, q⟩ := (show ObjOk P w H h a (.ins C dx fs) from hok a _ e)
  exact ⟨mA, ⟨ob, n, ne⟩, r, q, z, d⟩
end

structure Cls (K : PySem.W.Frag) (C : Addr) : Prop where
  pg : PySem.W.plainGet K C Str.empty = true
  hd : PySem.W.hasDictIn K C = true
  po : PySem.W.plainOver K C = true
  sa : PySem.W.findIn K (.ref C) "__setattr__" = some (some (.builtin "object.__setattr__"))
theorem Cls.get {K : PySem.W.Frag} {C : Addr} (c : Cls K C) (f : Str) : PySem.W.plainGet K C f = true := c.pg
section
variable {X : Cx} {pins : List (Addr × Obj)} {σ : St} {H : Hp} {s : Shared} {a C dx : Addr} {fs : List (Str × V)} {f : Str} {v : V} {A : Around} {E : Value → Shared → Prop}

end

section
variable {X : Cx} {o e value : Expr} {f : Str} {pos pos' tpos : Pos} {ta tv : TE}
end

section
variable {X : Cx} {pins : List (Addr × Obj)} {σ : St} {H : Hp} {s : Shared} {A : Around} {E : Value → Shared → Prop} {Q : Value → Shared → Prop} {c : Value} {b : Bool}
/-- the type of a value, as the fragment's deciders take it; for an instance its class -/
inductive TyOf (K : PySem.W.Frag) (H : Hp) : V → Value → Prop where
  | non : TyOf K H .non (.type "NoneType")
  | bl (x : Bool) : TyOf K H (.bl x) (.type "bool")
  | int (i : Int) : TyOf K H (.int i) (.type "int")
  | str (x : Str) : TyOf K H (.str x) (.type "str")
  | flt (x : UInt64) : TyOf K H (.flt x) (.type "float")
  | lst {a : Addr} {xs : List V} (e : H a = some (.lst xs)) : TyOf K H (.ref a) (.type "list")
  | frz {a : Addr} {o : Obj} {xs : List V} (e : H a = some (.frz o (.lst xs))) : TyOf K H (.ref a) (.type "list")
  | tup {a : Addr} {xs : List V} (e : H a = some (.tup xs)) : TyOf K H (.ref a) (.type "tuple")
  | dK {a : Addr} {kvs : List (Key × V)} (e : H a = some (.dK kvs)) : TyOf K H (.ref a) (.type "dict")
  | dT {a : Addr} {kvs : List (List Key × V)} (e : H a = some (.dT kvs)) : TyOf K H (.ref a) (.type "dict")
  | ins {a C dx : Addr} {fs : List (Str × V)} (e : H a = some (.ins C dx fs)) (cl : Cls K C) (ha : PySem.W.findIn K (.ref C) "__class__" = some (some (.builtin "object.__class__")))
      (hn : PySem.W.specialIn K (.builtin "object.__class__") "__get__" = some (some (.builtin "getset_descriptor.__get__"))) (htk : PySem.W.takesIn K (.builtin "object.__class__") = some true)
      (hm : PySem.W.mroIn K C (.type "object") = some true) : TyOf K H (.ref a) (.ref C)
/-- isinstance(x, c) for one class c, a built-in or an own one: kitOne's answer -/
theorem isinst_ok {x : V} {u t : Value} (I : Inv X pins σ H s) (rx : RelV x u) (ty : TyOf X.K H x t) (e : PySem.W.kitOne X.K t c = some b) (h : ∀ tk, Q (.bool b) { s with toks := tk }) :
    wpAny (model X.prog X.w) A (call (.builtin "isinstance") [u, c]) Q E s := by
  cases ty with
  | non => cases (show u = Value.none from rx); exact PySem.W.kia_one PySem.W.kitx_none I.kIn True.intro e (fun z => nomatch z) h
  | bl y => cases (show u = Value.bool y from rx); exact PySem.W.kia_one PySem.W.kitx_bool I.kIn True.intro e (fun z => nomatch z) h
  | int i => obtain ⟨t, q⟩ := (show ∃ t, u = Value.int i t from rx); cases q; exact PySem.W.kia_one PySem.W.kitx_int I.kIn True.intro e (fun z => nomatch z) h
  | str y => obtain ⟨t, q⟩ := (show ∃ t, u = Value.str y t from rx); cases q; exact PySem.W.kia_one PySem.W.kitx_str I.kIn True.intro e (fun z => nomatch z) h
  | flt y => obtain ⟨t, q⟩ := (show ∃ t, u = Value.float y t from rx); cases q; exact PySem.W.kia_one PySem.W.kitx_float I.kIn True.intro e (fun z => nomatch z) h
  | @lst a xs ea =>
    cases (show u = Value.ref a from rx)
    obtain ⟨_, _, n, _, h1⟩ := (show ObjOk X.prog X.w H s.heap a (.lst xs) from I.hok a _ ea)
    exact PySem.W.kia_one PySem.W.kitx_list I.kIn ⟨_, h1, rfl⟩ e (fun z => nomatch z) h
  | @frz a ob xs ea =>
    cases (show u = Value.ref a from rx)
    obtain ⟨_, _, _, n, _, h1⟩ := (show ObjOk X.prog X.w H s.heap a (.frz ob (.lst xs)) from I.hok a _ ea)
    exact PySem.W.kia_one PySem.W.kitx_list I.kIn ⟨_, h1, rfl⟩ e (fun z => nomatch z) h
  | @tup a xs ea =>
    cases (show u = Value.ref a from rx)
    obtain ⟨_, _, _, p⟩ := (show ObjOk X.prog X.w H s.heap a (.tup xs) from I.hok a _ ea)
    obtain ⟨o, h1, h2, _⟩ := p
    exact PySem.W.kia_one PySem.W.kitx_tuple I.kIn ⟨o, h1, h2⟩ e (fun z => nomatch z) h
  | @dK a kvs ea =>
    cases (show u = Value.ref a from rx)
    obtain ⟨_, _, vs, _, p⟩ := (show ObjOk X.prog X.w H s.heap a (.dK kvs) from I.hok a _ ea)
    obtain ⟨o, es, ep, h1, h2, _⟩ := p
    exact PySem.W.kia_one PySem.W.kitx_dict I.kIn ⟨o, h1, h2.1⟩ e (fun z => nomatch z) h
  | @dT a kvs ea =>
    cases (show u = Value.ref a from rx)
    obtain ⟨_, _, xs, _, o, es, ep, h1, h2, _⟩ := (show ObjOk X.prog X.w H s.heap a (.dT kvs) from I.hok a _ ea)
    exact PySem.W.kia_one PySem.W.kitx_dict I.kIn ⟨o, h1, h2.1⟩ e (fun z => nomatch z) h
  | @ins a C dx fs ea cl ha hn htk hm =>
    cases (show u = Value.ref a from rx)
    obtain ⟨mA, O, _⟩ := ins_get I.hok ea
    obtain ⟨od, J, _⟩ := O.look
    exact PySem.W.kia_one (PySem.W.kitx_own (cl.get _) cl.hd ha hn htk hm) I.kIn J e (fun z => nomatch z) h
end
end L2

namespace L2
open PySem PySem.Spec PyProof.Rows

structure Room (k : Nat) (A : Around) : Prop where
  hd : A.handled = none
  dp : A.depth + 3 * k + 5 < recursionLimit
  un : A.units + 16 * k + 200 < cLine
theorem Room.mono {j k : Nat} {A : Around} (r : Room k A) (h : j ≤ k) : Room j A := ⟨r.hd, by have := r.dp; omega, by have := r.un; omega⟩
theorem Room.deeper {k : Nat} {A : Around} (r : Room (k + 1) A) (env : Env) : Room k (A.deeper env) :=
  ⟨r.hd, by have := r.dp; show A.depth + 1 + 3 * k + 5 < _; omega, by have := r.un; show A.units + 3 + 16 * k + 200 < _; omega⟩
theorem Room.depth {k : Nat} {A : Around} (r : Room k A) : A.depth < recursionLimit := by have := r.dp; omega
theorem Room.units {k : Nat} {A : Around} (r : Room k A) : A.units + 64 < cLine := by have := r.un; omega
def tNil : TA := fun _ H Q => Q [] H
def tCons (ta : TE) (tr : TA) : TA := fun σ H Q => ta σ H fun x H1 => tr σ H1 fun xs H2 => Q (x :: xs) H2
section
variable {X : Cx} {e : Expr} {es : List Expr} {te : TE} {t : TA} {pos : Pos}
theorem pa_nil : PA X [] tNil := fun _ _ _ _ H Q I h => Calls.spliced_nil ⟨[], H, I, .nil, h⟩
theorem pa_cons (ha : PE X e te) (hr : PA X es t) (hs : starEach (e :: es) X.env = (false, eval e X.env) :: starEach es X.env := by rfl) : PA X (e :: es) (tCons te t) := by
  intro pos pins s σ H Q I h
  rw [hs]
  show wpAny _ _ (spliced ((false, eval e X.env) :: backTo pos (starEach es X.env))) _ _ s
  refine Calls.spliced_cons (thn (ha pins s σ H _ I h) fun u s1 ⟨x, H1, I1, r1, q1⟩ => ?_)
  exact thn (hr pos pins s1 σ H1 _ I1 q1) fun us s2 ⟨xs, H2, I2, r2, q2⟩ => ⟨x :: xs, H2, I2, .cons r1 r2, q2⟩

/-- a tuple, a list of written items -/
def tTup (t : TA) : TE := fun σ H Q => t σ H fun xs H1 => xs.length ≤ sizeLine ∧ ∀ p, H1 p = none → Q (.ref p) (upd H1 p (.tup xs))
theorem pe_tup {x1} (h : PA X es t) : PE X (.Tuple es x1 pos) (tTup t) := by
  intro pins s σ H Q I hq
  refine wpAny_Tuple_spliced (thn (h pos pins s σ H _ I hq) fun us s1 ⟨xs, H1, I1, r, z, q⟩ => ⟨by rw [← r.length]; exact z, ?_⟩)
  have hf : H1 s1.heap.objs.size = none := I1.hok.fresh (Nat.le_refl _)
  refine ⟨.ref s1.heap.objs.size, upd H1 s1.heap.objs.size (.tup xs), I1.laid (t' := s1.toks) (fun b u e => Heap.get?_push_of_some _ e) (Nat.le_refl _) ?_, rfl, q _ hf⟩
  exact ⟨⟨z, _, Heap.get?_push_size _ rfl, rfl⟩, us, r, ⟨_, Heap.get?_push_size _ rfl, rfl, _, rfl⟩⟩
end

/-- a def's promise: the bound arguments in the parameters' order, the heap, the wanted end, the wanted exception -/
abbrev Sp := List V → Hp → VK → XK → Prop
/-- how an exception lies behind a call (file 08 gives it): the callers' frames, abstract heap and state ahead of the call, the wish, the exception, the state -/
abbrev CXT := List Env → Hp → Shared → XK → Value → Shared → Prop

/-- the state at a call -/
structure Env0 (P : Program) (w : World) (K : PySem.W.Frag) (mg : Str → Option Value) (base : Heap) (A : Around) (outer : List Env) (s : Shared) (H : Hp) : Prop where
  frames : A.frames = some outer
  mod : Mod K mg base
  bs : ∀ b o, base.get? b = some o → s.heap.get? b = some o ∧ H b = none
  bsz : base.objs.size ≤ s.heap.objs.size
  funs : s.heap.FunFrames base outer
  frf : ∀ b ∈ frs outer, H b = none
  hok : HOk P w H s.heap
  bare : AllBare s.gens
/-- a call's end -/
def CE (outer : List Env) (P : Program) (w : World) (H : Hp) (s : Shared) (Q : VK) (u : Value) (s' : Shared) : Prop :=
  ∃ v H', s'.os = s.os ∧ AllBare s'.gens ∧ Un (frs outer) [] H H' s.heap s'.heap ∧ HOk P w H' s'.heap ∧ RelV v u ∧ Q v H'
def CR (CX : CXT) (outer : List Env) (P : Program) (w : World) (H : Hp) (s : Shared) (Q : VK) (E : XK) (r : Result) (s' : Shared) : Prop :=
  match r with
  | .ok (.ret u) => CE outer P w H s Q u s'
  | .ok _ => False
  | .error e => CX outer H s E e s'
structure FnOk (P : Program) (w : World) (K : PySem.W.Frag) (mg : Str → Option Value) (base : Heap) (CX : CXT) (k : Nat) (f : Addr) (fd : FuncData) (ps : List Str) (sp : Sp) : Prop where
  len : ∀ vs H Q E, sp vs H Q E → vs.length = ps.length
  run : ∀ (A : Around) (outer : List Env) (s : Shared) (H : Hp) (args : Args) (us : List Value) (vs : List V) (Q : VK) (E : XK), Room k A → Env0 P w K mg base A outer s H → BindsTo s fd args (ps.zip us) → Vals vs us → sp vs H Q E →
    codeAny (model P w) A (.call (.ref f) args) (CR CX outer P w H s Q E) s
section
variable {X : Cx} {pins : List (Addr × Obj)} {σ : St} {H : Hp} {s s' : Shared}
/-- from a body: what a callee wants -/
theorem Inv.env0 (I : Inv X pins σ H s) : Env0 X.prog X.w X.K X.mg X.base X.A X.stack s H :=
  ⟨I.ok.frames, I.ok.mod, I.bs, Nat.le_trans I.ok.bsz I.sz, I.stack, I.stkFree, I.hok, I.bare⟩
/-- behind a call -/
theorem Inv.after {Q : VK} {u : Value} (I : Inv X pins σ H s) (h : CE X.stack X.prog X.w H s Q u s') : EP X pins σ Q u s' := by
  obtain ⟨v, H', os, bare, un, hok, r, q⟩ := h
  obtain ⟨hh, g, d, t, os'⟩ := s'
  obtain rfl : os' = s.os := os
  exact ⟨v, H', I.call (h' := hh) (g' := g) (d' := d) (t' := t) (ch := []) un hok bare (fun b z => absurd z (by simp)), r, q⟩
end

/-- f(..): the written arguments, then the defaults dvs; E: what is wanted of an exception -/
def tCall (sp : Sp) (dvs : List V) (E : XK) (t : TA) : TE := fun σ H Q => t σ H fun vs H1 => sp (vs ++ dvs) H1 Q E
/-- how the parameters are bound: us the positional arguments, kw the keywords' values by name, ds the defaults that fill up -/
def Binds (K : PySem.W.Frag) (fd : FuncData) (ps : List Str) (ds : List Value) : Prop :=
  ∀ (s : Shared) (us : List Value), K.In s.heap → (us ++ ds).length = ps.length → BindsTo s fd ⟨us, []⟩ (ps.zip (us ++ ds))
/-- every parameter is given -/
theorem Binds.all {K : PySem.W.Frag} {fd : FuncData} {ps : List Str} (h : ∀ us : List Value, us.length = ps.length → bindArgs fd ⟨us, []⟩ = pure (ps.zip us)) : Binds K fd ps [] := fun s us _ hl => by
  rw [List.append_nil] at hl ⊢
  exact .of_eq (h us hl)

/-- an exception of a callee reaches what this body wants of exceptions -/
def Passes (CX : CXT) (X : Cx) (E : XK) : Prop := ∀ (pins : List (Addr × Obj)) (σ : St) (H : Hp) (s : Shared) (e : Value) (s' : Shared), Inv X pins σ H s → CX X.stack H s E e s' → X.xe e s'

section
variable {X : Cx} {CX : CXT} {k : Nat} {f C : Addr} {fd : FuncData} {ps : List Str} {sp : Sp} {dvs : List V} {ds : List Value} {E : XK} {x m : Str} {p pos apos : Pos} {e o : Expr} {es : List Expr} {ta : TE} {t : TA}

/-- the callee runs -/
theorem run_fn {pins : List (Addr × Obj)} {σ : St} {H : Hp} {s : Shared} {Q : VK} {us : List Value} {vs : List V} (F : FnOk X.prog X.w X.K X.mg X.base CX k f fd ps sp) (hr : Room k X.A) (hb : Binds X.K fd ps ds) (hd : Vals dvs ds) (hx : Passes CX X E)
    (I : Inv X pins σ H s) (r : Vals vs us) (h : sp (vs ++ dvs) H Q E) : wpAny (model X.prog X.w) X.A (call (.ref f) us) (EP X pins σ Q) X.xe s := by
  have r2 : Vals (vs ++ dvs) (us ++ ds) := r.append hd
  have hl : (us ++ ds).length = ps.length := by rw [← r2.length]; exact F.len _ _ _ _ h
  refine wpAny_call (codeAny_mono (F.run X.A X.stack s H ⟨us, []⟩ (us ++ ds) (vs ++ dvs) Q E hr I.env0 (hb s us I.kIn hl) r2 h) fun r s' hq => ?_)
  cases r with
  | error e => exact hx pins σ H s e s' I hq
  | ok fl =>
    cases fl with
    | ret u => exact I.after hq
    | next => exact False.elim hq
    | brk => exact False.elim hq
    | cont => exact False.elim hq

theorem pe_call (F : FnOk X.prog X.w X.K X.mg X.base CX k f fd ps sp) (hr : Room k X.A) (hg : Gl X x) (hm : X.mg x = some (.ref f)) (hk : PySem.W.keepIn X.K (.ref f) = true) (hb : Binds X.K fd ps ds) (hd : Vals dvs ds) (hx : Passes CX X E)
    (ha : PA X (e :: es) t) (hdb : (x == ("__debug__" : Str)) = false := by decide) (he : starEach (e :: es) X.env = (false, eval e X.env) :: starEach es X.env := by rfl) (hpl : (backTo pos (starEach es X.env)).any (·.1) = false := by rfl) :
    PE X (.Call (.Name x p) (e :: es) [] pos) (tCall sp dvs E t) := by
  intro pins s σ H Q I h
  refine wpAny_Call_Name_kw (ld_glob I hg hm ?_ hdb)
  refine PySem.W.callWith_K (h₀ := X.base) I.ok.mod.kin hk (thn (ha pos pins s σ H _ I h) fun us s1 ⟨vs, H1, I1, r, q⟩ => ⟨I1.kIn, ?_⟩) he hpl
  exact run_fn F hr hb hd hx I1 r q
end

section
variable {X : Cx} {CX : CXT} {k : Nat} {f C : Addr} {fd : FuncData} {ps ks : List Str} {sp : Sp} {E : XK} {x m : Str} {p pos apos kpos : Pos} {e o : Expr} {es : List Expr} {kws : List Keyword} {te ta : TE} {t tk : TA} {nm : Option Str}
variable {g : List Value → List Value → List Value} {gV : List V → List V → List V}
end

/-- names: the parameters first -/
structure FnScope (N P : List Str) (sc : Scope) : Prop where
  kind : sc.kind = .function
  co : sc.isCoroutine = false
  gen : sc.isGenerator = false
  nd : N.Nodup
  pre : N.take P.length = P
  par : ∀ x ∈ P, sc.names.lookup x = some .local ∨ sc.names.lookup x = some .cell
  nofree : ∀ y ∈ sc.names, y.2 ≠ .free

theorem bindL_out {kindOf : Str → Option NameKind} {x : Str} : ∀ {binds : List (Str × Value)} {m : Str → Option Value}, (∀ v, (x, v) ∉ binds) → bindL kindOf binds m x = m x
  | [], _, _ => rfl
  | (n, v) :: r, m, h => by
    unfold bindL
    rw [bindL_out fun w hw => h w (List.mem_cons_of_mem _ hw)]
    split
    · have : x ≠ n := by rintro rfl; exact h v List.mem_cons_self
      simp [this]
    · rfl
theorem bindC_out {kindOf : Str → Option NameKind} {x : Str} : ∀ {binds : List (Str × Value)} {m : Str → Option Value}, (∀ v, (x, v) ∉ binds) → bindC kindOf binds m x = m x
  | [], _, _ => rfl
  | (n, v) :: r, m, h => by
    unfold bindC
    rw [bindC_out fun w hw => h w (List.mem_cons_of_mem _ hw)]
    split
    · rfl
    · have : x ≠ n := by rintro rfl; exact h v List.mem_cons_self
      simp [this]
theorem bindL_get {kindOf : Str → Option NameKind} {x : Str} {v : Value} : ∀ {P : List Str} {vs : List Value} {i : Nat} {m : Str → Option Value}, P.Nodup → P[i]? = some x → vs[i]? = some v → kindOf x = some .local →
    bindL kindOf (P.zip vs) m x = some v
  | [], _, _, _, _, h, _, _ => by simp at h
  | _ :: _, [], _, _, _, _, h, _ => by simp at h
  | p :: P, w :: vs, 0, m, nd, h1, h2, hk => by
    simp at h1 h2; subst h1; subst h2
    show bindL kindOf ((p, w) :: P.zip vs) m p = _
    unfold bindL
    rw [bindL_out fun v hv => (List.nodup_cons.mp nd).1 (List.of_mem_zip hv).1, if_pos hk]
    simp
  | p :: P, w :: vs, i + 1, m, nd, h1, h2, hk => by
    show bindL kindOf ((p, w) :: P.zip vs) m x = _
    unfold bindL
    exact bindL_get (i := i) (List.nodup_cons.mp nd).2 (by simpa using h1) (by simpa using h2) hk
theorem bindC_get {kindOf : Str → Option NameKind} {x : Str} {v : Value} : ∀ {P : List Str} {vs : List Value} {i : Nat} {m : Str → Option Value}, P.Nodup → P[i]? = some x → vs[i]? = some v → kindOf x ≠ some .local →
    bindC kindOf (P.zip vs) m x = some v
  | [], _, _, _, _, h, _, _ => by simp at h
  | _ :: _, [], _, _, _, _, h, _ => by simp at h
  | p :: P, w :: vs, 0, m, nd, h1, h2, hk => by
    simp at h1 h2; subst h1; subst h2
    show bindC kindOf ((p, w) :: P.zip vs) m p = _
    unfold bindC
    rw [bindC_out fun v hv => (List.nodup_cons.mp nd).1 (List.of_mem_zip hv).1, if_neg hk]
    simp
  | p :: P, w :: vs, i + 1, m, nd, h1, h2, hk => by
    show bindC kindOf ((p, w) :: P.zip vs) m x = _
    unfold bindC
    exact bindC_get (i := i) (List.nodup_cons.mp nd).2 (by simpa using h1) (by simpa using h2) hk

/-- the names' values at the entry -/
def start (N : List Str) (vs : List V) : St := vs.map some ++ List.replicate (N.length - vs.length) none

/-- the context of a def's body, at its entry; an exception leaves the frame, then lies as CX says -/
def cxOf (CX : CXT) (P : Program) (w : World) (K : PySem.W.Frag) (mg : Str → Option Value) (base : Heap) (N : List Str) (qual : Str) (scope : Scope) (f : Addr) (cd : Value) (A : Around) (outer : List Env) (s : Shared) (H : Hp) (E : XK) : Cx where
  prog := P
  w := w
  K := K
  mg := mg
  base := base
  A := A.deeper (envOfC qual scope s.heap.objs.size f cd)
  N := N
  s₀ := s
  H₀ := H
  env := envOfC qual scope s.heap.objs.size f cd
  outer := outer
  stack := envOfC qual scope s.heap.objs.size f cd :: outer
  ex := []
  calm := true
  fn := fun _ => true
  pn := []
  xe := fun e s' => wpAny (model P w) (A.deeper (envOfC qual scope s.heap.objs.size f cd)) (leaving (envOfC qual scope s.heap.objs.size f cd) e) (fun _ s'' => CX outer H s E e s'') (fun e' s'' => CX outer H s E e' s'') s'

theorem cell_has {sc : Scope} {n : Nat} {x : Str} (h : sc.names.lookup x = some .cell) : ∃ c, (cellsFrom n sc.names []).lookup x = some c := by
  have q := PySem.W.cellsFrom_some sc.names n [] (.inl h)
  exact Option.isSome_iff_exists.mp q

theorem inv_start {CX : CXT} {P : Program} {w : World} {K : PySem.W.Frag} {mg : Str → Option Value} {base : Heap} {N ps : List Str} {qual : Str} {scope : Scope} {f : Addr} {cd : Value} {A : Around} {outer : List Env} {s s1 : Shared} {H : Hp} {E : XK} {us : List Value} {vs : List V}
    (S : FnScope N ps scope) (hd : A.handled = none) (e0 : Env0 P w K mg base A outer s H) (hl : vs.length = ps.length) (r : Vals vs us)
    (x : InCallC s s.heap.objs.size (bindL (envOfC qual scope s.heap.objs.size f cd).kindOf (ps.zip us) fun _ => none) (cellsFrom (s.heap.objs.size + 1) scope.names []) (bindC (envOfC qual scope s.heap.objs.size f cd).kindOf (ps.zip us) fun _ => none) s1) :
    Inv (cxOf CX P w K mg base N qual scope f cd A outer s H E) [] (start N vs) H s1 := by
  have hpl : ps.length ≤ N.length := by have := congrArg List.length S.pre; rw [List.length_take] at this; omega
  obtain ⟨h1, tk, rfl, hk⟩ := x.done
  have noA : ∀ b : Addr, b ∉ (cxOf CX P w K mg base N qual scope f cd A outer s H E).ex := fun b z => absurd (show b ∈ ([] : List Addr) from z) (by simp)
  refine ⟨⟨e0.mod, S.kind, rfl, rfl, Nat.le_refl _, fun y z c h1 h2 => ?_, fun y hy => ?_, fun y c _ h => ?_, fun _ => hd, Around.frames_deeper e0.frames, .inr ⟨rfl, rfl⟩, fun b z => absurd z (noA b), e0.bs, e0.bsz, fun b _ _ => noA b, fun b z => absurd z (noA b), e0.funs, e0.frf⟩,
    rfl, e0.bare, Un.kept hk, ⟨_, x.toInCall.ns, fun i y v h1 h2 h3 => ?_⟩, fun y c h => ⟨_, x.cell y c h⟩, e0.hok.fresh (Nat.le_refl _), fun y c h => ?_, fun p hp => absurd (show p ∈ ([] : List (Addr × Obj)) from hp) (by simp), e0.hok.kept hk, ?_⟩
  · exact name_of_addr x.apart (PySem.mem_of_lookup h1) (PySem.mem_of_lookup h2)
  · have hy : scope.names.lookup y = some .cell ∨ scope.names.lookup y = some .free := hy
    rcases hy with hy | hy
    · exact cell_has hy
    · exact absurd rfl (S.nofree _ (PySem.mem_of_lookup hy))
  · exact Nat.le_of_lt (x.above y c (PySem.mem_of_lookup h))
  · have hi : i < vs.length := by
      unfold start at h2
      by_cases hi : i < vs.length
      · exact hi
      · rw [List.getElem?_append_right (by simpa using hi)] at h2
        rw [List.getElem?_replicate] at h2
        split at h2 <;> cases h2
    have ha : vs[i]? = some v := by
      unfold start at h2
      rw [List.getElem?_append_left (by simpa using hi), List.getElem?_map] at h2
      cases e : vs[i]? with
      | none => rw [e] at h2; cases h2
      | some a => rw [e] at h2; cases h2; rfl
    obtain ⟨u, hu, rv⟩ := r.get ha
    have hp : ps[i]? = some y := by
      rw [← S.pre, List.getElem?_take_of_lt (by omega)]; exact h1
    have ndP : ps.Nodup := by rw [← S.pre]; exact S.nd.sublist (List.take_sublist _ _)
    refine ⟨u, rv, ?_⟩
    rcases S.par y (List.mem_of_getElem? hp) with k | k
    · exact .inl ⟨k, bindL_get ndP hp hu k⟩
    · obtain ⟨c, e⟩ := cell_has (n := s.heap.objs.size + 1) k
      refine .inr ⟨.inl k, c, e, ?_⟩
      have q := x.cell y c e
      rw [bindC_get ndP hp hu (by show scope.names.lookup y ≠ _; rw [k]; decide)] at q
      exact q
  · exact e0.hok.fresh (Nat.le_of_lt (x.above y c (PySem.mem_of_lookup h)))
  · unfold start
    show _ = N.length
    rw [List.length_append, List.length_map, List.length_replicate]
    omega

/-- THE RULE: a def (or a method) of the text, by its body. The body's reading t is chosen for each entry; it is run at the parameters' values -/
theorem fn_of {CX : CXT} {P : Program} {w : World} {K : PySem.W.Frag} {mg : Str → Option Value} {base : Heap} {k : Nat} {f : Addr} {name qual : Str} {params : Arguments} {body : List Stmt} {scope : Scope} {dV kV doc pm cdv ct oc : Value} {an od : Option Addr}
    {osl : Array (Option Value)} {N ps : List Str} {sp : Sp} (lk : K.lookup f = some ⟨oc, od, .func (PySem.W.fnOf name qual params body scope dV kV doc pm an cdv ct), osl⟩) (hcd : PySem.W.codeIn K cdv qual = true) (S : FnScope N ps scope)
    (len : ∀ vs H Q E, sp vs H Q E → vs.length = ps.length)
    (hbody : ∀ (A : Around) (outer : List Env) (s : Shared) (H : Hp) (vs : List V) (Q : VK) (E : XK), Room k (A.deeper (envOfC qual scope s.heap.objs.size f cdv)) → sp vs H Q E →
      ∃ t, PSs (cxOf CX P w K mg base N qual scope f cdv A outer s H E) body t ∧ t { nx := fun _ H' => Q .non H', rt := Q } (start N vs) H) :
    FnOk P w K mg base CX (k + 1) f (PySem.W.fnOf name qual params body scope dV kV doc pm an cdv ct) ps sp := by
  refine ⟨len, fun A outer s H args us vs Q E hr e0 hb r hsp => ?_⟩
  have hl := len _ _ _ _ hsp
  have KX : K.In s.heap := e0.mod.kin.keeps fun b o e => (e0.bs b o e).1
  have lim : s.heap.NoLimit := e0.mod.nolimit.keeps fun b o e => (e0.bs b o e).1
  have hkind : ∀ y ∈ ps.zip us, scope.names.lookup y.1 = some .local ∨ (scope.names.lookup y.1 = some .cell ∧ ((cellsFrom (s.heap.objs.size + 1) scope.names []).lookup y.1).isSome = true) := fun ⟨n, v⟩ hy => by
    rcases S.par n (List.of_mem_zip hy).1 with q | q
    · exact .inl q
    · exact .inr ⟨q, PySem.W.cellsFrom_some _ _ _ (.inl q)⟩
  refine codeAny_call_function hr.depth (KX _ _ lk) rfl S.co S.gen rfl (PySem.W.codeRec_of KX hcd) (hb _ _ _ _ ?_)
  refine wpAny_newFunctionEnv_cells S.kind hkind fun env he s1 x => ?_
  subst he
  refine ⟨lim.keeps x.toInCall.keep, codeAny_func ?_⟩
  obtain ⟨t, ht, hq⟩ := hbody A outer s H vs Q E (hr.deeper _) hsp
  have I : Inv (cxOf CX P w K mg base N qual scope f cdv A outer s H E) [] (start N vs) H s1 := inv_start S hr.hd e0 hl r x
  refine wpAny_mono (ht [] s1 (start N vs) H _ I hq) (fun fl s' hs => ?_) fun e s' hs => hs
  have fin : ∀ {σ' : St} {H' : Hp} {v : V} {u : Value}, Inv (cxOf CX P w K mg base N qual scope f cdv A outer s H E) [] σ' H' s' → RelV v u → Q v H' → CE outer P w H s Q u s' :=
    fun {σ' H' v u} J rv q => ⟨v, H', J.os, J.bare, J.base, J.hok, rv, q⟩
  cases fl with
  | ret u =>
    obtain ⟨v, σ', H', J, rv, q⟩ := hs
    exact fin J rv q
  | next =>
    obtain ⟨σ', H', J, q⟩ := hs
    exact fin (v := V.non) (u := Value.none) J rfl q
  | brk =>
    obtain ⟨_, _, _, q⟩ := hs
    exact False.elim q
  | cont =>
    obtain ⟨_, _, _, q⟩ := hs
    exact False.elim q
end L2

namespace L2
open PySem PySem.Spec PyProof.Rows
section
variable {X : Cx} {x : Str} {p pos : Pos} {e : Expr} {es : List Expr} {t : TA} {id T : String} {r : List V → Hp → VK → Prop}

def tCB (r : List V → Hp → VK → Prop) (t : TA) : TE := fun σ H Q => t σ H fun vs H1 => r vs H1 Q
/-- f(e, ..), f a built-in function -/
theorem pe_callB (hc : CallR X (.builtin id) r) (hg : Gl X x) (hm : X.mg x = none) (hv : bootBuiltins x = some (.builtin id)) (ha : PA X (e :: es) t) (hn : x ≠ "__name__" := by decide) (hdb : (x == ("__debug__" : Str)) = false := by decide)
    (he : starEach (e :: es) X.env = (false, eval e X.env) :: starEach es X.env := by rfl) (hpl : (backTo pos (starEach es X.env)).any (·.1) = false := by rfl) : PE X (.Call (.Name x p) (e :: es) [] pos) (tCB r t) := by
  intro pins s σ H Q I h
  refine wpAny_Call_Name_kw (ld_blt I hg hm hv ?_ hn hdb)
  exact PyProof.Rows.callWith_builtin1 (thn (ha pos pins s σ H _ I h) fun us s1 ⟨vs, H1, I1, r1, q1⟩ => hc pins s1 σ H1 vs us Q I1 r1 q1) he hpl
/-- T(e, ..), T a built-in type -/
theorem pe_callTy (hc : CallR X (.type T) r) (hg : Gl X x) (hm : X.mg x = none) (hv : bootBuiltins x = some (.type T)) (ha : PA X (e :: es) t) (hn : x ≠ "__name__" := by decide) (hdb : (x == ("__debug__" : Str)) = false := by decide)
    (he : starEach (e :: es) X.env = (false, eval e X.env) :: starEach es X.env := by rfl) (hpl : (backTo pos (starEach es X.env)).any (·.1) = false := by rfl) : PE X (.Call (.Name x p) (e :: es) [] pos) (tCB r t) := by
  intro pins s σ H Q I h
  refine wpAny_Call_Name_kw (ld_blt I hg hm hv ?_ hn hdb)
  exact PyProof.Rows.callWith_type1 (thn (ha pos pins s σ H _ I h) fun us s1 ⟨vs, H1, I1, r1, q1⟩ => hc pins s1 σ H1 vs us Q I1 r1 q1) he hpl
end
end L2

namespace HT
open PySem PyProof.Rows

section
open PySem.SeqAt
open PySem.AutoSeq1 (wpAny_loadPart')
open PySem.MeetsSeq PySem.MeetsSeq2 PySem.MeetsSeq3

end

section
variable {prog : Program} {w : World} {A : Around} {E : Value → Shared → Prop} {s : Shared}

/-- a slice's bound as a place among n (d where it is left out) -/
def sIx (n d : Nat) : Option Int → Nat
  | none => d
  | some v => if v < 0 then (v + (n : Int)).toNat else min v.toNat n
theorem sIx_nat (n d k : Nat) : sIx n d (some (k : Int)) = min k n := by
  show (if (k : Int) < 0 then ((k : Int) + (n : Int)).toNat else min (k : Int).toNat n) = min k n
  rw [if_neg (by omega), Int.toNat_natCast]
end
end HT

namespace L2
open PySem PySem.Spec PyProof.Rows

abbrev TO := St → Hp → (Option Int → Hp → Prop) → Prop
/-- a slice's part (left out, or an int) -/
def PO (X : Cx) (e : Option Expr) (t : TO) : Prop :=
  ∀ (pins : List (Addr × Obj)) (s : Shared) (σ : St) (H : Hp) (Q : Option Int → Hp → Prop), Inv X pins σ H s → t σ H Q →
    wpAny (model X.prog X.w) X.A (evalPart e X.env) (fun u s' => ∃ o H', Inv X pins σ H' s' ∧ IsPart u o ∧ Q o H') X.xe s
def tPart (t : TE) : TO := fun σ H Q => t σ H fun x H1 => ∃ i, x = .int i ∧ Q (some i) H1

section
variable {X : Cx} {e : Expr} {te : TE} {lo hi : Option Expr} {tl th : TO} {pos p2 : Pos}

theorem po_some (h : PE X e te) : PO X (some e) (tPart te) := by
  intro pins s σ H Q I hw
  rw [evalPart_some]
  refine thn (h pins s σ H _ I hw) fun u s1 ⟨x, H1, I1, r1, q1⟩ => ?_
  obtain ⟨i, rfl, q⟩ := q1
  obtain ⟨t, rfl⟩ := r1
  exact ⟨some i, H1, I1, .int i t, q⟩

/-- what a slice of a value is, by values: the slice object stands at sl -/
def SlR (X : Cx) (r : V → Option Int → Option Int → Hp → VK → Prop) : Prop :=
  ∀ (pins : List (Addr × Obj)) (s : Shared) (σ : St) (H : Hp) (x : V) (v vl vu : Value) (lo hi : Option Int) (sl : Addr) (Q : VK), Inv X pins σ H s → RelV x v → s.heap.IsSliceOf sl vl vu .none → IsPart vl lo → IsPart vu hi → r x lo hi H Q →
    ∃ T id, typeLookup (.type T) "__getitem__" = pure (some (.builtin id)) ∧ s.TypeIs v T ∧ wpAny (model X.prog X.w) X.A (getItem v (.ref sl)) (EP X pins σ Q) X.xe s
def tSl (r : V → Option Int → Option Int → Hp → VK → Prop) (te : TE) (tl th : TO) : TE := fun σ H Q => te σ H fun x H1 => tl σ H1 fun l H2 => th σ H2 fun u H3 => r x l u H3 Q
/-- a[lo:hi], any a -/
theorem pe_slice {r : V → Option Int → Option Int → Hp → VK → Prop} (hr : SlR X r) (he : PE X e te) (hl : PO X lo tl) (hu : PO X hi th) : PE X (.Subscript e (.Slice lo hi none p2) pos) (tSl r te tl th) := by
  intro pins s σ H Q I h
  refine Subscript_ (thn (he pins s σ H _ I h) fun v s1 ⟨x, H1, I1, r1, q1⟩ => ?_)
  refine wpAny_Slice (thn (hl pins s1 σ H1 _ I1 q1) fun vl s2 ⟨l, H2, I2, pl, q2⟩ => thn (hu pins s2 σ H2 _ I2 q2) fun vu s3 ⟨u, H3, I3, pu, q3⟩ => ?_)
  rw [evalPart_none]
  refine wpAny_pure ?_
  have I4 : Inv X pins σ H3 { s3 with heap := s3.heap.push { cls := .type "slice", data := .fields #[vl, vu, .none] } } := I3.kept (t' := s3.toks) fun b ob q => Heap.get?_push_of_some _ q
  obtain ⟨T, id, hT, ht, hg⟩ := hr pins { s3 with heap := s3.heap.push { cls := .type "slice", data := .fields #[vl, vu, .none] } } σ H3 x v vl vu l u s3.heap.objs.size Q I4 r1 (Heap.IsSliceOf.new ..) pl pu q3
  show wpAny (model X.prog X.w) X.A (subscriptTail e (.Slice lo hi none p2) v (.ref s3.heap.objs.size)) (EP X pins σ Q) X.xe { s3 with heap := s3.heap.push { cls := .type "slice", data := .fields #[vl, vu, .none] } }
  exact tail_any (ops := [.ref s3.heap.objs.size, v]) ht hT hg (by with_unfolding_all rfl)

/-- the items of xs[lo:hi] -/
def cutV (xs : List V) (lo hi : Option Int) : List V := (xs.drop (HT.sIx xs.length 0 lo)).take (HT.sIx xs.length xs.length hi - HT.sIx xs.length 0 lo)
theorem cutV_length (xs : List V) (lo hi : Option Int) : (cutV xs lo hi).length ≤ xs.length := by
  unfold cutV
  rw [List.length_take, List.length_drop]
  omega
end
end L2

namespace L2
open PySem PySem.Spec PyProof.Rows

/-- the place that an index of any sign means -/
def ixN (n : Nat) (i : Int) : Option Nat := if 0 ≤ i then (if i < n then some i.toNat else none) else if -(n : Int) ≤ i then some (i + n).toNat else none
def atI {α : Type} (xs : List α) (i : Int) : Option α := (ixN xs.length i).bind fun j => xs[j]?
theorem ixN_seq {n : Nat} {i : Int} {j : Nat} (h : ixN n i = some j) : seqIndex? i n = some j ∧ j < n ∧ -(n : Int) ≤ i ∧ i < n := by
  unfold ixN at h
  by_cases h0 : 0 ≤ i
  · rw [if_pos h0] at h
    by_cases h1 : i < n
    · rw [if_pos h1] at h
      have e : i.toNat = j := Option.some.inj h
      exact ⟨by rw [seqIndex_of h0 h1, e], by omega, by omega, h1⟩
    · rw [if_neg h1] at h; cases h
  · rw [if_neg h0] at h
    by_cases h1 : -(n : Int) ≤ i
    · rw [if_pos h1] at h
      have e : (i + n).toNat = j := Option.some.inj h
      exact ⟨by rw [seqIndex_neg (by omega) h1, e], by omega, h1, by omega⟩
    · rw [if_neg h1] at h; cases h
theorem atI_get {α : Type} {xs : List α} {i : Int} {v : α} (h : atI xs i = some v) : ∃ j, seqIndex? i xs.length = some j ∧ xs[j]? = some v ∧ j < xs.length ∧ -(xs.length : Int) ≤ i ∧ i < xs.length := by
  unfold atI at h
  cases e : ixN xs.length i with
  | none => rw [e] at h; cases h
  | some j =>
    rw [e] at h
    obtain ⟨h1, h2, h3, h4⟩ := ixN_seq e
    exact ⟨j, h1, h, h2, h3, h4⟩
theorem atI_nat {α : Type} {xs : List α} {j : Nat} {v : α} (h : xs[j]? = some v) : atI xs (j : Int) = some v := by
  have hj : j < xs.length := (List.getElem?_eq_some_iff.mp h).1
  have e : ixN xs.length (j : Int) = some j := by
    unfold ixN
    rw [if_pos (by omega), if_pos (by omega)]; simp
  unfold atI; rw [e]; exact h
/-- what stands as an index of a plain subscript -/
def PlainIx (b : Expr) : Prop := ∀ o i, subscripted b false o i = operate [o, i] (getItem o i)
/-- a subscript by values -/
def IxR (X : Cx) (r : R2) : Prop :=
  ∀ (value slice : Expr) (pins : List (Addr × Obj)) (s : Shared) (σ : St) (H : Hp) (x y : V) (v u : Value) (Q : VK), Inv X pins σ H s → RelV x v → RelV y u → r x y H Q →
    subscripted slice false v u = operate [v, u] (getItem v u) → wpAny (model X.prog X.w) X.A (subscriptTail value slice v u) (EP X pins σ Q) X.xe s
section
variable {X : Cx} {a b : Expr} {ta tb : TE} {pos : Pos}
/-- a[b] -/
theorem pe_ix {r : R2} (hr : IxR X r) (ha : PE X a ta) (hb : PE X b tb) (hs : PlainIx b) : PE X (.Subscript a b pos) (tOp r ta tb) := by
  intro pins s σ H Q I h
  exact Subscript_ (binT ha hb I h fun v u s2 x y H2 I2 rx ry q => hr a b pins s2 σ H2 x y v u Q I2 rx ry q (hs _ _))

def rIxL (K : PySem.W.Frag) : R2 := fun x y H Q => ∃ p xs i v, x = .ref p ∧ y = .int i ∧ SqL K H p xs ∧ atI xs i = some v ∧ Q v H
def rIxT (K : PySem.W.Frag) : R2 := fun x y H Q => ∃ p xs i v, x = .ref p ∧ y = .int i ∧ SqT K H p xs ∧ atI xs i = some v ∧ Q v H
theorem ix_list : IxR X (rIxL X.K) := by
  intro value slice pins s σ H x y v u Q I rx ry h hs
  obtain ⟨p, xs, i, z, rfl, rfl, hq, he, q⟩ := h
  cases rx
  obtain ⟨t, rfl⟩ := ry
  obtain ⟨its, r, pl, hz⟩ := I.list hq
  obtain ⟨j, h1, h2, h3, h4, h5⟩ := atI_get he
  obtain ⟨w, ew, rw'⟩ := r.get h2
  have hl := r.length
  have hn := line63
  have fin : EP X pins σ Q w s := ⟨z, H, I, rw', q⟩
  by_cases h0 : 0 ≤ i
  · have hj : i.toNat = j := by
      rw [seqIndex_of h0 h5] at h1
      exact Option.some.inj h1
    exact item_listR pl.isList h0 (by omega) (by rw [hj]; simpa using ew) fin hs
  · have hj : (i + (its.toArray.size : Int)).toNat = j := by
      rw [seqIndex_neg (by omega) h4] at h1
      rw [List.size_toArray, ← hl]
      exact Option.some.inj h1
    exact subscriptTail_builtinR (x := w) pl.isList.typeIs slot_list_getitem.lookup
      (wpAny_getItem_list_neg (Q := fun r s' => r = w ∧ EP X pins σ Q r s') pl.isList (by omega) (by rw [List.size_toArray] <;> omega) (by omega) (by rw [hj]; simpa using ew) ⟨rfl, fin⟩) hs
theorem ix_tup : IxR X (rIxT X.K) := by
  intro value slice pins s σ H x y v u Q I rx ry h hs
  obtain ⟨p, xs, i, z, rfl, rfl, hq, he, q⟩ := h
  cases rx
  obtain ⟨t, rfl⟩ := ry
  obtain ⟨its, r, pl, hz⟩ := I.tuple hq
  obtain ⟨j, h1, h2, h3, h4, h5⟩ := atI_get he
  obtain ⟨w, ew, rw'⟩ := r.get h2
  have hl := r.length
  have hn := line63
  have fin : EP X pins σ Q w s := ⟨z, H, I, rw', q⟩
  exact subscriptTail_builtinR (x := w) pl.typeIs slot_tuple_getitem.lookup
    (getItem_tuple (j := j) (Q := fun r s' => r = w ∧ EP X pins σ Q r s') pl (by omega) (by omega) (by rw [List.size_toArray, ← hl]; exact h1) (by simpa using ew) ⟨rfl, fin⟩) hs
/-- the list's object behind a store -/
theorem mapSeq_set (its : List Value) (n j : Nat) (u : Value) : Obj.mapSeq (·.setIfInBounds j u) { cls := .type "list", data := .seq its.toArray n } = { cls := .type "list", data := .seq (its.set j u).toArray n } := by
  simp [Obj.mapSeq]
theorem Inv.lst {pins : List (Addr × Obj)} {σ : St} {H : Hp} {s : Shared} {p : Addr} {xs : List V} (I : Inv X pins σ H s) (h : H p = some (.lst xs)) :
    ∃ (its : List Value) (n : Nat), Vals xs its ∧ s.heap.get? p = some { cls := .type "list", data := .seq its.toArray n } ∧ xs.length ≤ sizeLine := by
  obtain ⟨z, its, n, r, e⟩ := I.hok p _ h
  exact ⟨its, n, r, e, z⟩
/-- the list at p is written by an update of its object -/
theorem Inv.lstUpd {pins : List (Addr × Obj)} {σ : St} {H : Hp} {s : Shared} {p : Addr} {xs ys : List V} {its its' : List Value} {n n' : Nat} {f : Obj → Obj} (I : Inv X pins σ H s) (h : H p = some (.lst xs))
    (ho : s.heap.get? p = some { cls := .type "list", data := .seq its.toArray n }) (hf : f { cls := .type "list", data := .seq its.toArray n } = { cls := .type "list", data := .seq its'.toArray n' }) (r : Vals ys its') (hz : ys.length ≤ sizeLine) (t : Nat) :
    Inv X pins σ (upd H p (.lst ys)) { s with heap := s.heap.update p f, toks := t } := by
  have e : (s.heap.update p f).get? p = some { cls := .type "list", data := .seq its'.toArray n' } := by
    rw [Heap.get?_update_self f ho (by rw [hf] <;> rfl), hf]
  refine I.write (x := p) (e := p) (by rw [h]; trivial) (.inl rfl) (fun b u hb q => (Heap.get?_update_other _ _ (Ne.symm hb)).trans q) ⟨_, e⟩ ?_
  exact ⟨hz, its', n', r, e⟩
def rSetL : V → V → V → Hp → (Hp → Prop) → Prop := fun o i v H Q => ∃ p xs k j, o = .ref p ∧ i = .int k ∧ H p = some (.lst xs) ∧ ixN xs.length k = some j ∧ Q (upd H p (.lst (xs.set j v)))
theorem set_list : PSet X rSetL := by
  intro pins s σ H o i v ov iv u Q I ro ri rv h
  obtain ⟨p, xs, k, j, rfl, rfl, hp, hj, q⟩ := h
  cases ro
  obtain ⟨t, rfl⟩ := ri
  obtain ⟨its, n, r, ho, hz⟩ := I.lst hp
  obtain ⟨h1, h2, h3, h4⟩ := ixN_seq hj
  have hl := r.length
  have hn := line63
  have I' : Inv X pins σ (upd H p (.lst (xs.set j v))) { s with heap := s.heap.update p (Obj.mapSeq (·.setIfInBounds j u)) } :=
    I.lstUpd hp ho (mapSeq_set its n j u) (r.set rv j) (by rw [List.length_set]; exact hz) s.toks
  by_cases h0 : 0 ≤ k
  · have hk : k.toNat = j := by
      rw [seqIndex_of h0 h4] at h1
      exact Option.some.inj h1
    exact PySem.W.ki_setAt ho h0 (by omega) (by rw [List.size_toArray, ← hl]; exact h4) (by rw [hk]; exact ⟨_, I', q⟩)
  · have hk : (k + (its.toArray.size : Int)).toNat = j := by
      rw [seqIndex_neg (by omega) h3] at h1
      rw [List.size_toArray, ← hl]
      exact Option.some.inj h1
    exact PySem.W.ki_setBack ho (by omega) (by rw [List.size_toArray, ← hl]; exact h3) (by omega) (by rw [hk]; exact ⟨_, I', q⟩)

theorem slice_bounds (lo hi : Option Int) (n : Nat) : (sliceBounds lo hi none n).1 = ((HT.sIx n 0 lo : Nat) : Int) ∧ (sliceBounds lo hi none n).2.1 = ((HT.sIx n n hi : Nat) : Int) ∧ (sliceBounds lo hi none n).2.2 = 1 := by
  refine ⟨?_, ?_, rfl⟩
  · cases lo with
    | none => simp [sliceBounds, HT.sIx]
    | some i =>
      simp only [sliceBounds, HT.sIx, Option.getD_none, show (1 : Int) > 0 by decide, if_true]
      by_cases h : i < 0
      · simp only [h, if_true] <;> omega
      · simp only [h, if_false] <;> omega
  · cases hi with
    | none => simp [sliceBounds, HT.sIx]
    | some i =>
      simp only [sliceBounds, HT.sIx, Option.getD_none, show (1 : Int) > 0 by decide, if_true]
      by_cases h : i < 0
      · simp only [h, if_true] <;> omega
      · simp only [h, if_false] <;> omega
theorem slicePick_cut (its : List Value) (lo hi : Option Int) : slicePick its.toArray lo hi none = ((its.drop (HT.sIx its.length 0 lo)).take (HT.sIx its.length its.length hi - HT.sIx its.length 0 lo)).toArray := by
  obtain ⟨h1, h2, h3⟩ := slice_bounds lo hi its.toArray.size
  unfold slicePick
  rw [h1, h2, h3]
  simp only [sliceRange_one, pick_run, List.size_toArray] <;> rfl
/-- xs[lo:hi] of a list: a new list -/
def rSlL (K : PySem.W.Frag) : V → Option Int → Option Int → Hp → VK → Prop := fun x lo hi H Q => ∃ a xs, x = .ref a ∧ SqL K H a xs ∧ ∀ p, H p = none → Q (.ref p) (upd H p (.lst (cutV xs lo hi)))
theorem sl_list : SlR X (rSlL X.K) := by
  intro pins s σ H x v vl vu lo hi sl Q I rx hs pl pu h
  obtain ⟨a, xs, rfl, hx, q⟩ := h
  cases rx
  obtain ⟨its, r, ht, hz⟩ := I.list hx
  have hlen := r.length
  refine ⟨"list", _, slot_list_getitem.lookup, ht.isList.typeIs, ?_⟩
  refine wpAny_getItem_list_slice ht.isList hs pl pu .none (by simp) ?_ (by rw [List.size_toArray] <;> omega)
  rw [slicePick_cut, ← hlen]
  refine ⟨.ref s.heap.objs.size, _, I.laid (t' := s.toks) (o := .lst (cutV xs lo hi)) (fun b ob q => Heap.get?_push_of_some _ q) (Nat.le_refl _) ?_, rfl, q _ (I.hok.fresh (Nat.le_refl _))⟩
  exact ⟨Nat.le_trans (cutV_length xs lo hi) hz, _, 0, (r.drop (HT.sIx xs.length 0 lo)).take (HT.sIx xs.length xs.length hi - HT.sIx xs.length 0 lo), Heap.get?_push_size _ rfl⟩

theorem op_notIn_str : OpR X (compareOp .NotIn) (fun x y H Q => ∃ i j, x = .str i ∧ y = .str j ∧ Q (.bl (!(!(Builtin.Str.occurrences j i 0 j.length 1).isEmpty))) H) := by
  intro pins s σ H x y v u Q I rx ry h
  obtain ⟨i, j, rfl, rfl, q⟩ := h
  obtain ⟨t, rfl⟩ := rx
  obtain ⟨t', rfl⟩ := ry
  exact notIn_str ⟨.bl _, H, I, rfl, q⟩

theorem call_len_seq : CallR X (.builtin "len") (fun xs H Q => ∃ p ys, xs = [.ref p] ∧ (SqL X.K H p ys ∨ SqT X.K H p ys) ∧ Q (.int ys.length) H) := by
  intro pins s σ H xs us Q I r h
  obtain ⟨p, ys, rfl, hq, q⟩ := h
  obtain ⟨u, rfl, rx⟩ := vals1 r
  cases rx
  have hn := line63
  rcases hq with hq | hq
  · obtain ⟨its, r', pl, hz⟩ := I.list hq
    have hlen := r'.length
    exact Calls.call_len_list pl.isList (by simp only [List.size_toArray] <;> omega) ⟨.int ys.length, H, I.tok _, ⟨s.toks + 1, by rw [List.size_toArray, hlen]⟩, q⟩
  · obtain ⟨its, r', pl, hz⟩ := I.tuple hq
    have hlen := r'.length
    exact len_tuple pl (by simp only [List.size_toArray] <;> omega) ⟨.int ys.length, H, I.tok _, ⟨s.toks + 1, by rw [List.size_toArray, hlen]⟩, q⟩
theorem call_len_str : CallR X (.builtin "len") (fun xs H Q => ∃ z, xs = [.str z] ∧ z.length ≤ sizeLine ∧ Q (.int z.length) H) := by
  intro pins s σ H xs us Q I r h
  obtain ⟨z, rfl, hz, q⟩ := h
  obtain ⟨u, rfl, t, rfl⟩ := vals1 r
  have hn := line63
  exact len_str (by omega) ⟨.int z.length, H, I.tok _, ⟨_, rfl⟩, q⟩
theorem call_list_of : CallR X (.type "list") (fun xs H Q => ∃ p ys, xs = [.ref p] ∧ (SqL X.K H p ys ∨ SqT X.K H p ys) ∧ ∀ l, H l = none → Q (.ref l) (upd H l (.lst ys))) := by
  intro pins s σ H xs us Q I r h
  obtain ⟨p, ys, rfl, hq, q⟩ := h
  obtain ⟨u, rfl, rx⟩ := vals1 r
  cases rx
  have fin : ∀ (its : List Value), Vals ys its → ys.length ≤ sizeLine → ∀ (h' : Heap) (c' : Nat), (∀ b o', s.heap.get? b = some o' → h'.get? b = some o') →
      h'.get? s.heap.objs.size = some { cls := .type "list", dict := none, data := .seq its.toArray c', slots := #[] } → EP X pins σ Q (.ref s.heap.objs.size) { s with heap := h' } := fun its r' hz h' c' kp e =>
    ⟨.ref s.heap.objs.size, _, I.laid (t' := s.toks) kp (Nat.le_refl _) (show ObjOk X.prog X.w _ h' _ (.lst ys) from ⟨hz, its, c', r', e⟩), rfl, q _ (I.hok.fresh (Nat.le_refl _))⟩
  rcases hq with hq | hq
  · obtain ⟨its, r', pl, hz⟩ := I.list hq
    have hlen := r'.length
    obtain ⟨o, ho, hc, n, hd⟩ := pl.isList
    exact call_list_seq p (.inl rfl) ho hc hd (fun h' c' kp e => fin its r' hz h' c' kp e) (by simp only [List.size_toArray] <;> omega)
  · obtain ⟨its, r', pl, hz⟩ := I.tuple hq
    have hlen := r'.length
    obtain ⟨o, ho, hc, n, hd⟩ := pl
    exact call_list_seq p (.inr rfl) ho hc hd (fun h' c' kp e => fin its r' hz h' c' kp e) (by simp only [List.size_toArray] <;> omega)
theorem call_tuple_of : CallR X (.type "tuple") (fun xs H Q => ∃ p ys, xs = [.ref p] ∧ ((SqL X.K H p ys ∧ ∀ l, H l = none → Q (.ref l) (upd H l (.tup ys))) ∨ (SqT X.K H p ys ∧ Q (.ref p) H))) := by
  intro pins s σ H xs us Q I r h
  obtain ⟨p, ys, rfl, h⟩ := h
  obtain ⟨u, rfl, rx⟩ := vals1 r
  cases rx
  rcases h with ⟨hq, q⟩ | ⟨hq, q⟩
  · obtain ⟨its, r', pl, hz⟩ := I.list hq
    have hlen := r'.length
    refine call_tuple_list pl.isList (fun h' kp => ?_) (by simp only [List.size_toArray] <;> omega)
    have I1 : Inv X pins σ H { s with heap := h' } := I.kept (t' := s.toks) kp
    have I2 : Inv X pins σ (upd H h'.objs.size (.tup ys)) { s with heap := h'.push { cls := .type "tuple", data := .seq its.toArray } } :=
      I1.laid (t' := s.toks) (fun b o e => Heap.get?_push_of_some _ e) (Nat.le_refl _) (show ObjOk X.prog X.w _ _ _ (.tup ys) from ⟨⟨hz, _, Heap.get?_push_size _ rfl, rfl⟩, its, r', IsTup.new _ _⟩)
    exact ⟨.ref h'.objs.size, _, I2, rfl, q _ (I1.hok.fresh (Nat.le_refl _))⟩
  · obtain ⟨its, r', pl, hz⟩ := I.tuple hq
    exact call_tuple_same pl ⟨.ref p, H, I, rfl, q⟩

variable {o e : Expr} {es : List Expr} {to : TE} {t : TA} {name : Str} {apos cpos : Pos} {T id : String} {r : V → List V → Hp → VK → Prop}
end
end L2

namespace L2
open PySem PySem.Spec PyProof.Rows

def MtM (X : Cx) (id : String) (r : V → List V → Hp → VK → Prop) : Prop :=
  ∀ (pins : List (Addr × Obj)) (s : Shared) (σ : St) (H : Hp) (x : V) (xs : List V) (v : Value) (us : List Value) (Q : VK), Inv X pins σ H s → RelV x v → Vals xs us → r x xs H Q →
    wpAny (model X.prog X.w) X.A (call (.builtin id) (v :: us)) (EP X pins σ Q) X.xe s

theorem Vals.one : ∀ {x : V} {us : List Value}, Vals [x] us → ∃ u, us = [u] ∧ RelV x u
  | _, _, .cons r .nil => ⟨_, rfl, r⟩
section
variable {X : Cx} {pins : List (Addr × Obj)} {σ : St} {H : Hp} {s : Shared} {l b : Addr} {xs ys zs : List V}

theorem Inv.lset {its its' : List Value} {n : Nat} {f : Array Value → Array Value} {t' : Nat} (I : Inv X pins σ H s) (hH : H l = some (.lst xs))
    (e : s.heap.get? l = some { cls := .type "list", data := .seq its.toArray n }) (hf : f its.toArray = its'.toArray) (hv : Vals ys its') (hz : ys.length ≤ sizeLine) :
    Inv X pins σ (upd H l (.lst ys)) { s with heap := s.heap.update l (Obj.mapSeq f), toks := t' } := by
  have q := PySem.IsL.update e f
  rw [hf] at q
  refine I.write (x := l) (e := l) (by rw [hH]; exact trivial) (.inl rfl) (fun b' u hb hu => (Heap.get?_update_other s.heap (Obj.mapSeq f) (Ne.symm hb)).trans hu) ⟨_, q⟩ ?_
  exact ⟨hz, its', _, hv, q⟩
theorem Inv.lstM (I : Inv X pins σ H s) (hH : H l = some (.lst xs)) : xs.length ≤ sizeLine ∧ ∃ (its : List Value) (n : Nat), Vals xs its ∧ xs.length = its.length ∧ s.heap.get? l = some { cls := .type "list", data := .seq its.toArray n } := by
  obtain ⟨z, its, n, r, e⟩ := I.hok l _ hH
  exact ⟨z, its, n, r, r.length, e⟩

end

section
variable {X : Cx}

def rAppend : V → List V → Hp → VK → Prop := fun x vs H Q => ∃ l xs y, x = .ref l ∧ vs = [y] ∧ H l = some (.lst xs) ∧ xs.length < sizeLine ∧ Q .non (upd H l (.lst (xs ++ [y])))
theorem mt_append : MtM X "list.append" rAppend := by
  intro pins s σ H x vs v us Q I rx rv h
  obtain ⟨l, xs, y, rfl, rfl, hH, hz, q⟩ := h
  cases rx
  obtain ⟨u, rfl, ru⟩ := rv.one
  obtain ⟨z, its, n, r, hl, e⟩ := I.lstM hH
  refine call_meets F.slot_list_append ⟨_, e, rfl⟩ F.entry_list_append (F.args_list_append_2 _ _) (PySem.list_append l its.toArray n u (by rw [List.size_toArray]; omega)) ⟨e, ?_⟩
  refine ⟨.non, _, I.lset (its' := its ++ [u]) hH e (by simp) (r.append (.cons ru .nil)) ?_, rfl, q⟩
  rw [List.length_append, List.length_singleton]
  omega

end

section
variable {prog : Program} {w : World} {A : Around} {E : Value → Shared → Prop} {s : Shared}
end

section
variable {X : Cx}
end
end L2

namespace L2
open PySem PySem.Spec PyProof.Rows

section
variable {κ : Type} [DecidableEq κ]
end


theorem kV_is {P : Program} {w : World} {k : Key} {u : Value} (r : RelV (kV k) u) : (mixKind P w).is k u = true := by
  cases k with
  | inl i => obtain ⟨t, e⟩ := (show ∃ t, u = Value.int i t from r); subst e; exact mixKind_int P w i t
  | inr x => obtain ⟨t, e⟩ := (show ∃ t, u = Value.str x t from r); subst e; exact mixKind_str P w x t
section
variable {P : Program} {w : World} {H : Hp} {h : Heap} {a : Addr}
end

section
variable {X : Cx} {pins : List (Addr × Obj)} {σ : St} {H : Hp} {s : Shared} {a : Addr} {y v : V} {u r : Value} {o : Option V} {A : Around} {E : Value → Shared → Prop}

end

section
variable {X : Cx} {pins : List (Addr × Obj)} {σ : St} {H : Hp} {s : Shared} {a : Addr} {kvs : List (Key × V)} {k : Key} {u : Value} {A : Around} {E : Value → Shared → Prop}
end


/-- the element of a subscription, not a slice -/
def NoSl (i : Expr) : Prop := ∀ ov iv, subscripted i false ov iv = operate [ov, iv] (getItem ov iv)
theorem subD_of {prog : Program} {w : World} {A : Around} {E : Value → Shared → Prop} {s : Shared} {env : Env} {value slice : Expr} {pos : Pos} {T id : String} {Q : Value → Shared → Prop}
    (hl : typeLookup (.type T) "__getitem__" = pure (some (.builtin id))) (hs : NoSl slice)
    (h : wpAny (model prog w) A (eval value env) (fun o s₁ => wpAny (model prog w) A (eval slice env) (fun i s₂ => s₂.TypeIs o T ∧ wpAny (model prog w) A (getItem o i) Q E s₂) E s₁) E s) :
    wpAny (model prog w) A (eval (.Subscript value slice pos) env) Q E s := by
  refine Subscript_ (wpAny_mono h (fun o s₁ h₁ => wpAny_mono h₁ (fun i s₂ h₂ => ?_) fun _ _ x => x) fun _ _ x => x)
  obtain ⟨hT, h₂⟩ := h₂
  unfold subscriptTail
  refine wpAny_bind ?_
  rw [getitemInPython_of_ne hT.not_modules]
  refine wpAny_bind (wpAny_specialOf hT hl ?_)
  have fin : wpAny (model prog w) A (subscripted slice false o i) (fun r s₃ => wpAny (model prog w) A (letTemporaryGo value o r >>= fun _ => pure r) Q E s₃) E s₂ := by
    rw [hs o i]
    exact wpAny_operating (wpAny_mono h₂ (fun r s₃ h₃ => wpAny_bind (wpAny_letTemporaryGo (wpAny_pure h₃))) fun _ _ x => x)
  first
    | exact wpAny_pure (wpAny_bind fin)
    | exact wpAny_bind (wpAny_pure (wpAny_bind fin))
    | exact wpAny_bind fin

section
variable {X : Cx} {o i e value : Expr} {pos pos' tpos : Pos} {td ty tv : TE}
end


section
variable {X : Cx} {pos : Pos}
end

section
variable {X : Cx} {pins : List (Addr × Obj)} {σ : St} {H : Hp} {s : Shared} {a : Addr} {y d : V} {u r : Value} {o : Option V} {A : Around} {E : Value → Shared → Prop}
end

section
variable {X : Cx} {o e f : Expr} {apos cpos : Pos} {td ty tx : TE}
end

section
variable {X : Cx} {pins : List (Addr × Obj)} {σ : St} {H : Hp} {s : Shared} {a : Addr} {kvs : List (Key × V)} {A : Around} {E : Value → Shared → Prop}
end


section
variable {X : Cx} {pins : List (Addr × Obj)} {σ : St} {H : Hp} {s : Shared} {a : Addr} {y : V} {u : Value} {A : Around} {E : Value → Shared → Prop}
end
end L2

namespace Att
open PySem PySem.W PySem.Calls PyProof.Rows

theorem ints_of_wellAll {P : Params} {h : Heap} : ∀ (ns : List Int) (vs : List Value), WellAll P h vs (ns.map WData.int) → IntsAre vs ns := by
  intro ns
  induction ns with
  | nil =>
    intro vs w
    rw [List.map_nil] at w
    cases w
    exact .nil
  | cons n ns ih =>
    intro vs w
    rw [List.map_cons] at w
    cases w with
    | cons a b =>
      cases a
      exact .cons _ _ (ih _ b)

theorem script_of {l : OpenLaw} {n : Nat} (hn : l.most = some n) {P : Params} {h : Heap} {args : List WData} {vals : List Value}
    (hpre : l.row.toRowW.claim.pre args = true) (hwl : WellAll P h vals args) :
    ∃ a vs ns, vals = [Value.ref a] ∧ args = [WData.list (ns.map WData.int)] ∧ h.get? a = some { cls := .type "list", data := .seq vs.toArray } ∧ IntsAre vs ns ∧ ns.length ≤ n := by
  have hsh : WShape.hasAll [] args [.list .int] = true := (pre_splitW hpre).1
  have hc : l.pre.holds [] { args := args } = true := (pre_splitW hpre).2
  obtain ⟨d, r, rfl, h1, h2⟩ := hasAllW_cons hsh
  obtain rfl := hasAllW_nil h2
  obtain ⟨xs, rfl, h3⟩ := hasW_list h1
  obtain ⟨ns, rfl⟩ := items_int h3
  have hlen : ns.length ≤ n := by
    unfold OpenLaw.pre at hc
    have h4 : (WTm.not (.lt (.lit (.int (n : Int))) (.len (.arg 0)))).holds [] { args := [.list (ns.map .int)] } = true := by
      have h4 := (holds_andW hc).1
      rw [hn] at h4
      exact h4
    have h5 := condW_of h4 (w_not (w_lt w_lit (w_len_list (w_arg rfl))))
    rw [List.length_map] at h5
    refine Nat.le_of_not_lt fun q => ?_
    have q' : (n : Int) < ((ns.length : Nat) : Int) := by omega
    first
      | (rw [decide_eq_true q'] at h5; exact absurd h5 (by decide))
      | (simp at h5; omega)
  cases hwl with
  | cons w1 w2 =>
    cases w2
    cases w1 with
    | list ho hall => exact ⟨_, _, ns, rfl, rfl, ho, ints_of_wellAll ns _ hall, hlen⟩

theorem post_true (l : OpenLaw) (args : List WData) : l.row.toRowW.claim.post args (.bool true) args = true :=
  postW_of (r := l.row.toRowW) (X := (true == true))
    (show WShape.has [] (.bool true) .bool = true by first | rfl | decide | simp [WShape.has, WShape.arms, WShape.armsAll])
    (show (WTm.eq .res (.lit (.bool true))).value [] { args := args, res := some (.bool true), after := args } = some (.bool (true == true)) from w_eq_bool (w_res rfl) w_lit) rfl

/-- the same from a codeAny of the CALL (for a layer whose function contracts speak of calls) -/
theorem attach_call {l : OpenLaw} {n : Nat} {q : Program} {loose : List Str} {XP : (Str → Option Value) → Heap → Prop} {YP : World → Heap → Prop} {d : DefRec}
    (hn : l.most = some n) (hdf : d.params.defaults = [])
    (call : ∀ (w : World) (s₀ s₁ : Shared) (mg mb : Str → Option Value) (fa : Addr) (o : Obj) (pm cd doc : Value) (a : Addr) (vs : List Value) (ns : List Int),
      Ground q loose [] XP w s₀ mg mb s₁.heap → YP w s₁.heap →
      s₁.heap.get? fa = some o → o.data = .func (docDef d.name d.params d.body d.scope pm cd doc) → s₁.heap.CodeRec cd d.name → mg d.name = some (.ref fa) →
      s₁.heap.get? a = some { cls := .type "list", data := .seq vs.toArray } → IntsAre vs ns → ns.length ≤ n → s₁.gens = #[] →
      codeAny (model l.prog w) callerA (.call (.ref fa) ⟨[.ref a], []⟩) (fun r s' => r = .ok (.ret (.bool true)) ∧ OldK s₁.heap s'.heap ∧ s'.os = s₁.os ∧ AllBare s'.gens) s₁) :
    WalkO q loose XP YP l.row.toRowW d [] (fun f vs => PySem.call f vs) := by
  intro w s₀ s₁ mg mb G Y fa o pm cd doc dV kV ho hd hcd hD hmg hg args vals as hpre hlay hrd hwl hlo
  obtain rfl : dV = .none := Dflts.none hD hdf
  obtain rfl : kV = .none := Dflts.noKw hD
  obtain ⟨a, vs, ns, rfl, rfl, hobj, hints, hlen⟩ := script_of hn hpre hwl
  refine enter_call (codeAny_mono (call w s₀ s₁ mg mb fa o pm cd doc a vs ns G Y ho (fd_plain hd) hcd hmg hobj hints hlen hg) fun r s' hq => ?_)
  obtain ⟨rfl, h2, h3, h4⟩ := hq
  exact ⟨.inl ⟨.bool true, .bool true, [], rfl, fun _ => rfl, .bool true, post_true l _, fun _ => ⟨List.Pairwise.nil, fun _ hm => (nomatch hm)⟩⟩, h2, h3, h4⟩

section
variable {prog : Program} {w : World} {A : Around} {E : Value → Shared → Prop} {s : Shared} {K : Frag}

end
end Att

namespace L2
open PySem PySem.Spec PyProof.Rows

theorem vals_ints : ∀ {vs : List Value} {ns : List Int}, IntsAre vs ns → Vals (ns.map V.int) vs
  | _, _, .nil => .nil
  | _, _, .cons n t h => .cons ⟨t, rfl⟩ (vals_ints h)

/-- nothing is tracked but the script, known to the object (or it is an object of the module) -/
def Only (H : Hp) : Prop := ∀ b, H b = none ∨ ∃ o xs, H b = some (.frz o (.lst xs))

/-- THE HEAD: the law's promise, at the heap behind the top. F, the promise of the law's def, may use that base is part of the heap (so K.In base, base.Ns mainGlobals mg stand in Mod) -/
theorem law_call {P : Program} {w : World} {K : PySem.W.Frag} {mg mb : Str → Option Value} {CX : CXT} {k : Nat} {fa a : Addr} {fd : FuncData} {x : Str} {sp : Sp} {s₁ : Shared} {vs : List Value} {ns : List Int}
    (KX : K.In s₁.heap) (hns : s₁.heap.Ns mainGlobals mg) (hb : s₁.heap.Ns builtinsNs mb) (hbb : ∀ x : Str, x ≠ "__name__" → mb x = bootBuiltins x) (hlim : s₁.heap.NoLimit) (hg : s₁.gens = #[])
    (ha : s₁.heap.get? a = some { cls := .type "list", data := .seq vs.toArray }) (hi : IntsAre vs ns) (hl : ns.length ≤ sizeLine) (hr : Room k callerA)
    (F : ∀ base : Heap, K.In base → base.Ns mainGlobals mg → FnOk P w K mg base CX k fa fd [x] sp) (hbind : ∀ (s : Shared) (u : Value), BindsTo s fd ⟨[u], []⟩ [(x, u)])
    (hsp : ∀ H : Hp, Only H → SqL K H a (ns.map V.int) → sp [.ref a] H (fun v _ => v = .bl true) fun _ _ _ => False)
    (hCX : ∀ H e s', CX [] H s₁ (fun _ _ _ => False) e s' → False) :
    codeAny (model P w) callerA (.call (.ref fa) ⟨[.ref a], []⟩) (fun r s' => r = .ok (.ret (.bool true)) ∧ OldK s₁.heap s'.heap ∧ s'.os = s₁.os ∧ AllBare s'.gens) s₁ := by
  have rv := vals_ints hi
  have lenV := hi.length
  -- from an abstract heap in which nothing but the script may be tracked
  have core : ∀ H : Hp, Only H → SqL K H a (ns.map V.int) → HOk P w H s₁.heap → (∀ b, H b ≠ none → b = a) → (H a ≠ none → K.lookup a = none) →
      codeAny (model P w) callerA (.call (.ref fa) ⟨[.ref a], []⟩) (fun r s' => r = .ok (.ret (.bool true)) ∧ OldK s₁.heap s'.heap ∧ s'.os = s₁.os ∧ AllBare s'.gens) s₁ := by
    intro H hO hS hok hA hK
    have base_of : ∀ {b : Addr} {o : Obj}, s₁.heap.get? b = some o → H b = none → (hidT s₁.heap H).get? b = some o := fun e n => hidT_get e n
    have noA : ∀ {b : Addr} {o : Obj} {es : Array DictEntry} {ep : Nat}, s₁.heap.get? b = some o → o.data = .dict es ep → H b = none := fun {b o es ep} e d => by
      cases q : H b with
      | none => rfl
      | some u =>
        have e' : b = a := hA b (by rw [q]; simp)
        subst e'
        rw [ha] at e; cases e
        have d' : Data.seq vs.toArray _ = Data.dict es ep := d
        cases d'
    have nsK : ∀ {b : Addr} {m : Str → Option Value}, s₁.heap.Ns b m → (hidT s₁.heap H).Ns b m := fun {b m} ⟨o, es, ep, e, d, r⟩ => ⟨o, es, ep, base_of e (noA e d), d, r⟩
    have hKb : K.In (hidT s₁.heap H) := fun b o e => base_of (KX b o e) (by
      cases q : H b with
      | none => rfl
      | some u =>
        have e' : b = a := hA b (by rw [q]; simp)
        subst e'
        rw [hK (by rw [q]; simp)] at e; cases e)
    have hM : Mod K mg (hidT s₁.heap H) := ⟨hKb, nsK hns, ⟨mb, nsK hb, hbb⟩, let ⟨mc, h1, h2⟩ := hlim; ⟨mc, nsK h1, h2⟩⟩
    have e0 : Env0 P w K mg (hidT s₁.heap H) callerA [] s₁ H := ⟨rfl, hM, fun b o e => of_hidT e, Nat.le_of_eq (hidT_size _ _), trivial, fun b hb => absurd (show b ∈ ([] : List Addr) from hb) (by simp), hok, .of_eq hg⟩
    refine codeAny_mono ((F _ hKb (nsK hns)).run callerA [] s₁ H ⟨[.ref a], []⟩ [.ref a] [.ref a] _ _ hr e0 (hbind s₁ (.ref a)) (.cons rfl .nil) (hsp H hO hS)) fun r s' h => ?_
    cases r with
    | error e => exact (hCX H e s' h).elim
    | ok fl =>
      cases fl with
      | next => exact False.elim h
      | brk => exact False.elim h
      | cont => exact False.elim h
      | ret u =>
        obtain ⟨v, H', os, bare, un, hok', r', q⟩ := h
        have q' : v = .bl true := q
        subst q'
        obtain rfl : u = Value.bool true := r'
        refine ⟨rfl, OldK.of_keep fun b o e => ?_, os, bare⟩
        cases q : H b with
        | none => exact un.keep b o e q (by intro z; exact absurd (show b ∈ ([] : List Addr) from z) (by simp)) (by simp)
        | some u =>
          rcases hO b with z | ⟨ob, xs, z⟩
          · rw [q] at z; cases z
          · have z2 := un.frzs b ob _ z
            obtain ⟨e1, _⟩ := hok b _ z
            obtain ⟨e2, _⟩ := hok' b _ z2
            rw [e] at e1; cases e1
            exact e2
  cases hk : K.lookup a with
  | some o =>
    -- the script is one of the module's own objects
    have e := KX a o hk
    rw [ha] at e
    cases e
    refine core (fun _ => none) (fun _ => .inl rfl) (.inr ⟨_, vs.toArray, _, hk, rfl, rfl, rfl, by rw [List.size_toArray, lenV]; exact hl, by simpa using rv⟩) (fun b u z => by have z' : (none : Option HO) = some u := z; cases z') (fun b z => absurd rfl z) fun z => absurd rfl z
  | none =>
    refine core (fun b => if b = a then some (.frz { cls := .type "list", data := .seq vs.toArray } (.lst (ns.map V.int))) else none) (fun b => ?_) (.inl (.inr ⟨{ cls := .type "list", data := .seq vs.toArray }, if_pos rfl⟩)) (fun b u z => ?_) (fun b z => ?_) fun _ => hk
    · by_cases hb : b = a
      · exact .inr ⟨_, _, if_pos hb⟩
      · exact .inl (if_neg hb)
    · by_cases hb : b = a
      · have z' := (if_pos hb).symm.trans z
        cases z'
        subst hb
        exact ⟨ha, by rw [List.length_map]; exact hl, vs, _, rv, ha⟩
      · have z' := (if_neg hb).symm.trans z
        cases z'
    · by_cases hb : b = a
      · exact hb
      · exact absurd (if_neg hb) z
end L2

namespace L2
open PySem PySem.Spec PyProof.Rows

abbrev KOf {K : PySem.W.Frag} {h : Heap} (_ : K.In h) : PySem.W.Frag := K

/-- the goal that k_head leaves (case hc), from the law's promise. F gives the function object fd (K's own) once, then the promise over every base -/
theorem walk_of {l : PySem.W.OpenLaw} {n k : Nat} {q : Program} {loose : List Str} {XP : (Str → Option Value) → Heap → Prop} {YP : World → Heap → Prop} {d : DefRec} {K : Params → PySem.W.Frag} {CX : World → CXT} {sp : World → Sp} {x : Str}
    (hn : l.most = some n) (hn2 : n ≤ sizeLine) (hdf : d.params.defaults = []) (hr : Room k callerA)
    (hY : ∀ (w : World) (h : Heap), YP w h → (K w.params).In h)
    (F : ∀ (w : World) (mg : Str → Option Value) (fa : Addr) (h : Heap), (K w.params).In h → h.Ns mainGlobals mg → mg d.name = some (.ref fa) →
      ∃ fd : FuncData, (∀ (s : Shared) (u : Value), BindsTo s fd ⟨[u], []⟩ [(x, u)]) ∧
        ∀ base : Heap, (K w.params).In base → base.Ns mainGlobals mg → FnOk l.prog w (K w.params) mg base (CX w) k fa fd [x] (sp w))
    (hsp : ∀ (w : World) (H : Hp) (a : Addr) (ns : List Int), ns.length ≤ n → Only H → SqL (K w.params) H a (ns.map V.int) → sp w [.ref a] H (fun v _ => v = .bl true) fun _ _ _ => False)
    (hCX : ∀ (w : World) (H : Hp) (s : Shared) (e : Value) (s' : Shared), CX w [] H s (fun _ _ _ => False) e s' → False) :
    PySem.W.WalkO q loose XP YP l.row.toRowW d [] (fun f vs => PySem.call f vs) := by
  refine Att.attach_call hn hdf fun w s₀ s₁ mg mb fa o pm cd doc a vs ns G Y ho hd hcd hmg hobj hints hlen hg => ?_
  have KX := hY w _ Y
  obtain ⟨fd, hb, hF⟩ := F w mg fa _ KX G.T.g hmg
  exact law_call KX G.T.g G.T.b G.T.builtins G.T.nolimit hg hobj hints (Nat.le_trans hlen hn2) hr hF hb (fun H hO hS => hsp w H a ns hlen hO hS) fun H e s' => hCX w H s₁ e s'
end L2


namespace L2
open PySem PySem.Spec PyProof.Rows

def defArgs (s : Stmt) : Arguments := match s with
  | .FunctionDef _ a _ _ _ _ _ _ _ _ => a
  | _ => { posonlyargs := [], args := [], vararg := none, kwonlyargs := [], kw_defaults := [], kwarg := none, defaults := [] }
def defBody (s : Stmt) : List Stmt := match s with
  | .FunctionDef _ _ b _ _ _ _ _ _ _ => b
  | _ => []
def defScope (s : Stmt) : Scope := match s with
  | .FunctionDef _ _ _ _ _ _ sc _ _ _ => sc
  | _ => { kind := .function, names := [], isGenerator := false, isCoroutine := false }

abbrev CX0 : CXT := fun _ _ _ _ _ _ => False
abbrev E0 : XK := fun _ _ _ => False
theorem pass0 {X : Cx} : Passes CX0 X E0 := fun _ _ _ _ _ _ _ h => h.elim

structure Fun (K : PySem.W.Frag) (x qual : Str) (st : Stmt) (f : Addr) (fd : FuncData) : Prop where
  ex : ∃ (oc : Value) (od : Option Addr) (kV doc pm : Value) (an : Option Addr) (cdv ct : Value) (osl : Array (Option Value)),
    fd = PySem.W.fnOf x qual (defArgs st) (defBody st) (defScope st) .none kV doc pm an cdv ct ∧ K.lookup f = some ⟨oc, od, .func fd, osl⟩ ∧ PySem.W.codeIn K cdv qual = true
  kp : PySem.W.keepIn K (.ref f) = true
section
variable {P : Program} {w : World} {K : PySem.W.Frag} {mg : Str → Option Value} {base : Heap}
/-- THE RULE for a def: its body as a term of rules, and the reading of that term -/
theorem Fun.ok {x qual : Str} {st : Stmt} {f : Addr} {fd : FuncData} {N ps : List Str} {k : Nat} {sp : Sp} (F : Fun K x qual st f fd) (S : FnScope N ps (defScope st)) (len : ∀ vs H Q E, sp vs H Q E → vs.length = ps.length)
    (hbody : ∀ (cdv : Value) (A : Around) (outer : List Env) (s : Shared) (H : Hp) (vs : List V) (Q : VK) (E : XK), Room k (A.deeper (envOfC qual (defScope st) s.heap.objs.size f cdv)) → sp vs H Q E →
      ∃ t, PSs (cxOf CX0 P w K mg base N qual (defScope st) f cdv A outer s H E).nox (defBody st) t ∧ t { nx := fun _ H' => Q .non H', rt := Q } (start N vs) H) : FnOk P w K mg base CX0 (k + 1) f fd ps sp := by
  obtain ⟨oc, od, kV, doc, pm, an, cdv, ct, osl, rfl, lk, hcd⟩ := F.ex
  refine fn_of lk hcd S len fun A outer s H vs Q E hr hsp => ?_
  obtain ⟨t, h, q⟩ := hbody cdv A outer s H vs Q E hr hsp
  exact ⟨t, h.nox, q⟩
/-- how its arguments bind (no defaults): h is «fun _ _ _ _ _ _ us hl => match us, hl with | [_, _], _ => rfl», one _ a parameter -/
theorem Fun.binds {x qual : Str} {st : Stmt} {f : Addr} {fd : FuncData} {ps : List Str} (F : Fun K x qual st f fd)
    (h : ∀ (kV doc pm : Value) (an : Option Addr) (cdv ct : Value) (us : List Value), us.length = ps.length → bindArgs (PySem.W.fnOf x qual (defArgs st) (defBody st) (defScope st) .none kV doc pm an cdv ct) ⟨us, []⟩ = pure (ps.zip us)) : Binds K fd ps [] := by
  obtain ⟨oc, od, kV, doc, pm, an, cdv, ct, osl, rfl, lk, hcd⟩ := F.ex
  exact .all (h kV doc pm an cdv ct)
theorem fun_mk {x qual : Str} {st : Stmt} {f : Addr} {oc : Value} {od an : Option Addr} {osl : Array (Option Value)} {kV doc pm cdv ct : Value} (l : K.lookup f = some ⟨oc, od, .func (PySem.W.fnOf x qual (defArgs st) (defBody st) (defScope st) .none kV doc pm an cdv ct), osl⟩)
    (c : PySem.W.codeIn K cdv qual = true) (k : PySem.W.keepIn K (.ref f) = true) : Fun K x qual st f (PySem.W.fnOf x qual (defArgs st) (defBody st) (defScope st) .none kV doc pm an cdv ct) := ⟨⟨oc, od, kV, doc, pm, an, cdv, ct, osl, rfl, l, c⟩, k⟩
end
theorem small1000 {n : Nat} (h : n ≤ 1000) : n < sizeLine := Nat.lt_of_le_of_lt h (by decide)

section
variable {X : Cx}
theorem pv (i : Nat) {x : Str} {pos : Pos} (hN : X.N[i]? = some x := by rfl) (hv : Vis X.env.scope x := by first | exact Or.inl rfl | exact Or.inr (Or.inl rfl) | exact Or.inr (Or.inr rfl)) (hd : (x == ("__debug__" : Str)) = false := by decide)
    (hcd : (x == ("__classdict__" : Str)) = false := by decide) : PE X (.Name x pos) (tVar i) := pe_var hN hv hd hcd
end

theorem iteF {A B : Prop} (h : B) : if false = true then A else B := by
  rw [if_neg Bool.false_ne_true]
  exact h
theorem iteT {A B : Prop} (h : A) : if true = true then A else B := by
  rw [if_pos rfl]
  exact h
theorem ite2 {c A B : Prop} [Decidable c] (h1 : c → A) (h2 : ¬ c → B) : if c then A else B := by
  by_cases h : c
  · rw [if_pos h]
    exact h1 h
  · rw [if_neg h]
    exact h2 h
/-- all that was tracked is as it was -/
def Same (H H' : Hp) : Prop := ∀ b o, H b = some o → H' b = some o
theorem Same.refl (H : Hp) : Same H H := fun _ _ h => h
theorem Same.trans {H H1 H2 : Hp} (a : Same H H1) (b : Same H1 H2) : Same H H2 := fun c o h => b c o (a c o h)
theorem Same.free {H H' : Hp} (e : Same H H') {l : Addr} (h : H' l = Option.none) : H l = Option.none := by
  cases q : H l with
  | none => rfl
  | some o =>
    rw [e l o q] at h
    cases h
theorem Same.seq {K : PySem.W.Frag} {H H' : Hp} {a : Addr} {xs : List V} (e : Same H H') (h : SqL K H a xs) : SqL K H' a xs := by
  rcases h with (h | ⟨o, h⟩) | h
  · exact .inl (.inl (e _ _ h))
  · exact .inl (.inr ⟨o, e _ _ h⟩)
  · exact .inr h

end L2

namespace L2
open PySem PySem.Spec PyProof.Rows
section
variable {X : Cx}
end
section
variable {κ : Type} [DecidableEq κ]
end
end L2
namespace L2
open PySem PySem.Spec PyProof.Rows

theorem comp_turn {prog : Program} {w : World} {A : Around} {R : Result → Shared → Prop} {s : Shared} {elt target iter : Expr} {scope : Scope} {pos : Pos} {it acc : Value} {env : Env} (I : Nat → Shared → Prop)
    (turn : ∀ n s, I n s → wpAny (model prog w) A (pyNext it) (fun r s₁ => match r with
      | none => R (.ok .next) s₁
      | some v => wpAny (model prog w) A (letOwnedTupleGo target it v) (fun _ s₀ => wpAny (model prog w) A (assign target env v) (fun _ s₂ =>
          wpAny (model prog w) A (eval elt env) (fun x s₄ =>
              wpAny (model prog w) A (call (.builtin "list.append") [acc, x]) (fun _ s₅ => ∃ m, m < n ∧ I m s₅) (notedBy (model prog w) A env fun e s' => R (.error e) s') s₄) (notedBy (model prog w) A env fun e s' => R (.error e) s') s₂)
          (notedBy (model prog w) A env fun e s' => R (.error e) s') s₀) (notedBy (model prog w) A env fun e s' => R (.error e) s') s₁) (notedBy (model prog w) A env fun e s' => R (.error e) s') s)
    (n : Nat) (h : I n s) :
    codeAny (model prog w) A (.compLoop (.ListComp elt [⟨target, iter, [], 0⟩] scope pos) 0 it acc env) R s := by
  refine codeAny_loop rfl I (fun n s hI => ?_) n h
  show wpAny _ A ((compTurn (.ListComp elt [⟨target, iter, [], 0⟩] scope pos) 0 it acc env).onRaise (fun x => do noteFrame x env; theTreesLotGoes x)) _ _ s
  refine wpAny_noted ?_
  rw [compTurn_list]
  refine wpAny_bind (wpAny_standAt (wpAny_bind (wpAny_mono (turn n s hI) (fun r s₁ h₁ => ?_) fun _ _ h' => h')))
  cases r with
  | none => exact wpAny_pure h₁
  | some v =>
    refine wpAny_bind (wpAny_mono h₁ (fun _ s₀ h₀ => ?_) fun _ _ h' => h')
    refine wpAny_bind (wpAny_mono h₀ (fun _ s₂ h₂ => wpAny_bind (wpAny_tests_nil ?_)) fun _ _ h' => h')
    exact wpAny_bind (wpAny_bind (wpAny_mono h₂ (fun x s₄ h₄ => wpAny_bind (wpAny_mono h₄ (fun _ s₅ h₅ => wpAny_pure (wpAny_pure ⟨rfl, h₅⟩)) fun _ _ h' => h')) fun _ _ h' => h'))

theorem closureFor_is {env : Env} : ∀ (names : List (Str × NameKind)) (cs : List (Str × Addr)), (∀ y ∈ names, y.2 = .free → ∃ c, env.cells.lookup y.1 = some c) → (∀ x c, cs.lookup x = some c → env.cells.lookup x = some c) →
    ∃ cl, (forIn names cs (fun (x : Str × NameKind) (r : List (Str × Addr)) => if (x.2 == NameKind.free) = true then do let c ← cellOf env x.1; pure (ForInStep.yield ((x.1, c) :: r)) else pure (ForInStep.yield r)) : Sem (List (Str × Addr))) = pure cl ∧
      (∀ x c, cl.lookup x = some c → env.cells.lookup x = some c) ∧ (∀ x c, cs.lookup x = some c → cl.lookup x = some c) ∧ ∀ y ∈ names, y.2 = .free → ∃ c, cl.lookup y.1 = some c
  | [], cs, _, hcs => ⟨cs, by simp, hcs, fun _ _ h => h, fun y hy => nomatch hy⟩
  | (n, k) :: r, cs, h, hcs => by
    by_cases hk : k = .free
    · subst hk
      obtain ⟨c, hc⟩ := h (n, .free) List.mem_cons_self rfl
      have hcs' : ∀ x d, ((n, c) :: cs).lookup x = some d → env.cells.lookup x = some d := fun x d e => by
        rw [List.lookup_cons] at e
        split at e
        · rename_i q
          have q' : x = n := by simpa using q
          cases e; rw [q']; exact hc
        · exact hcs x d e
      obtain ⟨cl, e, h1, h2, h3⟩ := closureFor_is r ((n, c) :: cs) (fun y hy => h y (List.mem_cons_of_mem _ hy)) hcs'
      refine ⟨cl, ?_, h1, fun x d hd => ?_, fun y hy hy2 => ?_⟩
      · rw [List.forIn_cons]
        simp only [cellOf, hc, beq_self_eq_true, if_true, pure_bind]
        exact e
      · refine h2 x d ?_
        rw [List.lookup_cons]
        split
        · rename_i q
          have q' : x = n := by simpa using q
          have := hcs x d hd
          rw [q', hc] at this
          exact this
        · exact hd
      · rcases List.mem_cons.mp hy with rfl | hy
        · exact ⟨c, h2 n c (by simp [List.lookup_cons])⟩
        · exact h3 y hy hy2
    · obtain ⟨cl, e, h1, h2, h3⟩ := closureFor_is r cs (fun y hy => h y (List.mem_cons_of_mem _ hy)) hcs
      refine ⟨cl, ?_, h1, h2, fun y hy hy2 => ?_⟩
      · have hk' : (k == NameKind.free) = false := by simpa using hk
        rw [List.forIn_cons]
        simp only [hk', Bool.false_eq_true, if_false, pure_bind]
        exact e
      · rcases List.mem_cons.mp hy with rfl | hy
        · exact absurd hy2 hk
        · exact h3 y hy hy2
theorem closureFor_eq (scope : Scope) (env : Env) : closureFor scope env = (forIn scope.names [] (fun (x : Str × NameKind) (r : List (Str × Addr)) => if (x.2 == NameKind.free) = true then do let c ← cellOf env x.1; pure (ForInStep.yield ((x.1, c) :: r)) else pure (ForInStep.yield r)) : Sem (List (Str × Addr))) := by
  unfold closureFor
  simp
theorem lookup_relabel_free {env : Env} (hk : env.scope.kind = .function) : ∀ {names : List (Str × NameKind)} {x : Str}, names.lookup x = some .free → env.kindOf x = some .cell →
    (names.map fun (n, k) => if (k == NameKind.free && env.scope.kind == .function && env.kindOf n == some .cell) then (n, NameKind.cell) else (n, k)).lookup x = some .cell
  | [], _, h, _ => by simp at h
  | (n, k) :: r, x, h, hc => by
    have ih := @lookup_relabel_free env hk r x
    show List.lookup x ((if (k == NameKind.free && env.scope.kind == .function && env.kindOf n == some .cell) = true then (n, NameKind.cell) else (n, k)) :: _) = _
    cases hx : x == n with
    | true =>
      simp only [List.lookup_cons, hx] at h
      cases h
      have e : x = n := by simpa using hx
      subst e
      simp [List.lookup_cons, hk, hc]
    | false =>
      simp only [List.lookup_cons, hx] at h
      by_cases hc' : (k == NameKind.free && env.scope.kind == .function && env.kindOf n == some .cell) = true
      · rw [if_pos hc']; simp only [List.lookup_cons, hx]; exact ih h hc
      · rw [if_neg hc']; simp only [List.lookup_cons, hx]; exact ih h hc
/-- a name that is a cell or free in the block was free -/
theorem relabel_was {env : Env} : ∀ {names : List (Str × NameKind)} {x : Str}, (∀ y ∈ names, y.2 ≠ .cell) →
    ((names.map fun (n, k) => if (k == NameKind.free && env.scope.kind == .function && env.kindOf n == some .cell) then (n, NameKind.cell) else (n, k)).lookup x = some .cell ∨
     (names.map fun (n, k) => if (k == NameKind.free && env.scope.kind == .function && env.kindOf n == some .cell) then (n, NameKind.cell) else (n, k)).lookup x = some .free) → (x, NameKind.free) ∈ names
  | [], _, _, h => by simp at h
  | (n, k) :: r, x, hn, h => by
    have ih := @relabel_was env r x fun y hy => hn y (List.mem_cons_of_mem _ hy)
    have hk : k ≠ .cell := hn (n, k) List.mem_cons_self
    cases hx : x == n with
    | true =>
      have e : x = n := by simpa using hx
      subst e
      by_cases hf : k = .free
      · subst hf; exact List.mem_cons_self
      · have hf' : ¬ (k == NameKind.free && env.scope.kind == .function && env.kindOf x == some .cell) = true := by simp [hf]
        simp only [List.map_cons, if_neg hf', List.lookup_cons, beq_self_eq_true] at h
        rcases h with h | h
        · exact absurd (Option.some.inj h) hk
        · exact absurd (Option.some.inj h) hf
    | false =>
      refine List.mem_cons_of_mem _ (ih ?_)
      by_cases hc' : (k == NameKind.free && env.scope.kind == .function && env.kindOf n == some .cell) = true
      · simpa only [List.map_cons, if_pos hc', List.lookup_cons, hx] using h
      · simpa only [List.map_cons, if_neg hc', List.lookup_cons, hx] using h

def blk (X : Cx) (sc : Scope) (cl : List (Str × Addr)) (C : Addr) (N' : List Str) (s₂ : Shared) (H₁ : Hp) (fp : List Addr) (pins : List (Addr × Obj)) : Cx where
  prog := X.prog
  w := X.w
  K := X.K
  mg := X.mg
  base := X.base
  A := X.A
  N := N'
  s₀ := s₂
  H₀ := H₁
  env := compEnvC sc cl C X.env
  outer := X.stack
  stack := X.stack
  ex := fp
  fn := fun _ => false
  calm := X.calm
  pn := X.pn ++ pins
  xe := fun _ _ => False

/-- N, names: the slots and names around; N': the block's slots, k of its own, then those at pull of N (caught) -/
structure BScope (N : List Str) (names : List (Str × NameKind)) (N' : List Str) (k : Nat) (pull : List Nat) (sc : Scope) : Prop where
  kind : sc.kind = .function
  nocell : ∀ y ∈ sc.names, y.2 ≠ .cell
  loc : ∀ y ∈ sc.names, y.2 = .local → sc.names.lookup y.1 = some .local
  len : N'.length = k + pull.length
  cap : ∀ i ∈ List.range pull.length, N'[k + i]? = N[pull.getD i 0]? ∧ ∀ x ∈ (N'[k + i]?).toList, sc.names.lookup x = some .free
  fre : ∀ y ∈ sc.names, y.2 = .free → names.lookup y.1 = some .cell

def bst (k : Nat) (pull : List Nat) (σ : St) : St := List.replicate k none ++ pull.map fun j => σ.getD j none

theorem HOk.but {P : Program} {w : World} {H : Hp} {h h' : Heap} {C : Addr} (x : HOk P w H h) (hn : H C = none) (k : ∀ b o, b ≠ C → h.get? b = some o → h'.get? b = some o) : HOk P w H h' := fun b u e => by
  have nit : ∀ b u, H b = some u → b ≠ C := fun b u e z => by rw [z, hn] at e; cases e
  refine (x b u e).stay (fun c v hc q => k c v ?_ q) (fun _ q => q) fun _ _ q => q
  rcases hc with z | z
  · rw [z]; exact nit b u e
  · exact nit c _ z

def tComp (wi : TI) (k : Nat) (pull : List Nat) (g : TG) (te : TE) : TE := fun σ H Q => wi σ H fun J H1 => ∀ d, H1 d = none →
  ∃ W : Nat → Nat → St → Hp → Prop, (∃ m, W 0 m (bst k pull σ) (upd H1 d (.lst []))) ∧ ∀ i m σ' H', W i m σ' H' →
    (J.stop i H' ∧ Q (.ref d) H') ∨
    (J.go i H' ∧ ∀ x H2, J.yld i H' x H2 → g x σ' H2 fun σ3 H3 => te σ3 H3 fun y H4 => ∃ xs, H4 d = some (.lst xs) ∧ xs.length < sizeLine ∧ ∃ m', m' < m ∧ W (i + 1) m' σ3 (upd H4 d (.lst (xs ++ [y]))))

section
variable {X : Cx} {elt tg iter : Expr} {sc : Scope} {pos : Pos} {wi : TI} {g : TG} {te : TE} {N : List Str} {names : List (Str × NameKind)} {N' : List Str} {k : Nat} {pull : List Nat}

theorem blk_start {pins : List (Addr × Obj)} {σ : St} {H1 : Hp} {s2 : Shared} {fp : List Addr} {cl : List (Str × Addr)} {h₁ : Heap} {tk : Nat} (B : BScope N names N' k pull sc) (hN : X.N = N) (hnm : X.env.scope.names = names)
    (I2 : Inv X pins σ H1 s2) (f2 : ∀ b ∈ fp, FpOk X pins H1 b) (ho : ∀ b ∈ fp, ∃ o, s2.heap.get? b = some o)
    (c1 : ∀ x c, cl.lookup x = some c → X.env.cells.lookup x = some c) (c3 : ∀ y ∈ sc.names, y.2 = .free → ∃ c, cl.lookup y.1 = some c)
    (hns : h₁.Ns (s2.heap.objs.size + 1) (fun x => ([] : List (Str × Value)).reverse.lookup x))
    (hk : ∀ b o, s2.heap.get? b = some o → h₁.get? b = some o) (hd : h₁.get? s2.heap.objs.size = some { cls := .type "list", data := .seq ([] : List Value).toArray }) :
    Inv (blk X sc cl (s2.heap.objs.size + 1) N' s2 H1 fp pins) [] (bst k pull σ) (upd H1 s2.heap.objs.size (.lst [])) { s2 with heap := h₁, toks := tk } := by
  have hfd : H1 s2.heap.objs.size = none := I2.hok.fresh (Nat.le_refl _)
  have hfC : (upd H1 s2.heap.objs.size (.lst [])) (s2.heap.objs.size + 1) = none := by
    rw [upd_ne (Nat.succ_ne_self _)]; exact I2.hok.fresh (Nat.le_succ _)
  have hlook : ∀ x, (compEnvC sc cl (s2.heap.objs.size + 1) X.env).kindOf x = some .cell ∨ (compEnvC sc cl (s2.heap.objs.size + 1) X.env).kindOf x = some .free → (x, NameKind.free) ∈ sc.names := fun x hx =>
    relabel_was (env := X.env) B.nocell hx
  have cellKind : ∀ y ∈ sc.names, y.2 = .free → X.env.kindOf y.1 = some .cell := fun y hy hf => by
    show X.env.scope.names.lookup y.1 = _
    rw [hnm]; exact B.fre y hy hf
  refine ⟨⟨I2.ok.mod, B.kind, I2.ok.glob, I2.ok.blt, Nat.le_succ _, fun x y c e1 e2 => I2.ok.inj x y c (c1 x c e1) (c1 y c e2), fun x hx => c3 _ (hlook x hx) rfl, (fun x c h _ => nomatch h), I2.ok.hd, I2.ok.frames, .inl rfl, fun b hb => ⟨?_, fun x c e => ?_⟩, I2.bs, Nat.le_trans I2.ok.bsz I2.sz, fun b o e hb => ?_, fun b hb hs => ?_, I2.stack, I2.stkFree⟩,
    rfl, I2.bare, Un.laid hk (Nat.le_refl _) hfd, ⟨_, hns, fun i x v e1 e2 e3 => ?_⟩, fun x c e => ?_, hfC, fun x c e => ?_, fun p hp => ?_, I2.hok.laid hk (Nat.le_refl _) ⟨Nat.zero_le _, [], 0, .nil, hd⟩, ?_⟩
  · obtain ⟨o, e⟩ := ho b hb
    exact Nat.ne_of_lt (Nat.lt_succ_of_lt (Heap.lt_size e))
  · exact (f2 b hb).2.2.2.2.1 x c (c1 x c e)
  · rcases (f2 b hb).2.2.2.1 with z | z
    · exact I2.ok.noex b o e z
    · exact absurd (Nat.lt_of_lt_of_le (Heap.lt_size e) (Nat.le_trans I2.ok.bsz z)) (Nat.lt_irrefl _)
  · rcases List.mem_cons.mp (I2.stkSub b hs) with z | z
    · exact (f2 b hb).2.1 z
    · exact (f2 b hb).2.2.1 z
  · -- a slot that is set is a caught name
    have e2 : (bst k pull σ)[i]? = some (some v) := e2
    unfold bst at e2
    by_cases hi : i < k
    · rw [List.getElem?_append_left (by simpa using hi), List.getElem?_replicate, if_pos hi] at e2
      cases e2
    · rw [List.getElem?_append_right (by simpa using hi), List.length_replicate, List.getElem?_map] at e2
      cases ej : pull[i - k]? with
      | none => rw [ej] at e2; cases e2
      | some j =>
        rw [ej] at e2
        have e2 : σ.getD j none = some v := Option.some.inj e2
        have hj : σ[j]? = some (some v) := by
          rw [List.getD_eq_getElem?_getD] at e2
          cases q : σ[j]? with
          | none => rw [q] at e2; cases e2
          | some z => rw [q] at e2; simpa using e2
        have hil : i - k < pull.length := (List.getElem?_eq_some_iff.mp ej).1
        obtain ⟨q1, q2⟩ := B.cap (i - k) (List.mem_range.mpr hil)
        have ei : k + (i - k) = i := by omega
        have ep : pull.getD (i - k) 0 = j := by rw [List.getD_eq_getElem?_getD, ej]; rfl
        have e1 : N'[i]? = some x := e1
        rw [ei, ep, e1] at q1
        rw [ei, e1] at q2
        have hf := q2 x (by simp)
        have hmem := PySem.mem_of_lookup hf
        have hc := cellKind (x, .free) hmem rfl
        obtain ⟨m, hn, hl⟩ := I2.loc
        obtain ⟨u, r, l⟩ := hl j x v (by rw [hN]; exact q1.symm) hj (.inr (.inl hc))
        refine ⟨u, r, .inr ⟨.inl (lookup_relabel_free I2.ok.kind hf hc), ?_⟩⟩
        rcases l with ⟨hloc, _⟩ | ⟨_, c, ec, hcell⟩
        · rw [hc] at hloc; cases hloc
        · obtain ⟨c', ec'⟩ := c3 (x, .free) hmem rfl
          have := c1 x c' ec'
          rw [ec] at this
          cases this
          obtain ⟨o, h1, h2⟩ := hcell
          exact ⟨c, ec', o, hk c o h1, h2⟩
  · obtain ⟨v, o, h1, h2⟩ := I2.cell x c (c1 x c e)
    exact ⟨v, o, hk c o h1, h2⟩
  · obtain ⟨v, o, h1, h2⟩ := I2.cell x c (c1 x c e)
    rw [upd_ne (Nat.ne_of_lt (Heap.lt_size h1))]
    exact I2.freeC x c (c1 x c e)
  · have hp : p ∈ X.pn ++ pins := by simpa [blk] using hp
    obtain ⟨a1, a2, a3, a4, a5⟩ := I2.pin p hp
    have hlt := Heap.lt_size a1
    refine ⟨hk _ _ a1, by rw [upd_ne (Nat.ne_of_lt hlt)]; exact a2, ?_, fun hs => ?_, a5⟩
    · exact Nat.ne_of_lt (Nat.lt_succ_of_lt hlt)
    · rcases List.mem_cons.mp (I2.stkSub p.1 hs) with z | z
      · exact a3 z
      · exact a4 z
  · show (bst k pull σ).length = N'.length
    unfold bst
    rw [List.length_append, List.length_replicate, List.length_map, B.len]

theorem pe_comp (hc : X.calm = true) (B : BScope N names N' k pull sc) (hN : X.N = N) (hnm : X.env.scope.names = names) (hi : PI X tg iter wi)
    (hg : ∀ cl C s₂ H₁ fp pins, PG (blk X sc cl C N' s₂ H₁ fp pins) tg g) (he : ∀ cl C s₂ H₁ fp pins, PE (blk X sc cl C N' s₂ H₁ fp pins) elt te)
    (hs : ∀ x, foldedSetIterable iter X.env x = pure x := by intro _; rfl) : PE X (.ListComp elt [⟨tg, iter, [], 0⟩] sc pos) (tComp wi k pull g te) := by
  intro pins s σ H Q I h
  rw [eval_ListComp]
  have hcells : ∀ y ∈ sc.names, y.2 = .free → ∃ c, X.env.cells.lookup y.1 = some c := fun y hy hf => I.ok.has y.1 (.inl (by
    show X.env.scope.names.lookup y.1 = _
    rw [hnm]; exact B.fre y hy hf))
  obtain ⟨cl, ecl, c1, _, c3⟩ := closureFor_is (env := X.env) sc.names [] hcells (fun x c e => nomatch e)
  rw [← closureFor_eq] at ecl
  refine wpAny_comprehension_free (use := none) rfl hs ecl B.kind B.loc (thn (hi pins s σ H _ I h) fun xv s1 h1 => thn h1 fun itv s2 h2 => ?_)
  obtain ⟨it, fp, tn, J, H1, e, I2, T, st2, f2, hW⟩ := h2
  subst e
  have ho : ∀ b ∈ fp, ∃ o, s2.heap.get? b = some o := fun b hb => let ⟨o, e, _⟩ := T.obj _ _ st2 b hb; ⟨o, e⟩
  refine wpAny_newObj_type (wpAny_newFunctionEnv B.nocell (by intro y hy; simp at hy) (fun h₁ hns₁ hsb₁ => ?_) B.kind)
  dsimp only at hns₁ hsb₁ ⊢
  rw [Heap.size_push] at hns₁ hsb₁ ⊢
  have old : ∀ b o, s2.heap.get? b = some o → h₁.get? b = some o := fun b o e => by
    have hlt := Heap.lt_size e
    exact (hsb₁.2 b (Nat.ne_of_lt (Nat.lt_succ_of_lt hlt))).trans (Heap.get?_push_of_some _ (Heap.get?_push_of_some _ e))
  have hd : h₁.get? s2.heap.objs.size = some { cls := .type "list", data := .seq ([] : List Value).toArray } :=
    (hsb₁.2 _ (Nat.ne_of_lt (Nat.lt_succ_self _))).trans (Heap.get?_push_of_some _ (Heap.get?_push_size _ rfl))
  have I4 := blk_start (tk := s2.toks + ([] : List (Str × Value)).length) B hN hnm I2 f2 ho c1 c3 hns₁ old hd
  have st4 : tn 0 h₁ := T.keep _ _ _ st2 fun b _ o e => old b o e
  obtain ⟨W, ⟨m0, w0⟩, turn⟩ := hW s2.heap.objs.size (I2.hok.fresh (Nat.le_refl _))
  have fr4 : ∀ b ∈ fp, (upd H1 s2.heap.objs.size (.lst [])) b = none := fun b hb => by
    obtain ⟨o, e⟩ := ho b hb
    rw [upd_ne (Nat.ne_of_lt (Heap.lt_size e))]
    exact (f2 b hb).1
  -- what stays true of the iterator's objects
  have stat : ∀ {H' : Hp}, (∀ b ∈ fp, H' b = none) → ∀ b ∈ fp, FpOk (blk X sc cl (s2.heap.objs.size + 1) N' s2 H1 fp pins) [] H' b := fun hn b hb => by
    refine ⟨hn b hb, (I4.ok.exf b hb).1, I4.ok.exfs b hb, .inl hb, (I4.ok.exf b hb).2, fun p hp => ?_⟩
    have hp : p ∈ X.pn ++ pins := by simpa [blk] using hp
    exact (f2 b hb).2.2.2.2.2 p hp
  have loop : ∀ s₃ : Shared, s₃ = { s2 with heap := h₁, toks := s2.toks + ([] : List (Str × Value)).length } →
      codeAny (model X.prog X.w) X.A (.compLoop (.ListComp elt [⟨tg, iter, [], 0⟩] sc pos) 0 (.ref it) (.ref s2.heap.objs.size) (compEnvC sc cl (s2.heap.objs.size + 1) X.env))
        (compPost (model X.prog X.w) X.A X.xe none (EP X pins σ Q) (.ref s2.heap.objs.size) (s2.heap.objs.size + 1)) s₃ := by
    rintro s₃ rfl
    refine comp_turn (fun n s' => ∃ i σ' H', Inv (blk X sc cl (s2.heap.objs.size + 1) N' s2 H1 fp pins) [] σ' H' s' ∧ tn i s'.heap ∧ (∀ b ∈ fp, H' b = none) ∧ W i n σ' H') ?_ m0 ⟨0, _, _, I4, st4, fr4, w0⟩
    rintro n s3 ⟨i, σ3, H3, I3, st3, fr3, w3⟩
    rcases turn i n σ3 H3 w3 with ⟨stop, q⟩ | ⟨go, step⟩
    · refine thn (T.done (blk X sc cl (s2.heap.objs.size + 1) N' s2 H1 fp pins) rfl rfl rfl hc i [] s3 σ3 H3 _ I3 (stat fr3) st3 stop) fun r s4 ⟨hr, I5⟩ => ?_
      subst hr
      obtain ⟨m, hn, _⟩ := id I5.loc
      refine ⟨m, hn, fun h' hs' => ?_⟩
      have ne : ∀ b o, s2.heap.get? b = some o → b ≠ s2.heap.objs.size + 1 := fun b o e => Nat.ne_of_lt (Nat.lt_succ_of_lt (Heap.lt_size e))
      have U : Un (frs X.stack) fp H1 H3 s2.heap s4.heap := I5.base
      have U' : Un (frs X.stack) fp H1 H3 s2.heap h' := ⟨fun b o e n hb hx => (hs'.2 b (ne b o e)).trans (U.keep b o e n hb hx), fun b o e n hb hx => by
          obtain ⟨sl, z⟩ := U.slot b o e n hb hx
          exact ⟨sl, (hs'.2 b (ne b o e)).trans z⟩, U.free, fun b o e hx => by
          obtain ⟨o', z⟩ := U.there b o e hx
          exact ⟨o', (hs'.2 b (ne b o e)).trans z⟩, U.tups, U.frzs, U.tbls⟩
      have hok : HOk X.prog X.w H3 h' := HOk.but (C := s2.heap.objs.size + 1) I5.hok I5.free fun b o hb e => (hs'.2 b hb).trans e
      refine ⟨.ref s2.heap.objs.size, H3, I2.call' (s' := { s4 with heap := h' }) I5.os U' hok I5.bare fun b hb => ?_, rfl, q⟩
      exact ⟨(f2 b hb).2.2.2.1, (f2 b hb).2.1, (f2 b hb).2.2.2.2.1, (f2 b hb).2.2.2.2.2⟩
    · refine thn (T.item (blk X sc cl (s2.heap.objs.size + 1) N' s2 H1 fp pins) rfl rfl rfl hc i [] s3 σ3 H3 _ I3 (stat fr3) st3 go) fun r s4 ⟨u, hr, h4⟩ => ?_
      subst hr
      refine thn h4 fun _ s5 ⟨x, H5, I5, r5, y5, st5, fr5⟩ => ?_
      have I5' := I5.pinned (stat fr5) (T.obj _ _ st5)
      refine wpAny_mono (hg _ _ _ _ _ _ _ s5 σ3 H5 x u _ I5' r5 (step x H5 y5)) (fun _ s6 ⟨σ6, H6, I6, q6⟩ => ?_) fun _ _ z => z.elim
      refine wpAny_mono (he _ _ _ _ _ _ _ s6 σ6 H6 _ I6 q6) (fun y s7 ⟨z, H7, I7, r7, xs, hx7, hz7, m', hm, w7⟩ => ?_) fun _ _ z => z.elim
      refine wpAny_mono (mt_append (X := blk X sc cl (s2.heap.objs.size + 1) N' s2 H1 fp pins) _ s7 σ6 H7 (.ref s2.heap.objs.size) [z] (.ref s2.heap.objs.size) [y] (fun _ H8 => H8 = upd H7 s2.heap.objs.size (.lst (xs ++ [z]))) I7 rfl (.cons r7 .nil) ⟨_, xs, z, rfl, rfl, hx7, hz7, rfl⟩) (fun _ s8 ⟨_, H8, I8, _, e8⟩ => ?_) fun _ _ z => z.elim
      subst e8
      refine ⟨m', hm, i + 1, σ6, _, I8.unpinned, T.keep _ _ _ st5 fun b hb o e => (I8.pin (b, o) (List.mem_append_right _ (List.mem_append_right _ (mem_pinsAt hb e)))).1, fun b hb => ?_, w7⟩
      obtain ⟨o, e, _⟩ := T.obj _ _ st5 b hb
      exact (I8.pin (b, o) (List.mem_append_right _ (List.mem_append_right _ (mem_pinsAt hb e)))).2.1
  exact codeAny_compStart_list (loop _ rfl) (T.self _ 0 _ _ _ st4 (loop _ rfl))
end
end L2
namespace L2
open PySem
open AutoSeq1 (wpAny_loadPart')
section
variable {prog : Program} {w : World} {A : Around} {E : Value → Shared → Prop} {s : Shared}
end
end L2
namespace L2
open PySem PySem.Spec PyProof.Rows

section
variable {X : Cx}
theorem call_isinst : CallR X (.builtin "isinstance") (fun xs H Q => ∃ x c t b, xs = [x, .ty c] ∧ TyOf X.K H x t ∧ PySem.W.kitOne X.K t (.type c) = some b ∧ Q (.bl b) H) := by
  intro pins s σ H xs us Q I r h
  obtain ⟨x, c, t, b, rfl, ty, e, q⟩ := h
  obtain ⟨u, w', rfl, ru, rc⟩ := vals2 r
  obtain rfl : w' = Value.type c := rc
  exact isinst_ok I ru ty e fun tk => ⟨.bl b, H, I.tok _, rfl, q⟩
end
theorem kit_int_int (K : PySem.W.Frag) : PySem.W.kitOne K (.type "int") (.type "int") = some true := by kernel_rfl
theorem kit_int_bool (K : PySem.W.Frag) : PySem.W.kitOne K (.type "int") (.type "bool") = some false := by kernel_rfl
theorem kit_tup_tup (K : PySem.W.Frag) : PySem.W.kitOne K (.type "tuple") (.type "tuple") = some true := by kernel_rfl
mutual
inductive Dt (K : PySem.W.Frag) (H : Hp) : V → PyData → Prop
  | non : Dt K H .non .none
  | bl (b : Bool) : Dt K H (.bl b) (.bool b)
  | int (i : Int) : Dt K H (.int i) (.int i)
  | str (x : Str) : Dt K H (.str x) (.str x)
  | lst {a : Addr} {xs : List V} {ds : List PyData} : SqL K H a xs → DtAll K H xs ds → Dt K H (.ref a) (.list ds)
  | tup {a : Addr} {xs : List V} {ds : List PyData} : SqT K H a xs → DtAll K H xs ds → Dt K H (.ref a) (.tuple ds)
inductive DtAll (K : PySem.W.Frag) (H : Hp) : List V → List PyData → Prop
  | nil : DtAll K H [] []
  | cons {x : V} {d : PyData} {xs : List V} {ds : List PyData} : Dt K H x d → DtAll K H xs ds → DtAll K H (x :: xs) (d :: ds)
end
section
variable {X : Cx} {pins : List (Addr × Obj)} {σ : St} {H : Hp} {s : Shared}
mutual
theorem Dt.reads (I : Inv X pins σ H s) : ∀ {x : V} {d : PyData} {u : Value}, Dt X.K H x d → RelV x u → ∃ as, Reads s.heap u d as
  | _, _, _, .non, r => by obtain rfl := (show _ = Value.none from r); exact ⟨_, .none⟩
  | _, _, _, .bl b, r => by obtain rfl := (show _ = Value.bool b from r); exact ⟨_, .bool b⟩
  | _, _, _, .int i, r => by obtain ⟨t, rfl⟩ := r; exact ⟨_, .int i t⟩
  | _, _, _, .str x, r => by obtain ⟨t, rfl⟩ := r; exact ⟨_, .str x t⟩
  | _, _, _, @Dt.lst _ _ a xs ds hq ha, r => by
    obtain rfl := (show _ = Value.ref a from r)
    obtain ⟨its, rv, ⟨o, n, h1, h2, h3, h4⟩, hz⟩ := I.list hq
    obtain ⟨as, ra⟩ := DtAll.reads I ha rv
    exact ⟨_, .list h1 h2 h4 (by simpa using ra)⟩
  | _, _, _, @Dt.tup _ _ a xs ds hq ha, r => by
    obtain rfl := (show _ = Value.ref a from r)
    obtain ⟨its, rv, ⟨o, h1, h2, n, h3⟩, hz⟩ := I.tuple hq
    obtain ⟨as, ra⟩ := DtAll.reads I ha rv
    exact ⟨_, .tuple h1 h2 h3 (by simpa using ra)⟩
theorem DtAll.reads (I : Inv X pins σ H s) : ∀ {xs : List V} {ds : List PyData} {us : List Value}, DtAll X.K H xs ds → Vals xs us → ∃ as, ReadsAll s.heap us ds as
  | _, _, _, .nil, r => by cases r; exact ⟨_, .nil⟩
  | _, _, _, .cons h t, r => by
    cases r with
    | cons r rr =>
      obtain ⟨a1, h1⟩ := Dt.reads I h r
      obtain ⟨a2, h2⟩ := DtAll.reads I t rr
      exact ⟨_, .cons h1 h2⟩
end
def rEqD (K : PySem.W.Frag) (A : Around) (neg : Bool) : R2 := fun x y H Q => ∃ d e, Dt K H x d ∧ Dt K H y e ∧ d.canLay0 = true ∧ e.canLay0 = true ∧ A.units + min d.depth e.depth < cLine ∧ Q (.bl (if neg then !PyData.eqv d e else PyData.eqv d e)) H
theorem op_neD : OpR X (compareOp .NotEq) (rEqD X.K X.A true) := by
  intro pins s σ H x y v u Q I rx ry h
  obtain ⟨d, e, hd, he, c1, c2, hu, q⟩ := h
  obtain ⟨as, ra⟩ := Dt.reads I hd rx
  obtain ⟨bs, rb⟩ := Dt.reads I he ry
  exact SeqAt.compareNe_reads ra rb c1 c2 hu ⟨.bl _, H, I, rfl, q⟩
end
end L2
namespace L2
open PySem PySem.Spec PyProof.Rows
section
variable {prog : Program} {w : World} {A : Around} {E : Value → Shared → Prop} {s : Shared}
end
end L2
namespace L2
open PySem PySem.Spec PyProof.Rows
section
variable {prog : Program} {w : World} {A : Around} {E : Value → Shared → Prop} {s : Shared}
end
end L2
namespace L2
open PySem PySem.Spec PyProof.Rows
section
variable {prog : Program} {w : World} {A : Around} {E : Value → Shared → Prop} {s : Shared}
end
end L2
namespace L2
open PySem PySem.Spec PyProof.Rows

section
variable {X : Cx} {pins : List (Addr × Obj)} {σ : St} {H : Hp} {s : Shared}
end

section
variable {X : Cx} {elts : List Expr} {k : Nat} {tpos : Pos}
end
end L2
namespace L2
open PySem PySem.Spec PyProof.Rows

section
variable {X : Cx} {elts : List Expr} {k : Nat} {tpos : Pos}
end

section
variable {X : Cx}
theorem call_all_bools (hc : X.calm = true) : CallR X (.builtin "all") (fun xs H Q => ∃ (p : Addr) (bs : List Bool), xs = [.ref p] ∧ SqL X.K H p (bs.map V.bl) ∧ Q (.bl (bs.all id)) H) := by
  intro pins s σ H xs us Q I r h
  obtain ⟨p, bs, rfl, hq, q⟩ := h
  obtain ⟨u, rfl, ru⟩ := vals1 r
  obtain rfl : u = Value.ref p := ru
  obtain ⟨its, rv, pl, hz⟩ := I.list hq
  have hL := pl.isList
  have hlt : p < s.heap.objs.size := by obtain ⟨o, ho, _⟩ := id hL; exact Heap.lt_size ho
  have hlen : its.length = bs.length := by rw [← rv.length]; simp
  refine call_all_walkS (wpAny_pyIter_list hL ⟨s.heap.objs.size, _, _, _, its.toArray.size, _, _, fun i => bs.getD i true, rfl, (Walks.list (A := X.A.in1) (I.ok.hd hc) s.heap.objs.size p (Nat.ne_of_lt hlt) its.toArray).toS, ⟨⟨_, Heap.get?_push_size _ rfl, rfl, rfl⟩, hL.push _⟩, ?_, fun s' hm => ?_⟩)
  · intro i v s2 Q2 E2 hP hQ
    have hv : its[i]? = some v := by simpa using hP
    have hi : i < bs.length := by rw [← hlen]; exact (List.getElem?_eq_some_iff.mp hv).1
    have hb : (bs.map V.bl)[i]? = some (.bl bs[i]) := by simp [hi]
    obtain ⟨u, hu, ru⟩ := rv.get hb
    rw [hv] at hu; cases hu
    obtain rfl : v = Value.bool bs[i] := ru
    have e : bs.getD i true = bs[i] := by simp [List.getD_eq_getElem?_getD, hi]
    simp only [e] at hQ
    exact wpAny_truthy_bool hQ
  · rw [Moved.eq_with hm]
    refine ⟨.bl _, H, I.kept (h' := s'.heap) (t' := s'.toks) fun b o e => hm.heap b o (fun z => ?_) (Heap.get?_push_of_some _ e), rfl, ?_⟩
    · exact absurd (Heap.lt_size e) (by rw [List.mem_singleton.mp z]; exact Nat.lt_irrefl _)
    · have e : (List.range its.toArray.size).all (fun i => bs.getD i true) = bs.all id := by
        have : its.toArray.size = bs.length := by simpa using hlen
        rw [this]
        apply Bool.eq_iff_iff.mpr
        simp only [List.all_eq_true, List.mem_range, id]
        constructor
        · intro h b hb
          obtain ⟨i, hi, rfl⟩ := List.mem_iff_getElem.mp hb
          have := h i hi
          simpa [List.getD_eq_getElem?_getD, hi] using this
        · intro h i hi
          have := h bs[i] (List.getElem_mem hi)
          simpa [List.getD_eq_getElem?_getD, hi] using this
      rw [e]; exact q
end
end L2
namespace L2
open PySem PySem.Spec PyProof.Rows
/-- behind an element of a comprehension: n in all, ys the list that comes -/
def CPost (n : Nat) (ys : List V) (Pv : Nat → St → Hp → Prop) (d : Addr) (i : Nat) (σ3 : St) (y : V) (H4 : Hp) : Prop :=
  ∃ xs, H4 d = some (.lst xs) ∧ xs.length < sizeLine ∧ ∃ m', m' < n - i ∧ m' = n - (i + 1) ∧ i + 1 ≤ n ∧ Pv (i + 1) σ3 (upd H4 d (.lst (xs ++ [y]))) ∧ (upd H4 d (.lst (xs ++ [y]))) d = some (.lst (ys.take (i + 1)))
theorem cpost {n : Nat} {ys : List V} {Pv : Nat → St → Hp → Prop} {d : Addr} {i : Nat} {σ3 : St} {y : V} {H4 : Hp} (hi : i < n) (hn : n ≤ 1000) (hd : H4 d = some (.lst (ys.take i))) (hy : ys[i]? = some y) (hp : Pv (i + 1) σ3 (upd H4 d (.lst (ys.take (i + 1))))) :
    CPost n ys Pv d i σ3 y H4 := by
  have e : ys.take (i + 1) = ys.take i ++ [y] := by rw [List.take_add_one, hy]; rfl
  refine ⟨_, hd, ?_, n - (i + 1), by omega, rfl, hi, by rw [← e]; exact hp, by rw [upd_same, e]⟩
  have : (ys.take i).length ≤ i := by rw [List.length_take]; exact Nat.min_le_left _ _
  exact small1000 (by omega)
theorem comp_by {J : It} {g : TG} {te : TE} {d : Addr} {σ0 : St} {H1 : Hp} {Q : Addr → Hp → Prop} (n : Nat) (ys : List V) (hy : ys.length = n) (Pv : Nat → St → Hp → Prop) (h0 : Pv 0 σ0 (upd H1 d (.lst [])))
    (go : ∀ i σ H, i < n → Pv i σ H → H d = some (.lst (ys.take i)) → J.go i H ∧ ∀ x H2, J.yld i H x H2 → g x σ H2 fun σ3 H3 => te σ3 H3 fun y H4 => CPost n ys Pv d i σ3 y H4)
    (stop : ∀ σ H, Pv n σ H → H d = some (.lst ys) → J.stop n H ∧ Q d H) :
    ∃ W : Nat → Nat → St → Hp → Prop, (∃ m, W 0 m σ0 (upd H1 d (.lst []))) ∧ ∀ i m σ' H', W i m σ' H' →
      (J.stop i H' ∧ Q d H') ∨ (J.go i H' ∧ ∀ x H2, J.yld i H' x H2 → g x σ' H2 fun σ3 H3 => te σ3 H3 fun y H4 => ∃ xs, H4 d = some (.lst xs) ∧ xs.length < sizeLine ∧ ∃ m', m' < m ∧ W (i + 1) m' σ3 (upd H4 d (.lst (xs ++ [y])))) := by
  refine ⟨fun i m σ H => m = n - i ∧ i ≤ n ∧ Pv i σ H ∧ H d = some (.lst (ys.take i)), ⟨n, by simp, Nat.zero_le _, h0, upd_same⟩, ?_⟩
  rintro i m σ H ⟨rfl, hi, p, hd⟩
  by_cases hlt : i < n
  · exact .inr (go i σ H hlt p hd)
  · have e : i = n := by omega
    subst e
    rw [List.take_of_length_le (by omega)] at hd
    exact .inl (stop σ H p hd)
end L2
namespace Sq

section
variable {n : Nat} {r : List Nat}
end

end Sq
namespace Sq
variable {n : Nat} {r u : List Nat} {first : Nat} {F : List Nat} {P : List (List Nat)} {k j : Nat}
end Sq
namespace K1
open PySem L2
def top (i : Nat) : Stmt := PySem.Challenge.pw_squaresheet_k53_word_of.main.body.getD i (.Pass ⟨0, 0, 0, 0⟩)
abbrev sIsWhole : Stmt := top 4
abbrev sProduct : Stmt := top 8
abbrev sBackTable : Stmt := top 9
abbrev sWordOf : Stmt := top 10
abbrev sNeedTable : Stmt := top 11
abbrev sIsTable : Stmt := top 12
abbrev sShears : Stmt := top 13
abbrev sLCellAt : Stmt := top 15
abbrev sLTimes : Stmt := top 16
abbrev sLTableOf : Stmt := top 17
abbrev sStep : Stmt := top 18
abbrev sLMost : Stmt := top 19
abbrev sRefused : Stmt := top 20
abbrev sLaw : Stmt := top 21
end K1
namespace K1
open PySem L2 Sq
/-- the builtins' names are not taken by the text -/
structure Bi (mg : Str → Option Value) : Prop where
  len : mg "len" = none
  range : mg "range" = none
  list : mg "list" = none
  tuple : mg "tuple" = none
  isin : mg "isinstance" = none
  int : mg "int" = none
  bool : mg "bool" = none
  all : mg "all" = none
  set : mg "set" = none
  sorted : mg "sorted" = none
  enum : mg "enumerate" = none
/-- a def of the text -/
structure Fn (K : PySem.W.Frag) (mg : Str → Option Value) (x : Str) (st : Stmt) (ps : List Str) (f : Addr) (fd : FuncData) : Prop where
  F : Fun K x x st f fd
  b : Binds K fd ps []
  m : mg x = some (.ref f)

def spWhole : Sp := fun vs H Q _ => ∃ i : Int, vs = [.int i] ∧ Q (.bl true) H
theorem boot_isin : bootBuiltins "isinstance" = some (.builtin "isinstance") := by decide +kernel
theorem boot_int : bootBuiltins "int" = some (.type "int") := by decide +kernel
theorem boot_bool : bootBuiltins "bool" = some (.type "bool") := by decide +kernel
theorem boot_tuple : bootBuiltins "tuple" = some (.type "tuple") := by decide +kernel
theorem boot_list : bootBuiltins "list" = some (.type "list") := by decide +kernel
theorem boot_all : bootBuiltins "all" = some (.builtin "all") := by decide +kernel
theorem same_upd {H H' : Hp} {l : Addr} {o : HO} (e : Same H H') (h : H l = none) : Same H (upd H' l o) := fun b u q => by
  rw [upd_ne (ne_of_none q h)]; exact e b u q
end K1
namespace K1
open PySem L2 Sq
section
variable {P : Program} {w : World} {K : PySem.W.Frag} {mg : Str → Option Value} {base : Heap}
theorem scIsWh : FnScope ["thing"] ["thing"] (defScope sIsWhole) := ⟨rfl, rfl, rfl, by decide +kernel, rfl, by decide +kernel, by decide +kernel⟩
theorem ok_isWh {f : Addr} {fd : FuncData} (T : Bi mg) (F : Fn K mg "is_whole" sIsWhole ["thing"] f fd) : FnOk P w K mg base CX0 1 f fd ["thing"] spWhole := by
  refine F.F.ok scIsWh (fun vs H Q E h => ?_) (fun cdv A outer s H vs Q E hr h => ?_)
  · obtain ⟨i, rfl, _⟩ := h; rfl
  · obtain ⟨i, rfl, k⟩ := h
    refine ⟨_, pss_one (ps_ret (pe_and (pe_callB call_isinst (by rfl) T.isin boot_isin (pa_cons (pv 0) (pa_cons (pe_bltn (v := .ty "int") (by rfl) T.int boot_int rfl) pa_nil)))
      (pe_one (pe_not (pe_callB call_isinst (by rfl) T.isin boot_isin (pa_cons (pv 0) (pa_cons (pe_bltn (v := .ty "bool") (by rfl) T.bool boot_bool rfl) pa_nil))))))), ?_⟩
    refine ⟨_, rfl, _, _, _, _, rfl, .int i, kit_int_int K, _, rfl, ?_⟩
    refine iteT ?_
    exact ⟨_, rfl, _, _, _, _, rfl, .int i, kit_int_bool K, _, rfl, k⟩
end
end K1
namespace L2
open PySem PySem.Spec PyProof.Rows
section
variable {X : Cx} {o i value : Expr} {pos pos' : Pos} {to ti tv : TE}
end
end L2
namespace K1
open PySem L2 Sq
theorem all_rep (n : Nat) : (List.replicate n true).all id = true := by
  rw [List.all_eq_true]
  intro x hx
  rw [(List.mem_replicate.mp hx).2]; rfl
end K1
namespace L2
open PySem PySem.Spec PyProof.Rows
/-- the signs of a text, one by one -/
def Its (z : Str) : It := ⟨fun i _ => i < z.length, fun i H x H' => H' = H ∧ ∃ c, z.cps[i]? = some c ∧ x = .str ⟨#[c]⟩, fun i _ => z.length = i⟩
theorem turn_str {P : Program} {w : World} {K : PySem.W.Frag} {tg : Expr} (it : Addr) (z : Str) (t : Tok) : Turn P w K tg (Its z) [it] it (fun i h => h.IsStrIter it (strIterType z) z t i) := by
  have W : ∀ {A : Around}, A.handled = none → Walks P w A it [it] [it] z.cps.size (SignAt z) (fun i h => h.IsStrIter it (strIterType z) z t i) := by
    intro A hh
    unfold strIterType
    split
    · exact Walks.strAscii hh it z t
    · exact Walks.strWide hh it z t
  have hty : ["enumerate", "zip", "dict_itemiterator", "dict_reverseitemiterator", "odict_iterator", "itertools.zip_longest", "itertools.pairwise"].contains (strIterType z) = false := by
    unfold strIterType; split <;> decide
  exact {
    mem := by simp
    obj := fun i h st b hb => by
      have e : b = it := by simpa using hb
      subst e
      obtain ⟨o, e, c, d⟩ := st
      exact ⟨o, e, fun v z => by rw [d] at z; cases z⟩
    keep := fun i h h' st k => let ⟨o, ho, r⟩ := st; ⟨o, k it (by simp) o ho, r⟩
    item := by
      intro X hP hw hK hc i pins s σ H E I hf st hg
      subst hP hw hK
      obtain ⟨f0, f1, f2, f3, f4, f5⟩ := hf it (by simp)
      refine (W (I.ok.hd hc)).item i s _ _ hg st fun v h' tk hv st' kk => ?_
      obtain ⟨c, u, hc', rfl⟩ := hv
      have I1 : Inv X pins σ H { s with heap := h', toks := tk } := I.turned (fun b o hb e => kk b o (by simpa using hb) e) f0 f1 f3 f4 f5
      obtain ⟨o, e, c1, d⟩ := id st'
      exact ⟨_, rfl, go_of (s := { s with heap := h', toks := tk }) e c1 d hty ⟨.str ⟨#[c]⟩, H, I1, ⟨_, rfl⟩, ⟨rfl, c, hc', rfl⟩, st', fun b hb => (hf b hb).1⟩⟩
    done := by
      intro X hP hw hK hc i pins s σ H E I hf st hg
      subst hP hw hK
      obtain ⟨f0, f1, f2, f3, f4, f5⟩ := hf it (by simp)
      have hg : z.cps.size = i := hg
      subst hg
      exact (W (I.ok.hd hc)).done s _ _ st fun h' tk kk => ⟨rfl, I.turned (fun b o hb e => kk b o (by simpa using hb) e) f0 f1 f3 f4 f5⟩
    self := fun A i s Q E st h => by
      obtain ⟨o, e, c, d⟩ := id st
      unfold strIterType at st
      split at st
      · exact wpAny_pyIter_striter_ascii st h
      · exact wpAny_pyIter_striter_wide st h }
section
variable {X : Cx} {tg : Expr}
def iStr (tl : TE) : TI := fun σ H R => tl σ H fun x H1 => ∃ z, x = .str z ∧ R (Its z) H1
theorem pi_str {l : Expr} {tl : TE} (hl : PE X l tl) : PI X tg l (iStr tl) := by
  intro pins s σ H R I h
  refine thn (hl pins s σ H _ I h) fun v s1 ⟨x, H1, I1, r1, q1⟩ => ?_
  obtain ⟨z, e, q⟩ := q1
  subst e
  obtain ⟨t, rfl⟩ := r1
  refine wpAny_pyIter_strU ?_
  refine ⟨s1.heap.objs.size, [s1.heap.objs.size], _, _, H1, rfl, I1.kept (t' := s1.toks) fun b o e => Heap.get?_push_of_some _ e, turn_str _ z t, ⟨_, Heap.get?_push_size _ rfl, rfl, rfl⟩, fun b hb => ?_, q⟩
  have e : b = s1.heap.objs.size := by simpa using hb
  subst e
  exact I1.fpOk (Nat.le_refl _) (I1.hok.fresh (Nat.le_refl _))
/-- over the signs of a text -/
theorem for_str {z : Str} {g : TG} {tb : TS} {D : Ends} {σ : St} {H : Hp} (Pv : Nat → St → Hp → Prop) (h0 : Pv 0 σ H)
    (hs : ∀ i c σ H, z.cps[i]? = some c → Pv i σ H → g (.str ⟨#[c]⟩) σ H fun σ2 H2 => tb { D with nx := Pv (i + 1), ct := Pv (i + 1), bk := D.nx } σ2 H2) (hd : ∀ σ H, Pv z.length σ H → D.nx σ H) :
    ∃ W : Nat → Nat → St → Hp → Prop, (∃ m, W 0 m σ H) ∧ ∀ i m σ H, W i m σ H →
      ((Its z).stop i H ∧ D.nx σ H) ∨ ((Its z).go i H ∧ ∃ N : St → Hp → Prop, (∀ σ' H', N σ' H' → ∃ m', m' < m ∧ W (i + 1) m' σ' H') ∧ ∀ x H', (Its z).yld i H x H' → g x σ H' fun σ2 H2 => tb { D with nx := N, ct := N, bk := D.nx } σ2 H2) := by
  refine ⟨fun i m σ H => m = z.length - i ∧ i ≤ z.length ∧ Pv i σ H, ⟨z.length, by simp, Nat.zero_le _, h0⟩, ?_⟩
  rintro i m σ H ⟨rfl, hi, hp⟩
  rcases Nat.lt_or_ge i z.length with c | c
  · refine .inr ⟨c, Pv (i + 1), fun σ' H' q => ⟨z.length - (i + 1), by omega, rfl, c, q⟩, ?_⟩
    rintro x H' ⟨rfl, ch, hc, rfl⟩
    exact hs i ch σ _ hc hp
  · have e : i = z.length := Nat.le_antisymm hi c
    subst e
    exact .inl ⟨rfl, hd σ H hp⟩
/-- {e}, e a whole number -/
def tFmtI (te : TE) : TE := fun σ H Q => te σ H fun x H1 => ∃ i : Int, x = .int i ∧ i.natAbs.log2 < 1920 ∧ Q (.str (toString i)) H1
theorem pe_fmtI {e : Expr} {te : TE} {pos : Pos} (he : PE X e te) : PE X (.FormattedValue e (-1) none pos) (tFmtI te) := by
  intro pins s σ H Q I h
  refine wpAny_FormattedValue_plain (thn (he pins s σ H _ I h) fun v s1 ⟨x, H1, I1, r1, i, e, hz, q⟩ => ?_)
  subst e
  obtain ⟨t, rfl⟩ := r1
  exact wpAny_formatField_int hz ⟨.str (toString i), H1, I1.tok _, ⟨_, rfl⟩, q⟩
/-- the parts of an f-string, from the left -/
def tParts : List TE → Str → TE
  | [], acc => fun _ H Q => Q (.str acc) H
  | t :: ts, acc => fun σ H Q => t σ H fun x H1 => ∃ y, x = .str y ∧ (acc ++ y).length ≤ sizeLine ∧ tParts ts (acc ++ y) σ H1 Q
inductive PParts (X : Cx) : List Expr → List TE → Prop
  | nil : PParts X [] []
  | cons {e : Expr} {t : TE} {es : List Expr} {ts : List TE} : PE X e t → PParts X es ts → PParts X (e :: es) (t :: ts)
theorem evalEach_map (env : Env) : ∀ es : List Expr, evalEach es env = es.map fun e => eval e env
  | [] => rfl
  | e :: es => by
    show eval e env :: evalEach es env = _
    rw [evalEach_map env es]; rfl
theorem joins_of {pins : List (Addr × Obj)} : ∀ {es : List Expr} {ts : List TE} {acc : Str} {s : Shared} {σ : St} {H : Hp} {Q : VK}, PParts X es ts → Inv X pins σ H s → acc.length ≤ sizeLine → tParts ts acc σ H Q →
    Joins (model X.prog X.w) X.A X.xe (es.map fun e => eval e X.env) acc (fun out s₁ => out.length ≤ sizeLine ∧ EP X pins σ Q (.str out s₁.toks) { s₁ with toks := s₁.toks + 1 }) s
  | [], _, acc, s, σ, H, Q, .nil, I, hz, h => ⟨hz, .str acc, H, I.tok _, ⟨_, rfl⟩, h⟩
  | e :: es, _, acc, s, σ, H, Q, .cons h1 hr, I, hz, h => by
    refine thn (h1 pins s σ H _ I h) fun v s1 ⟨x, H1, I1, r1, y, ex, hy, q⟩ => ?_
    subst ex
    obtain ⟨t, rfl⟩ := r1
    exact ⟨y, t, rfl, hy, joins_of hr I1 hy q⟩
theorem pe_fstr {e1 e2 : Expr} {es : List Expr} {ts : List TE} {pos : Pos} (h : PParts X (e1 :: e2 :: es) ts) : PE X (.JoinedStr (e1 :: e2 :: es) pos) (tParts ts Str.empty) := by
  intro pins s σ H Q I hw
  refine wpAny_JoinedStr ?_
  rw [evalEach_map]
  exact joins_of h I (by decide) hw
end
end L2
namespace L2
open PySem PySem.Spec PyProof.Rows
/-- e: an exception of the class C with the dict d; B: what stays whatever the flight does; told: it has a traceback, whose flight mark is fl -/
def ExAt (B : Heap) (e : Addr) (C : Value) (d : Option Addr) (h : Heap) : Prop :=
  ∃ oe vs, h.get? e = some oe ∧ oe.cls = C ∧ oe.dict = d ∧ oe.data = .fields vs ∧ vs[2]? = some .none ∧ (vs[1]? = some .none ∨ ∃ T oT ts fl, vs[1]? = some (.ref T) ∧ B.get? T = none ∧ T ≠ e ∧ h.get? T = some oT ∧ oT.data = .fields ts ∧ ts[3]? = some fl)
def ExOn (B : Heap) (e : Addr) (C : Value) (d : Option Addr) (fl : Value) (h : Heap) : Prop :=
  ∃ oe vs T oT ts, h.get? e = some oe ∧ oe.cls = C ∧ oe.dict = d ∧ (oe.data = .fields vs ∧ vs[2]? = some .none) ∧ vs[1]? = some (.ref T) ∧ B.get? T = none ∧ T ≠ e ∧ h.get? T = some oT ∧ oT.data = .fields ts ∧ ts[3]? = some fl
theorem ExOn.at {B h : Heap} {e : Addr} {C fl : Value} {d : Option Addr} (x : ExOn B e C d fl h) : ExAt B e C d h := by
  obtain ⟨oe, vs, T, oT, ts, h1, h2, h3, h4, h5, h6, h7, h8, h9, h10⟩ := x
  exact ⟨oe, vs, h1, h2, h3, h4.1, h4.2, .inr ⟨T, oT, ts, fl, h5, h6, h7, h8, h9, h10⟩⟩
/-- what a station asks and gives -/
structure Air (B : Heap) (l : List Env) (e : Addr) (h : Heap) : Prop where
  stays : B.StaysIn h
  new : B.get? e = none
  frames : h.FunFrames B l
section
variable {M : Model} {A : Around} {E : Value → Shared → Prop} {s : Shared}
theorem dict_mapFields (o : Obj) (f : Array Value → Array Value) : (o.mapFields f).dict = o.dict := by
  obtain ⟨c, d, dt, sl⟩ := o
  cases dt <;> rfl
/-- an entry of the traceback is laid -/
theorem air_entry {B : Heap} {env : Env} {outer : List Env} {L e : Addr} {oe : Obj} {vs : Array Value} {head : Value} {had : Bool} {Q : Unit → Shared → Prop}
    (fr : A.frames = some (env :: outer)) (fl : env.frame = some L) (a : Air B (env :: outer) e s.heap) (he : s.heap.get? e = some oe) (hd : oe.data = .fields vs) (hcx : vs[2]? = some .none)
    (q : ∀ h', Air B (env :: outer) e h' → ExOn B e oe.cls oe.dict (rawInt L) h' → s.heap.UpToSlots h' → Q () { s with heap := h' }) :
    wpAny M A (do let f ← frameOf env; let pl ← entryPlaceOf L had; let b ← EntryCells.newEntry head f .none (rawInt L) .none pl; setField (.ref e) 1 b) Q E s := by
  have hz2 : 2 < vs.size := (Array.getElem?_eq_some_iff.mp hcx).1
  have hz : 1 < vs.size := by omega
  have nfr : e ∉ (env :: outer).filterMap (·.frame) := fun z => by
    obtain ⟨_, o, ho, hn⟩ := a.frames.mem z
    rw [he] at ho
    cases ho
    exact hn vs hd
  refine wpAny_bind (wpAny_frameOf_fun fr a.frames fl fun h1 so => ?_)
  refine wpAny_bind (wpAny_entryPlaceOf fun pl hpl => ?_)
  unfold EntryCells.newEntry newFields
  refine wpAny_bind (wpAny_newObj_type ?_ (hpl.sizeOk5 _ _ _ _ _))
  have he1 : h1.get? e = some oe := by rw [so.2.1 e nfr]; exact he
  have st1 : B.StaysIn h1 := fun b o hb => by
    rw [so.2.1 b fun z => by rw [(a.frames.mem z).1] at hb; cases hb]
    exact a.stays b o hb
  generalize hrec : ({ cls := .type "traceback", dict := none, data := .fields ([head, .ref L, .none, rawInt L, .none] ++ (if pl.isEmpty then List.replicate 6 Value.none else pl)).toArray } : Obj) = rec
  have rdat : ∃ ts : Array Value, rec.data = .fields ts ∧ ts[3]? = some (rawInt L) := by
    refine ⟨([head, .ref L, .none, rawInt L, .none] ++ (if pl.isEmpty then List.replicate 6 Value.none else pl)).toArray, by rw [← hrec], ?_⟩
    simp
  obtain ⟨ts, rd, r3⟩ := rdat
  have he2 := Heap.get?_push_of_some (h := h1) rec he1
  refine wpAny_setField he2 hd hz ?_
  have nT : h1.objs.size ≠ e := Nat.ne_of_gt (Heap.lt_size he1)
  have dat3 := Obj.data_mapFields hd (·.setIfInBounds 1 (Value.ref h1.objs.size))
  have he3 := Heap.get?_update_self (Obj.mapFields (·.setIfInBounds 1 (Value.ref h1.objs.size))) he2 (Obj.isFreed_of_fields dat3)
  have rnf : rec.isFreed = false := Obj.isFreed_of_fields rd
  have hT3 : ((h1.push rec).update e (Obj.mapFields (·.setIfInBounds 1 (Value.ref h1.objs.size)))).get? h1.objs.size = some rec := by
    rw [Heap.get?_update_other _ _ (Ne.symm nT)]; exact Heap.get?_push_size h1 rnf
  have keep : ∀ b o, b ≠ e → h1.get? b = some o → ((h1.push rec).update e (Obj.mapFields (·.setIfInBounds 1 (Value.ref h1.objs.size)))).get? b = some o := fun b o nb hb => by
    rw [Heap.get?_update_other _ _ (Ne.symm nb)]; exact Heap.get?_push_of_some _ hb
  have nrec : ∀ b o, s.heap.get? b = some o → (∀ ws, o.data ≠ .fields ws) → b ≠ e := fun b o hb hn z => by
    rw [z, he] at hb
    cases hb
    exact hn vs hd
  refine q _ ⟨fun b o hb => keep b o (fun z => by rw [z, a.new] at hb; cases hb) (st1 b o hb), a.new, a.frames.of_keeps fun b o hb hn => ?_⟩ ?_ fun b o hb hn => ?_
  · obtain ⟨sl, e1⟩ := so.2.2 b o hb
    exact ⟨_, keep b _ (nrec b o hb hn) e1, rfl⟩
  · refine ⟨_, _, h1.objs.size, rec, ts, he3, Obj.cls_mapFields _ _, dict_mapFields _ _, ⟨dat3, by rw [Array.getElem?_setIfInBounds_ne (by decide)]; exact hcx⟩, by simp [hz], st1.fresh, nT, hT3, rd, r3⟩
  · obtain ⟨sl, e1⟩ := so.2.2 b o hb
    exact ⟨sl, keep b _ (nrec b o hb hn) e1⟩
/-- a traceback's mark is set -/
theorem air_mark {B : Heap} {l : List Env} {e T : Addr} {oe oT : Obj} {vs ts : Array Value} {fl v : Value} (a : Air B l e s.heap) (he : s.heap.get? e = some oe) (hd : oe.data = .fields vs) (hcx : vs[2]? = some .none) (h1 : vs[1]? = some (.ref T)) (nT : B.get? T = none) (nTe : T ≠ e)
    (hT : s.heap.get? T = some oT) (hdT : oT.data = .fields ts) (h3 : ts[3]? = some fl) {Q : Unit → Shared → Prop}
    (q : ∀ h', Air B l e h' → h'.get? e = some oe → ExOn B e oe.cls oe.dict v h' → s.heap.UpToSlots h' → Q () { s with heap := h' }) : wpAny M A (setField (.ref T) 3 v) Q E s := by
  have z3 : 3 < ts.size := (Array.getElem?_eq_some_iff.mp h3).1
  have other : ∀ b, b ≠ T → (s.heap.update T (Obj.mapFields (·.setIfInBounds 3 v))).get? b = s.heap.get? b := fun b nb => Heap.get?_update_other _ _ (Ne.symm nb)
  have nrec : ∀ b o, s.heap.get? b = some o → (∀ ws, o.data ≠ .fields ws) → b ≠ T := fun b o hb hn z => by
    rw [z, hT] at hb
    cases hb
    exact hn ts hdT
  have he' := (other e (Ne.symm nTe)).trans he
  refine wpAny_setField hT hdT z3 (q _ ⟨fun b o hb => ?_, a.new, a.frames.of_keeps fun b o hb hn => ⟨o, (other b (nrec b o hb hn)).trans hb, rfl⟩⟩ he' ?_ fun b o hb hn => ⟨o.slots, (other b (nrec b o hb hn)).trans hb⟩)
  · exact (other b fun z => by rw [z, nT] at hb; cases hb).trans (a.stays b o hb)
  · exact ⟨oe, vs, T, _, _, he', rfl, rfl, ⟨hd, hcx⟩, h1, nT, nTe, Heap.get?_update_self _ hT (Obj.isFreed_of_fields (Obj.data_mapFields hdT _)), Obj.data_mapFields hdT _, by simp [z3]⟩
/-- the frame is noted -/
theorem air_note {B : Heap} {env : Env} {outer : List Env} {L e : Addr} {C : Value} {d : Option Addr} {Q : Unit → Shared → Prop} (fr : A.frames = some (env :: outer)) (fl : env.frame = some L) (a : Air B (env :: outer) e s.heap) (x : ExAt B e C d s.heap)
    (q : ∀ h', Air B (env :: outer) e h' → ExOn B e C d (rawInt L) h' → s.heap.UpToSlots h' → Q () { s with heap := h' }) : wpAny M A (noteFrame (.ref e) env) Q E s := by
  obtain ⟨oe, vs, he, rfl, rfl, hd, hz, hv⟩ := x
  unfold noteFrame
  simp only [fl]
  rcases hv with hv | ⟨T, oT, ts, f0, hv, nT, nTe, hT, hdT, h3⟩
  · refine wpAny_bind (wpAny_field he hd hv ?_)
    rw [if_neg (by decide)]
    exact air_entry fr fl a he hd hz q
  · refine wpAny_bind (wpAny_field he hd hv ?_)
    rw [if_pos (show (Value.ref T != Value.none) = true from by simp)]
    refine wpAny_bind (wpAny_field hT hdT h3 ?_)
    by_cases e0 : (f0 == rawInt L) = true
    · rw [if_pos e0]
      have e1 : f0 = rawInt L := by simpa using e0
      subst e1
      exact wpAny_pure (q s.heap a ⟨oe, vs, T, oT, ts, he, rfl, rfl, ⟨hd, hz⟩, hv, nT, nTe, hT, hdT, h3⟩ (Heap.UpToSlots.refl _))
    · rw [if_neg e0]
      refine wpAny_bind (air_mark a he hd hz hv nT nTe hT hdT h3 fun h1 a1 he1 _ u1 => ?_)
      exact air_entry (s := { s with heap := h1 }) fr fl a1 he1 hd hz fun h2 a2 x2 u2 => q h2 a2 x2 (u1.trans u2)
/-- the flight's mark -/
theorem air_flight {B : Heap} {l : List Env} {e : Addr} {C f0 : Value} {d : Option Addr} {o : Option Addr} {Q : Unit → Shared → Prop} (a : Air B l e s.heap) (x : ExOn B e C d f0 s.heap)
    (q : ∀ h', Air B l e h' → ExOn B e C d (o.elim .none fun f => rawInt f) h' → s.heap.UpToSlots h' → Q () { s with heap := h' }) : wpAny M A (setFlight (.ref e) o) Q E s := by
  obtain ⟨oe, vs, T, oT, ts, he, rfl, rfl, ⟨hd, hcx⟩, hv, nT, nTe, hT, hdT, h3⟩ := x
  unfold setFlight
  refine wpAny_bind (wpAny_field he hd hv ?_)
  rw [if_pos (show (Value.ref T != Value.none) = true from by simp)]
  exact air_mark a he hd hcx hv nT nTe hT hdT h3 fun h' a' _ x' u' => q h' a' x' u'
theorem Air.tail {B : Heap} {env : Env} {outer : List Env} {e : Addr} {h : Heap} (a : Air B (env :: outer) e h) : Air B outer e h := ⟨a.stays, a.new, a.frames.2.2⟩
/-- the frame is left -/
theorem air_leave {B : Heap} {env : Env} {outer : List Env} {L e : Addr} {C : Value} {d : Option Addr} {Q : Unit → Shared → Prop} (fr : A.frames = some (env :: outer)) (fl : env.frame = some L) (a : Air B (env :: outer) e s.heap) (x : ExAt B e C d s.heap)
    (q : ∀ h', Air B outer e h' → ExAt B e C d h' → s.heap.UpToSlots h' → Q () { s with heap := h' }) : wpAny M A (leaving env (.ref e)) Q E s := by
  unfold leaving
  refine wpAny_bind (air_note fr fl a x fun h1 a1 x1 u1 => ?_)
  exact air_flight (s := { s with heap := h1 }) a1 x1 fun h2 a2 x2 u2 => q h2 a2.tail x2.at (u1.trans u2)
end
/-- what was there ahead, and is kept in B; the frames up to their slots -/
structure UnB (fs : List Addr) (H H' : Hp) (h B h' : Heap) : Prop where
  keep : ∀ b o, h.get? b = some o → H b = none → b ∉ fs → B.get? b = some o
  slot : ∀ b o, h.get? b = some o → H b = none → b ∈ fs → ∃ sl, h'.get? b = some { o with slots := sl }
  free : ∀ b o, h.get? b = some o → H b = none → H' b = none
  there : ∀ b o, h.get? b = some o → b ∉ fs → ∃ o', B.get? b = some o'
  tups : ∀ b xs, H b = some (.tup xs) → H' b = some (.tup xs)
  frzs : ∀ b o u, H b = some (.frz o u) → H' b = some (.frz o u)
  tbls : ∀ b ps, H b = some (.tbl ps) → ∃ more, H' b = some (.tbl (ps ++ more))
/-- the exception e flies, over the frames at outer; H, s: ahead of the call; H': what is tracked now -/
structure Fly (P : Program) (w : World) (outer : List Env) (H : Hp) (s : Shared) (C : Value) (d : Option Addr) (H' : Hp) (e : Addr) (s' : Shared) : Prop where
  os : s'.os = s.os
  bare : AllBare s'.gens
  ex : ∃ B, Air B outer e s'.heap ∧ ExAt B e C d s'.heap ∧ HOk P w H' B ∧ UnB (frs outer) H H' s.heap B s'.heap
def CX1 (P : Program) (w : World) : CXT := fun outer H s E ev s' => ∃ e C d H', ev = .ref e ∧ Fly P w outer H s C d H' e s' ∧ E C d H'
end L2
namespace L2
open PySem PySem.Spec PyProof.Rows
abbrev vE : List Value := [.type "ValueError", .type "Exception", .type "BaseException", .type "object"]
/-- a class of the text under ValueError, without an __init__ of its own -/
def ExCls (K : PySem.W.Frag) (C : Addr) : Prop := PySem.W.excIn K C vE "ValueError.__new__" = true
theorem ExCls.obj {K : PySem.W.Frag} {C : Addr} {h : Heap} (q : ExCls K C) (k : K.In h) :
    ∃ bm N nm qn bs hd sn sub ab col dd k0 k1 k2 k3 k5 mN, h.get? C = some (excClassObj nm qn C N bs bm hd sn sub ab col dd k0 k1 k2 k3 k5 "ValueError.__new__") ∧ h.Ns N mN ∧ mN "__init__" = none ∧ OwnTail h vE bm := by
  unfold ExCls PySem.W.excIn at q
  split at q
  · rename_i dd cd sl ho
    split at q
    · rename_i C1 bm k0 k1 k2 k3 n k5 hm hs
      simp only [Bool.and_eq_true, beq_iff_eq, Bool.not_eq_true'] at q
      obtain ⟨⟨⟨⟨⟨e1, e2⟩, hdel⟩, ht⟩, hok⟩, hni⟩ := q
      subst e1 e2
      cases cd
      dsimp only at hm hdel hok hni
      subst hm hdel
      have esl : sl = #[k0, k1, k2, k3, some (.builtin "ValueError.__new__"), k5] := by
        cases sl
        simp only at hs
        rw [hs]
      subst esl
      exact ⟨bm, _, _, _, _, _, _, _, _, _, dd, k0, k1, k2, k3, k5, _, k _ _ ho, .of_isNs (PySem.W.isNs_of_in k hok), PySem.W.nsMap_none_of_in k hok hni, PySem.W.tail_of_in k ht⟩
    · cases q
  · cases q
/-- an exception just made here reaches what is wanted of exceptions -/
def Throws (X : Cx) (E : XK) : Prop := ∀ (pins : List (Addr × Obj)) (σ : St) (H : Hp) (s : Shared) (h' : Heap) (e : Addr) (C : Value) (args : List Value), Inv X pins σ H s → Heap.MadeExcOf s.heap h' e C args → E C none H → X.xe (.ref e) { s with heap := h' }
def tRaise (ta : TA) (C : Addr) (E : XK) : TS := fun _ σ H => ta σ H fun vs H1 => vs.length ≤ sizeLine ∧ E (.ref C) none H1
section
variable {X : Cx} {x : Str} {C : Addr} {e₀ : Expr} {rest : List Expr} {ta : TA} {E : XK} {np cpos pos : Pos}
theorem ps_raise (hc : X.calm = true) (hC : ExCls X.K C) (hg : Gl X x) (hm : X.mg x = some (.ref C)) (ht : Throws X E) (ha : PA X (e₀ :: rest) ta) (hdb : (x == ("__debug__" : Str)) = false := by decide)
    (he : starEach (e₀ :: rest) X.env = (false, eval e₀ X.env) :: starEach rest X.env := by rfl) (hpl : (backTo cpos (starEach rest X.env)).any (·.1) = false := by rfl) :
    PS X (.Raise (some (.Call (.Name x np) (e₀ :: rest) [] cpos)) none pos) (tRaise ta C E) := by
  intro pins s σ H D I h
  obtain ⟨bm, N, nm, qn, bs, hd, sn, sub, ab, col, dd, k0, k1, k2, k3, k5, mN, oC, nN, ni, TL⟩ := hC.obj I.mod.kin
  have FB := PySem.F.excBase_ValueError
  refine wpAny_Raise_call_subT (C := C) (nm := nm) (q := qn) (N := N) (bs := bs) (bm := bm) (hdct := hd) (sn := sn) (sub := sub) (ab := ab) (col := col) (dd := dd) (k0 := k0) (k1 := k1) (k2 := k2) (k3 := k3) (k5 := k5)
    FB (mN := mN) (TL.hasType FB.hasBase) (I.ok.hd hc) (by rw [he]; show (false || (backTo cpos (starEach rest X.env)).any (·.1)) = false; rw [hpl]; rfl) ni (ld_glob I hg hm ⟨rfl, ?_⟩ hdb)
  have hA := ha cpos pins s σ H _ I h
  rw [he] at hA ⊢
  refine Calls.evalArgs_plain (thn hA fun us s2 ⟨vs, H2, I2, r2, hz, q2⟩ => ⟨rfl, by rw [← r2.length]; exact hz, I2.bk _ _ oC, nN.keeps I2.bk, TL.keeps I2.bk, fun h' e hm => ht pins σ H2 s2 h' e _ _ I2 hm q2⟩)
end
/-- the tracked things lie in B -/
theorem hok_hide {P : Program} {w : World} {H : Hp} {h : Heap} {l : List Addr} (x : HOk P w H h) (fr : ∀ b ∈ l, H b = none) : HOk P w H (PySem.W.hideAll h l) := fun b u e => by
  refine (x b u e).stay (fun c v hc q => PySem.W.hideAll_get _ q fun z => ?_) (fun _ q => q) fun _ _ q => q
  rcases hc with hc | hc
  · rw [hc] at z
    rw [fr b z] at e; cases e
  · rw [fr c z] at hc; cases hc
theorem UnB.un {fs : List Addr} {H H' : Hp} {h B h' : Heap} (u : UnB fs H H' h B h') (st : B.StaysIn h') (fr : ∀ b ∈ fs, H b = none) : Un fs [] H H' h h' where
  keep := fun b o q n hb _ => st _ _ (u.keep b o q n hb)
  slot := fun b o q n hb _ => u.slot b o q n hb
  free := fun b o q n _ => u.free b o q n
  there := fun b o q _ => by
    by_cases hb : b ∈ fs
    · obtain ⟨sl, e⟩ := u.slot b o q (fr b hb) hb
      exact ⟨_, e⟩
    · obtain ⟨o', e⟩ := u.there b o q hb
      exact ⟨o', st _ _ e⟩
  tups := u.tups
  frzs := u.frzs
  tbls := u.tbls
section
variable {P : Program} {w : World} {K : PySem.W.Frag} {mg : Str → Option Value} {base : Heap} {N : List Str} {qual : Str} {scope : Scope} {f : Addr} {cd : Value} {A : Around} {outer : List Env} {s : Shared} {H : Hp} {E E' : XK}
/-- the frames of a def's body -/
theorem frs_cons {env : Env} {l : List Env} {L : Addr} (h : env.frame = some L) : frs (env :: l) = L :: frs l := by unfold frs; rw [List.filterMap_cons, h]
/-- behind the callee: what was ahead of the def is in B -/
theorem UnB.after {X : Cx} {pins : List (Addr × Obj)} {σ : St} {Hc H' : Hp} {sc : Shared} {B h' h2 : Heap} {e : Addr} (I : Inv X pins σ Hc sc) (hex : X.ex = []) (hst : X.stack = X.env :: X.outer) (hfr : X.env.frame = some X.env.locals)
    (a : Air B X.stack e h') (u : UnB (frs X.stack) Hc H' sc.heap B h') (up : h'.UpToSlots h2) : UnB (frs X.outer) X.H₀ H' X.s₀.heap B h2 := by
  have nex : ∀ b : Addr, b ∉ X.ex := fun b z => by rw [hex] at z; cases z
  have efr : frs X.stack = X.env.locals :: frs X.outer := by rw [hst, frs_cons hfr]
  have old : ∀ b o, X.s₀.heap.get? b = some o → b ∉ frs X.outer → b ∉ frs X.stack := fun b o q hb z => by
    rw [efr] at z
    rcases List.mem_cons.mp z with z | z
    · have l1 := Heap.lt_size q
      rw [z] at l1
      exact absurd (Nat.lt_of_lt_of_le l1 I.ok.above) (Nat.lt_irrefl _)
    · exact hb z
  have inn : ∀ b, b ∈ frs X.outer → b ∈ frs X.stack := fun b hb => by rw [efr]; exact List.mem_cons_of_mem _ hb
  exact {
    keep := fun b o q n hb => u.keep b o (I.base.keep b o q n hb (nex b)) (I.base.free b o q n (nex b)) (old b o q hb)
    slot := fun b o q n hb => by
      obtain ⟨sl, e1⟩ := I.base.slot b o q n hb (nex b)
      obtain ⟨sl2, e2⟩ := u.slot b _ e1 (I.base.free b o q n (nex b)) (inn b hb)
      obtain ⟨_, o3, e3, nf⟩ := a.frames.mem (inn b hb)
      have : o3 = { ({ o with slots := sl } : Obj) with slots := sl2 } := by rw [e2] at e3; exact (Option.some.inj e3).symm
      subst this
      obtain ⟨sl3, e4⟩ := up b _ e2 nf
      exact ⟨sl3, e4⟩
    free := fun b o q n => by
      obtain ⟨o1, e1⟩ := I.base.there b o q (nex b)
      exact u.free b o1 e1 (I.base.free b o q n (nex b))
    there := fun b o q hb => by
      obtain ⟨o1, e1⟩ := I.base.there b o q (nex b)
      exact u.there b o1 e1 (old b o q hb)
    tups := fun b xs q => u.tups b xs (I.base.tups b xs q)
    frzs := fun b o v q => u.frzs b o v (I.base.frzs b o v q)
    tbls := fun b ps q => by
      obtain ⟨m1, e1⟩ := I.base.tbls b ps q
      obtain ⟨m2, e2⟩ := u.tbls b _ e1
      exact ⟨m1 ++ m2, by rw [e2, Array.append_assoc]⟩ }
theorem pass1 (hE : ∀ C d H', E' C d H' → E C d H') : Passes (CX1 P w) (cxOf (CX1 P w) P w K mg base N qual scope f cd A outer s H E) E' := by
  rintro pins σ Hc sc ev s' I ⟨e, C, d, H', rfl, fly, hq⟩
  obtain ⟨B, a, x, hok, u⟩ := fly.ex
  refine air_leave (B := B) (L := s.heap.objs.size) I.ok.frames rfl a x fun h2 a2 x2 up => ?_
  exact ⟨e, C, d, H', rfl, ⟨fly.os.trans I.os, fly.bare, B, a2, x2, hok, UnB.after I rfl rfl rfl a u up⟩, hE _ _ _ hq⟩
/-- a raise: the frames hidden, all stays -/
theorem fly_made {X : Cx} {pins : List (Addr × Obj)} {σ : St} {Hc : Hp} {sc : Shared} {h' : Heap} {e : Addr} {C : Value} {args : List Value} (I : Inv X pins σ Hc sc) (m : Heap.MadeExcOf sc.heap h' e C args) :
    ∃ B, Air B X.stack e h' ∧ ExAt B e C none h' ∧ HOk X.prog X.w Hc B ∧ UnB (frs X.stack) Hc Hc sc.heap B h' := by
  have fr := I.stkFree
  refine ⟨PySem.W.hideAll sc.heap (frs X.stack), ⟨fun b o q => m.keeps _ _ (PySem.W.of_hideAll _ q), ?_, ?_⟩, ?_, hok_hide I.hok fr, ?_⟩
  · cases q : (PySem.W.hideAll sc.heap (frs X.stack)).get? e with
    | none => rfl
    | some o =>
      have := PySem.W.of_hideAll _ q
      rw [m.new] at this; cases this
  · refine (PySem.W.funFrames_hide I.stack fun env he a ha => List.mem_filterMap.mpr ⟨env, he, ha⟩).of_keeps fun b o q _ => ⟨o, m.keeps _ _ q, rfl⟩
  · obtain ⟨t, he, _, _⟩ := m.there
    exact ⟨_, _, he, rfl, rfl, rfl, by simp, .inl rfl⟩
  · exact ⟨fun b o q _ hb => PySem.W.hideAll_get _ q hb, fun b o q _ _ => ⟨o.slots, m.keeps _ _ q⟩, fun _ _ _ n => n, fun b o q hb => ⟨o, PySem.W.hideAll_get _ q hb⟩, fun _ _ q => q, fun _ _ _ q => q, fun _ ps q => ⟨#[], by simpa using q⟩⟩
theorem throw1 : Throws (cxOf (CX1 P w) P w K mg base N qual scope f cd A outer s H E) E := by
  intro pins σ Hc sc h' e C args I m hq
  obtain ⟨B, a, x, hok, u⟩ := fly_made I m
  refine air_leave (s := { sc with heap := h' }) (B := B) (L := s.heap.objs.size) I.ok.frames rfl a x fun h2 a2 x2 up => ?_
  exact ⟨e, C, none, Hc, rfl, ⟨I.os, I.bare, B, a2, x2, hok, UnB.after I rfl rfl rfl a u up⟩, hq⟩
end
/-- THE RULE for a def that may raise -/
theorem Fun.ok1 {P : Program} {w : World} {K : PySem.W.Frag} {mg : Str → Option Value} {base : Heap} {x qual : Str} {st : Stmt} {f : Addr} {fd : FuncData} {N ps : List Str} {k : Nat} {sp : Sp} (F : Fun K x qual st f fd) (S : FnScope N ps (defScope st)) (len : ∀ vs H Q E, sp vs H Q E → vs.length = ps.length)
    (hbody : ∀ (cdv : Value) (A : Around) (outer : List Env) (s : Shared) (H : Hp) (vs : List V) (Q : VK) (E : XK), Room k (A.deeper (envOfC qual (defScope st) s.heap.objs.size f cdv)) → sp vs H Q E →
      ∃ t, PSs (cxOf (CX1 P w) P w K mg base N qual (defScope st) f cdv A outer s H E) (defBody st) t ∧ t { nx := fun _ H' => Q .non H', rt := Q } (start N vs) H) : FnOk P w K mg base (CX1 P w) (k + 1) f fd ps sp := by
  obtain ⟨oc, od, kV, doc, pm, an, cdv, ct, osl, rfl, lk, hcd⟩ := F.ex
  exact fn_of lk hcd S len fun A outer s H vs Q E hr hsp => hbody cdv A outer s H vs Q E hr hsp
end L2
namespace L2
open PySem PySem.Spec PyProof.Rows
/-- the context of a try's body -/
abbrev Cx.tr (X : Cx) (pn : List (Addr × Obj)) (W : Value → Shared → Prop) : Cx := { X with pn := pn, xe := W }
/-- the context of a clause's suite -/
abbrev Cx.su (X : Cx) (pn : List (Addr × Obj)) (e : Addr) : Cx := { X with A := X.A.mark (some (.ref e)), calm := false, pn := pn, xe := fun _ _ => False }
section
variable {X : Cx} {pins : List (Addr × Obj)} {σ : St} {H : Hp} {s : Shared} {W : Value → Shared → Prop} {e : Addr}
theorem Inv.tr (I : Inv X pins σ H s) : Inv (X.tr (X.pn ++ pins) W) [] σ H s :=
  ⟨⟨I.ok.mod, I.ok.kind, I.ok.glob, I.ok.blt, I.ok.above, I.ok.inj, I.ok.has, I.ok.cab, I.ok.hd, I.ok.frames, I.ok.stk, I.ok.exf, I.ok.bs, I.ok.bsz, I.ok.noex, I.ok.exfs, I.ok.funs, I.ok.frf⟩, I.os, I.bare, I.base, I.loc, I.cell, I.free, I.freeC, fun p hp => I.pin p (by simpa using hp), I.hok, I.len⟩
theorem Inv.untr {pins' : List (Addr × Obj)} (I : Inv (X.tr (X.pn ++ pins) W) pins' σ H s) : Inv X pins σ H s :=
  ⟨⟨I.ok.mod, I.ok.kind, I.ok.glob, I.ok.blt, I.ok.above, I.ok.inj, I.ok.has, I.ok.cab, I.ok.hd, I.ok.frames, I.ok.stk, I.ok.exf, I.ok.bs, I.ok.bsz, I.ok.noex, I.ok.exfs, I.ok.funs, I.ok.frf⟩, I.os, I.bare, I.base, I.loc, I.cell, I.free, I.freeC, fun p hp => I.pin p (List.mem_append_left _ hp), I.hok, I.len⟩
theorem Inv.su (I : Inv X pins σ H s) : Inv (X.su (X.pn ++ pins) e) [] σ H s :=
  ⟨⟨I.ok.mod, I.ok.kind, I.ok.glob, I.ok.blt, I.ok.above, I.ok.inj, I.ok.has, I.ok.cab, fun z => (nomatch z), I.ok.frames, I.ok.stk, I.ok.exf, I.ok.bs, I.ok.bsz, I.ok.noex, I.ok.exfs, I.ok.funs, I.ok.frf⟩, I.os, I.bare, I.base, I.loc, I.cell, I.free, I.freeC, fun p hp => I.pin p (by simpa using hp), I.hok, I.len⟩
theorem Inv.unsu (hc : X.calm = true) (hd : X.A.handled = none) {pins' : List (Addr × Obj)} (I : Inv (X.su (X.pn ++ pins) e) pins' σ H s) : Inv X pins σ H s :=
  ⟨⟨I.ok.mod, I.ok.kind, I.ok.glob, I.ok.blt, I.ok.above, I.ok.inj, I.ok.has, I.ok.cab, fun _ => hd, I.ok.frames, I.ok.stk, I.ok.exf, I.ok.bs, I.ok.bsz, I.ok.noex, I.ok.exfs, I.ok.funs, I.ok.frf⟩, I.os, I.bare, I.base, I.loc, I.cell, I.free, I.freeC, fun p hp => I.pin p (List.mem_append_left _ hp), I.hok, I.len⟩
end
/-- does the class match -/
theorem matches_ok {M : Model} {A : Around} {E : Value → Shared → Prop} {s : Shared} {K : PySem.W.Frag} {e D : Addr} {o : Obj} {C : Value} {b : Bool} {Q : Bool → Shared → Prop} (k : K.In s.heap) (he : s.heap.get? e = some o) (hc : o.cls = C)
    (h1 : PySem.W.typeIn K (.ref D) = some (.type "type")) (h2 : (PySem.W.clsIn K D).isSome = true) (h3 : PySem.W.subIn K (.ref D) (.type "BaseException") = some true) (h4 : PySem.W.subIn K C (.ref D) = some b) (q : Q b s) : wpAny M A (excMatches (.ref e) (.ref D)) Q E s := by
  have L1 : PySem.W.Looks M s.heap (typeOf (.ref D)) (.type "type") := PySem.W.looks_typeIn k h1
  have L2 : PySem.W.Looks M s.heap (isType (.ref D)) true := by
    unfold PySem.W.clsIn at h2
    split at h2
    · rename_i ho
      intro A' Q' E' s' kk z
      unfold isType loadHead
      exact wpAny_bind (wpAny_loadPart (kk _ _ (k _ _ ho)) (wpAny_pure z))
    · cases h2
  have L3 : PySem.W.Looks M s.heap (isSubtype (.ref D) (.type "BaseException")) true := PySem.W.looks_subIn k h3
  have L4 : PySem.W.Looks M s.heap (isSubtype C (.ref D)) b := PySem.W.looks_subIn k h4
  have L5 : PySem.W.Looks M s.heap (typeOf (.ref e)) C := hc ▸ (PySem.W.Looks.ld he).andThen .now
  have nt := tc_notTuple
  unfold excMatches isInstance
  refine wpAny_bind (wpAny_bind (L1.at ?_))
  rw [nt]
  refine wpAny_pure ?_
  refine wpAny_bind (wpAny_pure ?_)
  dsimp only
  refine wpAny_bind ?_
  rw [List.forIn_cons]
  unfold isExcClass
  refine wpAny_bind (wpAny_bind (wpAny_bind (L2.at ?_)))
  rw [if_pos rfl]
  refine L3.at ?_
  refine wpAny_pure ?_
  dsimp only
  rw [List.forIn_nil]
  refine wpAny_pure ?_
  refine wpAny_bind (L5.at ?_)
  refine wpAny_bind ?_
  rw [List.forIn_cons]
  refine wpAny_bind (wpAny_bind (L4.at ?_))
  cases b with
  | true => exact wpAny_pure (wpAny_pure (wpAny_pure q))
  | false =>
    refine wpAny_pure ?_
    dsimp only
    rw [List.forIn_nil]
    exact wpAny_pure (wpAny_pure q)
end L2
namespace L2
open PySem PySem.Spec PyProof.Rows
/-- an exception held in this frame -/
structure Held (X : Cx) (pins : List (Addr × Obj)) (σ : St) (H : Hp) (C : Value) (d : Option Addr) (e : Addr) (s : Shared) : Prop where
  ex : ∃ Hc sc B fl, Inv X pins σ Hc sc ∧ s.os = sc.os ∧ AllBare s.gens ∧ Air B X.stack e s.heap ∧ ExOn B e C d fl s.heap ∧ HOk X.prog X.w H B ∧ UnB (frs X.stack) Hc H sc.heap B s.heap
section
variable {X : Cx} {pins : List (Addr × Obj)} {σ : St} {H : Hp} {C : Value} {d : Option Addr} {e : Addr} {s : Shared}
theorem UnB.up {fs : List Addr} {H H' : Hp} {h B h1 h2 : Heap} {l : List Env} {e : Addr} (u : UnB fs H H' h B h1) (a : Air B l e h1) (hl : frs l = fs) (up : h1.UpToSlots h2) : UnB fs H H' h B h2 :=
  ⟨u.keep, fun b o q n hb => by
    obtain ⟨sl, e1⟩ := u.slot b o q n hb
    obtain ⟨_, o3, e3, nf⟩ := a.frames.mem (show b ∈ frs l by rw [hl]; exact hb)
    rw [e1] at e3
    cases e3
    obtain ⟨sl2, e4⟩ := up b _ e1 nf
    exact ⟨sl2, e4⟩, u.free, u.there, u.tups, u.frzs, u.tbls⟩
theorem Held.inv (x : Held X pins σ H C d e s) : Inv X pins σ H s := by
  obtain ⟨Hc, sc, B, fl, I, ho, hb, a, _, hok, u⟩ := x.ex
  exact I.call' (ch := []) ho (u.un a.stays I.stkFree) (hok.kept a.stays) hb fun b z => absurd z (by simp)
end
abbrev TH := Value → Option Addr → Ends → St → Hp → Prop
def PH (X : Cx) (hs : List ExceptHandler) (t : TH) : Prop := ∀ (pins : List (Addr × Obj)) (s : Shared) (σ : St) (H : Hp) (D : Ends) (C : Value) (d : Option Addr) (e : Addr), Held X pins σ H C d e s → t C d D σ H →
  wpAny (model X.prog X.w) X.A (handleBy (.ref e) X.env hs) (SP X pins D) X.xe s
/-- a class that clauses name -/
structure HCls (K : PySem.W.Frag) (D : Addr) : Prop where
  ty : PySem.W.typeIn K (.ref D) = some (.type "type")
  cl : (PySem.W.clsIn K D).isSome = true
  ex : PySem.W.subIn K (.ref D) (.type "BaseException") = some true
def hNil : TH := fun _ _ _ _ _ => False
section
variable {X : Cx} {x n : Str} {DA : Addr} {j : Nat} {b₀ : Stmt} {suite : List Stmt} {ts : Addr → TS} {tr : TH} {np hpos pos : Pos} {rest : List ExceptHandler}
theorem ph_nil : PH X [] hNil := fun _ _ _ _ _ _ _ _ _ h => h.elim
end
def PassesAt (CX : CXT) (X : Cx) (E : XK) (σ : St) : Prop := ∀ (pins : List (Addr × Obj)) (H : Hp) (s : Shared) (e : Value) (s' : Shared), Inv X pins σ H s → CX X.stack H s E e s' → X.xe e s'
def PE1 (X : Cx) (σ : St) (e : Expr) (t : TE) : Prop := ∀ (pins : List (Addr × Obj)) (s : Shared) (H : Hp) (Q : VK), Inv X pins σ H s → t σ H Q → wpAny (model X.prog X.w) X.A (eval e X.env) (EP X pins σ Q) X.xe s
def PS1 (X : Cx) (σ : St) (st : Stmt) (t : TS) : Prop := ∀ (pins : List (Addr × Obj)) (s : Shared) (H : Hp) (D : Ends), Inv X pins σ H s → t D σ H → wpAny (model X.prog X.w) X.A (exec st X.env) (SP X pins D) X.xe s
section
variable {X : Cx} {CX : CXT} {k : Nat} {f : Addr} {fd : FuncData} {ps : List Str} {sp : Sp} {dvs : List V} {ds : List Value} {E : XK} {x : Str} {p pos : Pos} {e : Expr} {es : List Expr} {t : TA} {te : TE} {σ : St}
theorem pe1_call (F : FnOk X.prog X.w X.K X.mg X.base CX k f fd ps sp) (hr : Room k X.A) (hg : Gl X x) (hm : X.mg x = some (.ref f)) (hk : PySem.W.keepIn X.K (.ref f) = true) (hb : Binds X.K fd ps ds) (hd : Vals dvs ds) (hx : PassesAt CX X E σ)
    (ha : PA X (e :: es) t) (hdb : (x == ("__debug__" : Str)) = false := by decide) (he : starEach (e :: es) X.env = (false, eval e X.env) :: starEach es X.env := by rfl) (hpl : (backTo pos (starEach es X.env)).any (·.1) = false := by rfl) :
    PE1 X σ (.Call (.Name x p) (e :: es) [] pos) (tCall sp dvs E t) := by
  intro pins s H Q I h
  refine wpAny_Call_Name_kw (ld_glob I hg hm ?_ hdb)
  refine PySem.W.callWith_K (h₀ := X.base) I.ok.mod.kin hk (thn (ha pos pins s σ H _ I h) fun us s1 ⟨vs, H1, I1, r, q⟩ => ⟨I1.kIn, ?_⟩) he hpl
  have r2 : Vals (vs ++ dvs) (us ++ ds) := r.append hd
  have hl : (us ++ ds).length = ps.length := by rw [← r2.length]; exact F.len _ _ _ _ q
  refine wpAny_call (codeAny_mono (F.run X.A X.stack s1 H1 ⟨us, []⟩ (us ++ ds) (vs ++ dvs) Q E hr I1.env0 (hb s1 us I1.kIn hl) r2 q) fun r s' hq => ?_)
  cases r with
  | error ev => exact hx pins H1 s1 ev s' I1 hq
  | ok fl =>
    cases fl with
    | ret u => exact I1.after hq
    | next => exact False.elim hq
    | brk => exact False.elim hq
    | cont => exact False.elim hq
theorem ps1_expr (he : PE1 X σ e te) (hs : swapsWith e none pos.line X.env = pure false := by rfl) : PS1 X σ (.Expr e pos) (tDrop te) := by
  intro pins s H D I h
  exact wpAny_Expr_any (thn (he pins s H _ I h) fun v s1 ⟨y, H1, I1, r1, q1⟩ => ⟨σ, H1, I1, q1⟩) I.quiet hs
end
def tTry (tb : XK → TS) (th : TH) : TS := fun D σ H => ∃ E : XK, tb E D σ H ∧ ∀ C d H', E C d H' → th C d D σ H'
theorem SP.untr {X : Cx} {pins : List (Addr × Obj)} {W : Value → Shared → Prop} {D : Ends} {f : Flow} {s : Shared} (h : SP (X.tr (X.pn ++ pins) W) [] D f s) : SP X pins D f s := by
  cases f with
  | next => obtain ⟨σ, H, I, q⟩ := h; exact ⟨σ, H, I.untr, q⟩
  | brk => obtain ⟨σ, H, I, q⟩ := h; exact ⟨σ, H, I.untr, q⟩
  | cont => obtain ⟨σ, H, I, q⟩ := h; exact ⟨σ, H, I.untr, q⟩
  | ret u => obtain ⟨v, σ, H, I, r, q⟩ := h; exact ⟨v, σ, H, I.untr, r, q⟩
theorem ps_try {X : Cx} {st : Stmt} {h₀ : ExceptHandler} {hs : List ExceptHandler} {tb : XK → TS} {th : TH} {pos : Pos} (hst : X.stack = X.env :: X.outer) (hfr : X.env.frame = some X.env.locals)
    (hb : ∀ E σ pn W, PassesAt (CX1 X.prog X.w) (X.tr pn W) E σ → PS1 (X.tr pn W) σ st (tb E)) (hh : PH X (h₀ :: hs) th) : PS X (.Try [st] (h₀ :: hs) [] [] pos) (tTry tb th) := by
  intro pins s σ H D I h
  obtain ⟨E, hB, hH⟩ := h
  refine wpAny_Try_except ?_
  have pass : PassesAt (CX1 X.prog X.w) (X.tr (X.pn ++ pins) (fun ev s₁ => wpAny (model X.prog X.w) X.A (noteFrame ev X.env) (fun _ s₂ => wpAny (model X.prog X.w) X.A (setFlight ev none) (fun _ s₃ => wpAny (model X.prog X.w) X.A (handleBy ev X.env (h₀ :: hs)) (SP X pins D) X.xe s₃) X.xe s₂) X.xe s₁)) E σ := by
    rintro pins' Hc sc ev s' Ic ⟨e, C, d, H', rfl, fly, hq⟩
    obtain ⟨B, a, x, hok, u⟩ := fly.ex
    have hfrm : X.A.frames = some (X.env :: X.outer) := by rw [I.ok.frames, hst]
    have a' : Air B (X.env :: X.outer) e s'.heap := by rw [← hst]; exact a
    refine air_note hfrm hfr a' x fun h1 a1 x1 u1 => ?_
    refine air_flight (s := { s' with heap := h1 }) (o := none) a1 x1 fun h2 a2 x2 u2 => ?_
    have up := u1.trans u2
    have hl : Held X pins σ H' C d e { s' with heap := h2 } := ⟨Hc, sc, B, _, Ic.untr, fly.os, fly.bare, by rw [hst]; exact a2, x2, hok, u.up a rfl up⟩
    exact hh pins _ σ H' D C d e hl (hH C d H' hq)
  refine wpAny_execs_cons (wpAny_mono (hb E σ _ _ pass [] s H D I.tr hB) (fun f s1 hf => ?_) fun _ _ z => z)
  cases f with
  | next => exact wpAny_execs_nil (wpAny_execs_nil (SP.untr hf))
  | brk => exact SP.untr hf
  | cont => exact SP.untr hf
  | ret u => exact SP.untr hf
end L2
namespace L2
open PySem PySem.Spec PyProof.Rows
section
variable {prog : Program} {w : World} {A : Around} {E : Value → Shared → Prop} {s : Shared} {K : PySem.W.Frag} {x D : Addr} {ox : Obj} {od : Option Obj} {name : Str}
end
section
variable {X : Cx}
end
end L2
namespace L2
open PySem PySem.Spec PyProof.Rows
section
variable {X : Cx} {o e : Expr} {es : List Expr} {to : TE} {t : TA} {name : Str} {id : String} {r : V → List V → Hp → VK → Prop} {apos cpos : Pos}
end
end L2
namespace L2
open PySem PySem.Spec PyProof.Rows
structure ClsF (K : PySem.W.Frag) (D : Addr) : Prop where
  ty : PySem.W.typeIn K (.ref D) = some (.type "type")
  cl : PySem.W.isClsIn K D = true
  be : PySem.W.subIn K (.ref D) (.type "BaseException") = some true
  ga : PySem.W.findIn K (.ref D) "__getattribute__" = some (some (.builtin "BaseException.__getattribute__"))
  gt : PySem.W.findIn K (.ref D) "__getattr__" = some none
  ac : PySem.W.findIn K (.ref D) "__class__" = some (some (.builtin "object.__class__"))
  sp : PySem.W.specialIn K (.builtin "object.__class__") "__get__" = some (some (.builtin "getset_descriptor.__get__"))
  tk : PySem.W.takesIn K (.builtin "object.__class__") = some true
  mo : PySem.W.mroIn K D (.type "object") = some true
theorem ClsF.isCl {K : PySem.W.Frag} {D : Addr} (f : ClsF K D) : (PySem.W.clsIn K D).isSome = true := f.cl
theorem ClsF.h {K : PySem.W.Frag} {D : Addr} (f : ClsF K D) : HCls K D := ⟨f.ty, f.isCl, f.be⟩
end L2
namespace L2
open PySem PySem.Spec PyProof.Rows
section
variable {X : Cx}
end
section
variable {prog : Program} {w : World} {A : Around} {E : Value → Shared → Prop}
theorem draw_list {it l : Addr} {items : Array Value} (hne : l ≠ it) : ∀ (n i : Nat) (s : Shared) (Q : List Value → Shared → Prop), s.heap.IsListIter it l i → s.heap.IsList l items → i + n ≤ items.size →
    (∀ h', h'.IsListIter it l (i + n) → Heap.SameBut it s.heap h' → Q ((items.toList.drop i).take n) { s with heap := h' }) → wpAny (model prog w) A (draw (.ref it) n) Q E s
  | 0, i, s, Q, hit, _, _, hQ => by
    show wpAny _ _ (pure []) Q E s
    exact wpAny_pure (by simpa using hQ s.heap hit (Heap.SameBut.refl ..))
  | n + 1, i, s, Q, hit, ht, hle, hQ => by
    have hlt : i < items.size := by omega
    show wpAny _ _ (pyNext (.ref it) >>= _) Q E s
    refine wpAny_bind (wpAny_pyNext_list_item hit ht (x := items[i]) (by simp [hlt]) fun h₁ hit₁ hs₁ => ?_)
    refine wpAny_bind (wpAny_holding (draw_list hne n (i + 1) _ _ hit₁ (ht.extBut hs₁.extBut hne) (by omega) fun h₂ hit₂ hs₂ => wpAny_pure ?_))
    have hd : items.toList.drop i = items[i] :: items.toList.drop (i + 1) := by simp [List.drop_eq_getElem_cons, hlt]
    have := hQ h₂ (by rw [show i + (n + 1) = i + 1 + n by omega]; exact hit₂) (hs₁.trans hs₂)
    rw [hd, List.take_succ_cons] at this
    exact this
theorem unpack_list {s : Shared} {t : Addr} {items : Array Value} {targets : List (Bool × (Value → Sem Unit))} {Q : Unit → Shared → Prop} (hh : A.handled = none) (ht : s.heap.IsList t items)
    (hn : targets.length = items.size) (hstar : targets.findIdx? (·.1) = none)
    (h : ∀ h', (∀ b o, s.heap.get? b = some o → h'.get? b = some o) → wpAny (model prog w) A (assignInOrder (targets.map (·.2)) items.toList) Q E { s with heap := h' }) :
    wpAny (model prog w) A (unpack (.ref t) targets) Q E s := by
  unfold unpack
  rw [hn, hstar]
  refine wpAny_bind (wpAny_holding ?_)
  unfold unpackItems notIterableAtAll
  have hlt : t ≠ s.heap.objs.size := by obtain ⟨o, ho, _⟩ := ht; exact Nat.ne_of_lt (Heap.lt_size ho)
  refine wpAny_bind (wpAny_bind (wpAny_specialOf ht.typeIs F.slot_list_iter.lookup (wpAny_pure ?_)))
  simp only [Bool.false_eq_true, if_false]
  refine wpAny_bind (wpAny_holding (wpAny_pyIter_list ht ?_))
  have l0 := ht.push { cls := .type "list_iterator", data := .fields #[.ref t, .int 0 0] }
  refine wpAny_bind (wpAny_holding (draw_list hlt items.size 0 _ _ ⟨_, Heap.get?_push_size _ rfl, rfl, rfl⟩ l0 (by omega) fun h₁ hit₁ hs₁ => ?_))
  have hall : List.take items.size (List.drop 0 items.toList) = items.toList := by
    rw [List.drop_zero]; exact List.take_of_length_le (by simp)
  rw [hall]
  rw [if_neg (by simp)]
  have l1 := l0.extBut hs₁.extBut hlt
  rw [Nat.zero_add] at hit₁
  refine wpAny_bind (wpAny_holding (wpAny_pyNext_list_end hh hit₁ l1 (by simp) fun h₂ he₂ => ?_))
  simp only [Option.isSome_none, Bool.false_eq_true, if_false]
  refine wpAny_pure (h h₂ fun b o e => ?_)
  have hb := Nat.ne_of_lt (Heap.lt_size e)
  exact he₂ b o hb (hs₁.extBut b o hb (Heap.get?_push_of_some _ e))
end
section
variable {X : Cx}
/-- a, b, .. = a list of that length -/
def gLst (K : PySem.W.Frag) (n : Nat) (t : TGs) : TG := fun v σ H Q => ∃ a xs, v = .ref a ∧ SqL K H a xs ∧ xs.length = n ∧ t xs σ H Q
theorem pg_lst {es : List Expr} {k : Nat} {pos : Pos} {t : TGs} {n : Nat} (hc : X.calm = true) (h : PGs X es t)
    (hn : (assignEach es X.env).length = n := by rfl) (hst : (assignEach es X.env).findIdx? (·.1) = none := by rfl) : PG X (.Tuple es k pos) (gLst X.K n t) := by
  intro pins s σ H v u Q I r hw
  obtain ⟨a, xs, rfl, hq, hl, hw⟩ := hw
  obtain rfl : u = Value.ref a := r
  obtain ⟨its, rv, pl, hz⟩ := I.list hq
  rw [assign_Tuple]
  refine wpAny_bind (wpAny_standAt (unpack_list (I.ok.hd hc) pl.isList (by simp [hn, ← hl, rv.length]) hst fun h' hk => ?_))
  exact h pins _ σ H xs _ Q (I.kept (t' := s.toks) hk) (by simpa using rv) hw
end
end L2
namespace L2
open PySem PySem.Spec PyProof.Rows
/-- a tuple, of the heap or of the text, stays -/
theorem Same.sqt {K : PySem.W.Frag} {H H' : Hp} {a : Addr} {xs : List V} (e : Same H H') (h : SqT K H a xs) : SqT K H' a xs := by
  rcases h with (h | ⟨o, h⟩) | h
  · exact .inl (.inl (e _ _ h))
  · exact .inl (.inr ⟨o, e _ _ h⟩)
  · exact .inr h
section
variable {X : Cx}
theorem call_isinstS : CallR X (.builtin "isinstance") (fun xs H Q => ∃ (a : Addr) (ys : List V) (c : String) (b : Bool), xs = [.ref a, .ty c] ∧ SqT X.K H a ys ∧ PySem.W.kitOne X.K (.type "tuple") (.type c) = some b ∧ Q (.bl b) H) := by
  intro pins s σ H xs us Q I r h
  obtain ⟨a, ys, c, b, rfl, ht, e, q⟩ := h
  obtain ⟨u, w', rfl, ru, rc⟩ := vals2 r
  cases ru
  obtain rfl : w' = Value.type c := rc
  obtain ⟨its, rv, ⟨o, h1, h2, _⟩, hz⟩ := I.tuple ht
  exact PySem.W.kia_one PySem.W.kitx_tuple I.kIn ⟨o, h1, h2⟩ e (fun z => nomatch z) fun tk => ⟨.bl b, H, I.tok _, rfl, q⟩
end
end L2
namespace L2
open PySem PySem.Spec PyProof.Rows
def TDi (P : Program) (w : World) (K : PySem.W.Frag) (a : Addr) (vs : List (Key × Value)) : Prop :=
  (a == sysModules) = false ∧ ∃ o es ep, K.lookup a = some o ∧ o.ExactDict ∧ o.data = Data.dict es ep ∧ PySem.KeysOf (mixKind P w) es ∧ Pairs (mixKind P w) es.toList vs ∧ (vs.map (·.1)).Nodup
theorem TDi.dict {P : Program} {w : World} {K : PySem.W.Frag} {a : Addr} {vs : List (Key × Value)} {h : Heap} (t : TDi P w K a vs) (k : K.In h) : Heap.DictOf (mixKind P w) h a vs := by
  obtain ⟨_, o, es, ep, l, r⟩ := t
  exact ⟨o, es, ep, k a o l, r⟩
theorem tdi2 {P : Program} {w : World} {K : PySem.W.Frag} {a : Addr} {x1 x2 : Str} {t1 t2 : Tok} {v1 v2 : Value} {ep : Nat} {h1 h2 : Int} (hs : (a == sysModules) = false)
    (l : K.lookup a = some ⟨.type "dict", none, .dict #[⟨h1, .str x1 t1, v1⟩, ⟨h2, .str x2 t2, v2⟩] ep, #[]⟩) (e1 : h1 = hashStr w x1) (e2 : h2 = hashStr w x2) (ne : ¬ x1 = x2) : TDi P w K a [(Sum.inr x1, v1), (Sum.inr x2, v2)] := by
  refine ⟨hs, _, _, _, l, ⟨rfl, rfl, rfl⟩, rfl, ?_, .cons (keyIs_str x1 t1) rfl (.cons (keyIs_str x2 t2) rfl .nil), ?_⟩
  · intro e he
    have he : e = ⟨h1, .str x1 t1, v1⟩ ∨ e = ⟨h2, .str x2 t2, v2⟩ := by simpa using he
    rcases he with rfl | rfl
    · exact ⟨Sum.inr x1, keyIs_str x1 t1, e1⟩
    · exact ⟨Sum.inr x2, keyIs_str x2 t2, e2⟩
  · simp [ne]
section
variable {X : Cx}
def rGetK (P : Program) (w : World) (K : PySem.W.Frag) : R2 := fun x y H Q => ∃ (a : Addr) (vs : List (Key × Value)) (k : Key) (v : V) (u : Value), x = .ref a ∧ y = kV k ∧ TDi P w K a vs ∧ valueAt vs k = some u ∧ RelV v u ∧ Q v H
theorem pe_dgetK {o i : Expr} {pos : Pos} {td ty : TE} (ho : PE X o td) (hi : PE X i ty) (hs : NoSl i) : PE X (.Subscript o i pos) (tOp (rGetK X.prog X.w X.K) td ty) := by
  intro pins s σ H Q I h
  refine subD_of PySem.F.slot_dict_getitem.lookup hs (thn (ho pins s σ H _ I h) fun u s1 ⟨x, H1, I1, rx, q1⟩ => thn (hi pins s1 σ H1 _ I1 q1) fun iv s2 ⟨y, H2, I2, ry, a, vs, k, v', u', ex, ey, t, e, ru, q2⟩ => ?_)
  subst ex ey
  obtain rfl : u = Value.ref a := rx
  have dd := t.dict I2.kIn
  exact ⟨dd.typeIs, wpAny_getItem_of (kV_is ry) dd.mapOf e ⟨v', H2, I2.tok _, ru, q2⟩⟩
end
end L2
namespace L2
open PySem PySem.Spec PyProof.Rows
section
variable {X : Cx} {k : Nat} {f C : Addr} {fd : FuncData} {ps : List Str} {sp : Sp} {dvs : List V} {ds : List Value} {E : XK} {x : Str} {p pos : Pos} {e : Expr} {es : List Expr} {t : TA}
end
end L2
namespace L2
open PySem PySem.Spec PyProof.Rows
section
variable {prog : Program} {w : World} {A : Around} {E : Value → Shared → Prop} {s : Shared}
end
end L2
namespace L2
open PySem PySem.Spec PyProof.Rows
section
variable {X : Cx} {elt tg a0 : Expr} {sc : Scope} {pos p0 pos0 : Pos} {ta : TA} {g : TG} {te : TE} {N : List Str} {names : List (Str × NameKind)} {N' : List Str} {k : Nat} {pull : List Nat}
end
end L2
namespace L2
open PySem PySem.Spec PyProof.Rows
section
variable {X : Cx}
def repS (x : Str) (n : Nat) : Str := ⟨(List.replicate n x.cps).foldl (· ++ ·) #[]⟩
theorem fold_app (l : List (Array Nat)) : ∀ acc : Array Nat, (l.foldl (· ++ ·) acc).toList = acc.toList ++ (l.map Array.toList).flatten := by
  induction l with
  | nil => intro acc; simp
  | cons a l ih => intro acc; rw [List.foldl_cons, ih]; simp
theorem repS_list (x : Str) (n : Nat) : (repS x n).cps.toList = (List.replicate n x.cps.toList).flatten := by
  show ((List.replicate n x.cps).foldl (· ++ ·) #[]).toList = _
  rw [fold_app, List.map_replicate]
  simp
end
namespace RF
end RF
end L2
namespace Sq
open PySem
def txt (l : List Nat) : Str := ⟨l.toArray⟩
theorem txt_len (l : List Nat) : (txt l).length = l.length := by simp [txt, Str.length]
theorem txt_app (a b : List Nat) : txt a ++ txt b = txt (a ++ b) := Str.ext' (by rw [Str.cps_append]; simp [txt])
theorem txt_cps (l : List Nat) : (txt l).cps.toList = l := by simp [txt]
theorem txt_inj {a b : List Nat} (h : txt a = txt b) : a = b := by rw [← txt_cps a, h, txt_cps]
theorem txt_get (l : List Nat) (i : Nat) : (txt l).cps[i]? = l[i]? := by simp [txt]
end Sq
namespace L2
open PySem PySem.Spec PyProof.Rows Sq
theorem repS_txt (z : List Nat) (n : Nat) : repS (txt z) n = txt (List.replicate n z).flatten := Str.ext' (by
  have : (repS (txt z) n).cps.toList = (txt (List.replicate n z).flatten).cps.toList := by rw [repS_list, txt_cps, txt_cps]
  exact Array.toList_inj.mp this)
section
variable {X : Cx}
theorem op_mulT : OpR X (binaryOp .Mult) (fun x y H Q => ∃ (z : List Nat) (n : Nat), x = .str (txt z) ∧ y = .int (n : Int) ∧ n ≤ 1100 ∧ z.length ≤ 900 ∧ Q (.str (txt (List.replicate n z).flatten)) H) := by
  intro pins s σ H x y v u Q I rx ry h
  obtain ⟨z, n, rfl, rfl, h2, h4, q⟩ := h
  obtain ⟨t, rfl⟩ := rx
  obtain ⟨t', rfl⟩ := ry
  have hzl : (txt z).length = z.length := txt_len z
  have hzn : z.length * n ≤ 1000000 := Nat.le_trans (Nat.mul_le_mul h4 h2) (by decide)
  have e6 : (1000000 : Nat) ≤ sizeLine := by decide
  have hlong : Builtin.Str.tooLong ((txt z).length * (n : Int).toNat) = false := by
    rw [Int.toNat_natCast, hzl]
    unfold Builtin.Str.tooLong
    exact decide_eq_false (by omega)
  refine P.mul_str (by rw [decide_eq_false (by omega), decide_eq_false (by omega)]; rfl) (fun h1 _ => ?_) (fun _ _ => hlong) ?_
  · have : (1000000 : Int) ≤ (2 ^ 63 - 1) / (n : Int) := by
      apply Int.le_ediv_of_mul_le (by omega)
      omega
    rw [hzl]
    omega
  · by_cases h1 : (n : Int) < 1
    · have : n = 0 := by omega
      subst this
      rw [if_pos h1]
      exact ⟨by decide, ⟨.str _, H, I.tok _, ⟨_, rfl⟩, q⟩⟩
    rw [if_neg h1]
    by_cases h3 : ((n : Int) == 1 || (txt z).length == 0) = true
    · rw [if_pos h3]
      have e : (List.replicate n z).flatten = z := by
        rw [Bool.or_eq_true] at h3
        rcases h3 with h3 | h3
        · have : n = 1 := by have := beq_iff_eq.mp h3; omega
          subst this; simp
        · have : z.length = 0 := by have := beq_iff_eq.mp h3; omega
          have : z = [] := List.length_eq_zero_iff.mp this
          subst this; simp
      rw [e] at q
      exact ⟨.str _, H, I, ⟨_, rfl⟩, q⟩
    · rw [if_neg h3]
      have er : (⟨(List.replicate (n : Int).toNat (txt z).cps).foldl (· ++ ·) #[]⟩ : Str) = txt (List.replicate n z).flatten := by
        rw [Int.toNat_natCast]; exact repS_txt z n
      show (Made.str (⟨(List.replicate (n : Int).toNat (txt z).cps).foldl (· ++ ·) #[]⟩ : Str)).post _ _
      rw [er]
      refine ⟨?_, ⟨.str _, H, I.tok _, ⟨_, rfl⟩, q⟩⟩
      rw [txt_len, List.length_flatten, List.map_replicate, List.sum_replicate_nat, Nat.mul_comm]
      omega
end
def TTu (K : PySem.W.Frag) (a : Addr) (ns : List Int) : Prop := ∃ (o : Obj) (its : Array Value) (n : Nat), K.lookup a = some o ∧ o.cls = .type "tuple" ∧ o.data = .seq its n ∧ its.size ≤ sizeLine ∧ Vals (ns.map V.int) its.toList
theorem TTu.sq {K : PySem.W.Frag} {a : Addr} {ns : List Int} (h : TTu K a ns) (H : Hp) : SqT K H a (ns.map V.int) := .inr h
theorem ttu4 {K : PySem.W.Frag} {a : Addr} {i1 i2 i3 i4 : Int} {t1 t2 t3 t4 : Tok} {od : Option Addr} {n : Nat} {sl : Array (Option Value)} (l : K.lookup a = some ⟨.type "tuple", od, .seq #[.int i1 t1, .int i2 t2, .int i3 t3, .int i4 t4] n, sl⟩) : TTu K a [i1, i2, i3, i4] :=
  ⟨_, _, _, l, rfl, rfl, (by show 4 ≤ sizeLine; decide), .cons ⟨_, rfl⟩ (.cons ⟨_, rfl⟩ (.cons ⟨_, rfl⟩ (.cons ⟨_, rfl⟩ .nil)))⟩
end L2
namespace L2
open PySem PySem.Spec PyProof.Rows
def Bt (n : Nat) (i : Int) : Prop := i.natAbs < 2 ^ n
theorem Bt.mono {n m : Nat} {i : Int} (h : Bt n i) (l : n ≤ m) : Bt m i := Nat.lt_of_lt_of_le h (Nat.pow_le_pow_right (by decide) l)
theorem Bt.mul {n m : Nat} {i j : Int} (h : Bt n i) (g : Bt m j) : Bt (n + m) (i * j) := by
  unfold Bt at *
  rw [Int.natAbs_mul, Nat.pow_add]
  exact Nat.mul_lt_mul'' h g
theorem Bt.add {n : Nat} {i j : Int} (h : Bt n i) (g : Bt n j) : Bt (n + 1) (i + j) := by
  unfold Bt at *
  rw [Nat.pow_succ]
  generalize (2 : Nat) ^ n = k at h g ⊢
  omega
theorem Bt.neg {n : Nat} {i : Int} (h : Bt n i) : Bt n (-i) := by unfold Bt at *; rwa [Int.natAbs_neg]
theorem Bt.log {n : Nat} {i : Int} (h : Bt n i) (h0 : i ≠ 0) : i.natAbs.log2 < n := (Nat.log2_lt (by omega)).mpr h
theorem Bt.bits {n : Nat} {i : Int} (h : Bt n i) : Builtin.Int.intBits i ≤ n := by
  unfold Builtin.Int.intBits
  by_cases e : (i == 0) = true
  · rw [if_pos e]; exact Nat.zero_le _
  · rw [if_neg e]; exact h.log (by simpa using e)
section
variable {X : Cx}
theorem op_mulB : OpR X (binaryOp .Mult) (rI (fun i j => Bt 4000 i ∧ Bt 4000 j) fun i j => .int (i * j)) := opI fun _ _ _ _ _ _ _ hc q =>
  mul_int q (IntMulOk.of_bits (Nat.le_trans hc.1.bits (by decide)) (Nat.le_trans hc.2.bits (by decide)))
end
section
variable {P : Program} {w : World} {K : PySem.W.Frag} {mg : Str → Option Value} {base : Heap}
end
/-- what is called never raises -/
theorem passE0 {P : Program} {w : World} {X : Cx} : Passes (CX1 P w) X E0 := by rintro _ _ _ _ _ _ _ ⟨_, _, _, _, _, _, z⟩; exact z.elim
end L2
namespace Sq
open L2
structure Q4 where
  a : Int
  b : Int
  c : Int
  d : Int
def Q4.l (x : Q4) : List Int := [x.a, x.b, x.c, x.d]
def Q4.mul (x y : Q4) : Q4 := ⟨x.a * y.a + x.b * y.c, x.a * y.b + x.b * y.d, x.c * y.a + x.d * y.c, x.c * y.b + x.d * y.d⟩
def Q4.det (x : Q4) : Int := x.a * x.d - x.b * x.c
def Q4.bt (n : Nat) (x : Q4) : Prop := Bt n x.a ∧ Bt n x.b ∧ Bt n x.c ∧ Bt n x.d
def q1 : Q4 := ⟨1, 0, 0, 1⟩
def qS : Q4 := ⟨1, 1, 0, 1⟩
def qT : Q4 := ⟨0, -1, 1, 0⟩
def l4 (c : Nat) : Q4 := if c = 115 then qS else qT
def tb4 (z : List Nat) : Q4 := z.foldl (fun t c => (l4 c).mul t) q1
theorem Q4.ext' {x y : Q4} (h1 : x.a = y.a) (h2 : x.b = y.b) (h3 : x.c = y.c) (h4 : x.d = y.d) : x = y := by
  cases x; cases y; simp only at h1 h2 h3 h4; subst h1 h2 h3 h4; rfl
theorem mul_assoc4 (x y z : Q4) : (x.mul y).mul z = x.mul (y.mul z) := by
  refine Q4.ext' ?_ ?_ ?_ ?_ <;> simp only [Q4.mul] <;> grind
theorem mul_one4 (x : Q4) : x.mul q1 = x := by
  refine Q4.ext' ?_ ?_ ?_ ?_ <;> simp only [Q4.mul, q1] <;> grind
theorem one_mul4 (x : Q4) : q1.mul x = x := by
  refine Q4.ext' ?_ ?_ ?_ ?_ <;> simp only [Q4.mul, q1] <;> grind
theorem det_mul4 (x y : Q4) : (x.mul y).det = x.det * y.det := by simp only [Q4.mul, Q4.det]; grind
theorem fold4 : ∀ (z : List Nat) (t : Q4), z.foldl (fun t c => (l4 c).mul t) t = (tb4 z).mul t
  | [], t => by show t = q1.mul t; rw [one_mul4]
  | c :: z, t => by
    show z.foldl _ ((l4 c).mul t) = (z.foldl (fun t c => (l4 c).mul t) ((l4 c).mul q1)).mul t
    rw [fold4 z, fold4 z, mul_one4, mul_assoc4]
theorem tb4_app (x y : List Nat) : tb4 (x ++ y) = (tb4 y).mul (tb4 x) := by
  show (x ++ y).foldl _ q1 = _
  rw [List.foldl_append, fold4]; rfl
theorem tb4_snoc (z : List Nat) (c : Nat) : tb4 (z ++ [c]) = (l4 c).mul (tb4 z) := by
  show (z ++ [c]).foldl _ q1 = _
  rw [List.foldl_append]; rfl
theorem bt_step {n c : Nat} {t : Q4} (h : t.bt n) : ((l4 c).mul t).bt (n + 1) := by
  obtain ⟨h1, h2, h3, h4⟩ := h
  have e : ∀ x y : Int, 1 * x + 1 * y = x + y := fun x y => by grind
  unfold l4
  split
  · refine ⟨?_, ?_, ?_, ?_⟩
    · show Bt (n + 1) (1 * t.a + 1 * t.c); rw [e]; exact h1.add h3
    · show Bt (n + 1) (1 * t.b + 1 * t.d); rw [e]; exact h2.add h4
    · show Bt (n + 1) (0 * t.a + 1 * t.c); rw [show 0 * t.a + 1 * t.c = t.c from by grind]; exact h3.mono (by omega)
    · show Bt (n + 1) (0 * t.b + 1 * t.d); rw [show 0 * t.b + 1 * t.d = t.d from by grind]; exact h4.mono (by omega)
  · refine ⟨?_, ?_, ?_, ?_⟩
    · show Bt (n + 1) (0 * t.a + -1 * t.c); rw [show 0 * t.a + -1 * t.c = -t.c from by grind]; exact h3.neg.mono (by omega)
    · show Bt (n + 1) (0 * t.b + -1 * t.d); rw [show 0 * t.b + -1 * t.d = -t.d from by grind]; exact h4.neg.mono (by omega)
    · show Bt (n + 1) (1 * t.a + 0 * t.c); rw [show 1 * t.a + 0 * t.c = t.a from by grind]; exact h1.mono (by omega)
    · show Bt (n + 1) (1 * t.b + 0 * t.d); rw [show 1 * t.b + 0 * t.d = t.b from by grind]; exact h2.mono (by omega)
theorem bt_q1 : q1.bt 1 := ⟨by show (1 : Int).natAbs < 2 ^ 1; decide, by show (0 : Int).natAbs < 2 ^ 1; decide, by show (0 : Int).natAbs < 2 ^ 1; decide, by show (1 : Int).natAbs < 2 ^ 1; decide⟩
theorem bt_tb4 (z : List Nat) : (tb4 z).bt (z.length + 1) := by
  have : ∀ (z : List Nat) (t : Q4) (n : Nat), t.bt n → (z.foldl (fun t c => (l4 c).mul t) t).bt (z.length + n) := by
    intro z
    induction z with
    | nil => intro t n h; rw [List.length_nil, Nat.zero_add]; exact h
    | cons c z ih =>
      intro t n h
      have := ih _ _ (bt_step (c := c) h)
      rw [List.length_cons, show z.length + 1 + n = z.length + (n + 1) from by omega]
      exact this
  exact this z q1 1 bt_q1
theorem Q4.bt.mono {n m : Nat} {x : Q4} (h : x.bt n) (l : n ≤ m) : x.bt m := ⟨h.1.mono l, h.2.1.mono l, h.2.2.1.mono l, h.2.2.2.mono l⟩
theorem bt_l4 (c : Nat) : (l4 c).bt 2 := by
  unfold l4
  split
  · exact ⟨by show (1 : Int).natAbs < 2 ^ 2; decide, by show (1 : Int).natAbs < 2 ^ 2; decide, by show (0 : Int).natAbs < 2 ^ 2; decide, by show (1 : Int).natAbs < 2 ^ 2; decide⟩
  · exact ⟨by show (0 : Int).natAbs < 2 ^ 2; decide, by show (-1 : Int).natAbs < 2 ^ 2; decide, by show (1 : Int).natAbs < 2 ^ 2; decide, by show (0 : Int).natAbs < 2 ^ 2; decide⟩
end Sq
namespace K1
open PySem L2 Sq
theorem compWholeS {K : PySem.W.Frag} {Hc : Hp} {p : Addr} {r : List Int} {j : Nat} {Q : VK} {σ : St} (hj : σ[j]? = some (some (.ref p))) (hp : SqT K Hc p (r.map V.int)) (hn : r.length ≤ 1000)
    (k : ∀ (H' : Hp) (d : Addr), Same Hc H' → H' d = some (.lst ((List.replicate r.length true).map V.bl)) → Q (.ref d) H') :
    tComp (iTup K (tVar j)) 1 [] (gName 0) (tCall spWhole [] E0 (tCons (tVar 0) tNil)) σ Hc Q := by
  refine ⟨_, hj, p, rfl, ⟨_, hp⟩, fun d hd => ?_⟩
  refine comp_by (Q := fun d H' => Q (.ref d) H') r.length ((List.replicate r.length true).map V.bl) (by simp) (fun i σ H3 => ∃ o, σ = [o] ∧ Same Hc H3) ⟨none, rfl, same_upd (Same.refl _) hd⟩ ?_ ?_
  · rintro i σ H3 hi ⟨o, rfl, s3⟩ hd3
    have hp3 := s3.sqt hp
    have hg : (r.map V.int)[i]? = some (.int r[i]) := by rw [List.getElem?_map, List.getElem?_eq_getElem hi]; rfl
    refine ⟨⟨_, _, hp3, hg⟩, fun y H4 ⟨e, hy⟩ => ?_⟩
    subst e
    have hy := hy _ hp3
    rw [hg] at hy
    cases hy
    refine ⟨_, rfl, _, rfl, cpost hi hn hd3 (by simp [hi]) ⟨_, rfl, same_upd s3 hd⟩⟩
  · rintro σ H3 ⟨o, rfl, s3⟩ hd3
    exact ⟨⟨_, s3.sqt hp, by rw [List.length_map]; exact Nat.le_refl _⟩, k H3 d s3 hd3⟩
abbrev TbK (K : PySem.W.Frag) (H : Hp) (p : Addr) (x : Q4) : Prop := SqT K H p (x.l.map V.int)
def spIt (K : PySem.W.Frag) : Sp := fun vs H Q _ => ∃ (p : Addr) (x : Q4), vs = [.ref p] ∧ TbK K H p x ∧ x.bt 1100 ∧ x.det = 1 ∧ ∀ H' : Hp, Same H H' → Q (.bl true) H'
def spIt0 (K : PySem.W.Frag) : Sp := fun vs H Q _ => ∃ (p : Addr) (x : Q4), vs = [.ref p] ∧ TbK K H p x ∧ x.bt 1100 ∧ x.det = 1 ∧ ∀ H' : Hp, Same H H' → Q .non H'
def spPr (K : PySem.W.Frag) : Sp := fun vs H Q _ => ∃ (p q : Addr) (x y : Q4), vs = [.ref p, .ref q] ∧ TbK K H p x ∧ TbK K H q y ∧ x.bt 1100 ∧ y.bt 1100 ∧ x.det = 1 ∧ y.det = 1 ∧ ∀ (H' : Hp) (z : Addr), Same H H' → H' z = some (.tup ((x.mul y).l.map V.int)) → Q (.ref z) H'
section
variable {P : Program} {w : World} {K : PySem.W.Frag} {mg : Str → Option Value} {base : Heap}
abbrev n_it : List Str := ["thing"]
theorem sc_it : FnScope n_it ["thing"] (defScope sIsTable) := ⟨rfl, rfl, rfl, by decide +kernel, rfl, by decide +kernel, by decide +kernel⟩
theorem nd_it : (["number"] : List Str).Nodup := by decide +kernel
theorem ok_it {f fw : Addr} {fd dw : FuncData} (T : Bi mg) (F : Fn K mg "is_table" sIsTable ["thing"] f fd) (FW : Fn K mg "is_whole" sIsWhole ["thing"] fw dw) (GW : FnOk P w K mg base CX0 1 fw dw ["thing"] spWhole) : FnOk P w K mg base CX0 2 f fd ["thing"] (spIt K) := by
  refine F.F.ok sc_it (fun vs H Q E h => ?_) (fun cdv A outer s H vs Q E hr h => ?_)
  · obtain ⟨p, x, rfl, _⟩ := h; rfl
  · obtain ⟨p, x, rfl, hp, ⟨ba, bb, bc, bd⟩, hdet, k⟩ := h
    have hr1 : Room 1 _ := hr.mono (by decide)
    refine ⟨_, (pss_cons (ps_if (PW.pt (pw_or (pt_not (pt_val (pe_callB call_isinstS rfl T.isin boot_isin (pa_cons (pv 0) (pa_cons (pe_bltn (v := .ty "tuple") rfl T.tuple boot_tuple rfl) pa_nil))))) (pw_or (pt_cmpR op_ne (pe_callB call_len_seq rfl T.len PySem.boot_len (pa_cons (pv 0) pa_nil)) pe_int (nomark _)) (pw_or1 (pt_not (pt_val (pe_callB (call_all_bools rfl) rfl T.all boot_all (pa_cons (pe_comp (N := n_it) (names := (defScope sIsTable).names) (N' := ["number"]) (k := 1) (pull := []) (te := (tCall spWhole [] E0 (tCons (tVar 0) tNil))) rfl ⟨by rfl, by decide +kernel, by decide +kernel, by rfl, by decide +kernel, by decide +kernel⟩ rfl rfl (pi_tup (pv 0)) (fun _ _ _ _ _ _ => pg_name (i := 0) nd_it rfl (Or.inl rfl)) (fun _ _ _ _ _ _ => (pe_call GW hr rfl FW.m FW.F.kp FW.b .nil pass0 (pa_cons (pv 0) pa_nil)))) pa_nil)))))))) (pss_one (ps_ret pe_bl)) pss_nil)
      (pss_one (ps_ret (pe_cmpR op_eq (pe_op op_sub (pe_op op_mulB (pe_ix ix_tup (pv 0) pe_int (fun _ _ => rfl)) (pe_ix ix_tup (pv 0) pe_int (fun _ _ => rfl))) (pe_op op_mulB (pe_ix ix_tup (pv 0) pe_int (fun _ _ => rfl)) (pe_ix ix_tup (pv 0) pe_int (fun _ _ => rfl)))) pe_int (nomark _))))), ?_⟩
    refine ⟨_, rfl, p, _, _, _, rfl, hp, kit_tup_tup K, _, rfl, ?_⟩
    refine iteF ?_
    refine ⟨_, rfl, p, _, rfl, .inr hp, rfl, _, rfl, ?_⟩
    refine iteF ?_
    dsimp only [tNext, tSeq, tIfS, tNot, tB, tCB, tCons]
    refine compWholeS rfl hp (by simp [Q4.l]) fun H3 e s3 he => ?_
    refine ⟨e, _, rfl, SqL.of he, _, rfl, ?_⟩
    rw [all_rep]
    refine iteF ?_
    have hp := s3.sqt hp
    refine ⟨_, rfl, p, _, 0, _, rfl, rfl, hp, atI_nat (j := 0) rfl, _, rfl, p, _, 3, _, rfl, rfl, hp, atI_nat (j := 3) rfl, _, _, rfl, rfl, ⟨ba.mono (by decide), bd.mono (by decide)⟩, _, rfl, p, _, 1, _, rfl, rfl, hp, atI_nat (j := 1) rfl, _, rfl, p, _, 2, _, rfl, rfl, hp, atI_nat (j := 2) rfl, _, _, rfl, rfl, ⟨bb.mono (by decide), bc.mono (by decide)⟩, _, _, rfl, rfl, rfl, ?_⟩
    have e1 : decide (V.int (x.a * x.d - x.b * x.c) = V.int 1) = true := decide_eq_true (congrArg V.int hdet)
    show Q (.bl (decide (V.int (x.a * x.d - x.b * x.c) = V.int 1))) H3
    rw [e1]
    exact k H3 s3
abbrev n_nt : List Str := ["thing"]
theorem sc_nt : FnScope n_nt ["thing"] (defScope sNeedTable) := ⟨rfl, rfl, rfl, by decide +kernel, rfl, by decide +kernel, by decide +kernel⟩
theorem ok_nt {f fi : Addr} {fd di : FuncData} (F : Fn K mg "need_table" sNeedTable ["thing"] f fd) (FI : Fn K mg "is_table" sIsTable ["thing"] fi di) (GI : FnOk P w K mg base CX0 2 fi di ["thing"] (spIt K)) : FnOk P w K mg base CX0 3 f fd ["thing"] (spIt0 K) := by
  refine F.F.ok sc_nt (fun vs H Q E h => ?_) (fun cdv A outer s H vs Q E hr h => ?_)
  · obtain ⟨p, x, rfl, _⟩ := h; rfl
  · obtain ⟨p, x, rfl, hp, hb, hdet, k⟩ := h
    have hr1 : Room 1 _ := hr.mono (by decide)
    refine ⟨_, (pss_one (ps_if (pt_not (pt_val (pe_call GI hr rfl FI.m FI.F.kp FI.b .nil pass0 (pa_cons (pv 0) pa_nil)))) pss_never pss_nil)), ?_⟩
    refine ⟨_, rfl, p, x, rfl, hp, hb, hdet, fun H1 s1 => ⟨_, rfl, ?_⟩⟩
    refine iteF ?_
    exact k H1 s1
abbrev n_pr : List Str := ["one", "other"]
theorem sc_pr : FnScope n_pr ["one", "other"] (defScope sProduct) := ⟨rfl, rfl, rfl, by decide +kernel, rfl, by decide +kernel, by decide +kernel⟩
theorem ok_pr {f fn : Addr} {fd dn : FuncData} (F : Fn K mg "product" sProduct ["one", "other"] f fd) (FN : Fn K mg "need_table" sNeedTable ["thing"] fn dn) (GN : FnOk P w K mg base CX0 3 fn dn ["thing"] (spIt0 K)) : FnOk P w K mg base CX0 4 f fd ["one", "other"] (spPr K) := by
  refine F.F.ok sc_pr (fun vs H Q E h => ?_) (fun cdv A outer s H vs Q E hr h => ?_)
  · obtain ⟨p, q, x, y, rfl, _⟩ := h; rfl
  · obtain ⟨p, q, x, y, rfl, hp, hq, hbx, hby, hdx, hdy, k⟩ := h
    have hr1 : Room 1 _ := hr.mono (by decide)
    refine ⟨_, (pss_cons (ps_expr (pe_call GN hr rfl FN.m FN.F.kp FN.b .nil pass0 (pa_cons (pv 0) pa_nil)))
      (pss_cons (ps_expr (pe_call GN hr rfl FN.m FN.F.kp FN.b .nil pass0 (pa_cons (pv 1) pa_nil)))
      (pss_one (ps_ret (pe_tup (pa_cons (pe_op op_add (pe_op op_mulB (pe_ix ix_tup (pv 0) pe_int (fun _ _ => rfl)) (pe_ix ix_tup (pv 1) pe_int (fun _ _ => rfl))) (pe_op op_mulB (pe_ix ix_tup (pv 0) pe_int (fun _ _ => rfl)) (pe_ix ix_tup (pv 1) pe_int (fun _ _ => rfl)))) (pa_cons (pe_op op_add (pe_op op_mulB (pe_ix ix_tup (pv 0) pe_int (fun _ _ => rfl)) (pe_ix ix_tup (pv 1) pe_int (fun _ _ => rfl))) (pe_op op_mulB (pe_ix ix_tup (pv 0) pe_int (fun _ _ => rfl)) (pe_ix ix_tup (pv 1) pe_int (fun _ _ => rfl)))) (pa_cons (pe_op op_add (pe_op op_mulB (pe_ix ix_tup (pv 0) pe_int (fun _ _ => rfl)) (pe_ix ix_tup (pv 1) pe_int (fun _ _ => rfl))) (pe_op op_mulB (pe_ix ix_tup (pv 0) pe_int (fun _ _ => rfl)) (pe_ix ix_tup (pv 1) pe_int (fun _ _ => rfl)))) (pa_cons (pe_op op_add (pe_op op_mulB (pe_ix ix_tup (pv 0) pe_int (fun _ _ => rfl)) (pe_ix ix_tup (pv 1) pe_int (fun _ _ => rfl))) (pe_op op_mulB (pe_ix ix_tup (pv 0) pe_int (fun _ _ => rfl)) (pe_ix ix_tup (pv 1) pe_int (fun _ _ => rfl)))) pa_nil))))))))), ?_⟩
    refine ⟨_, rfl, p, x, rfl, hp, hbx, hdx, fun H1 s1 => ?_⟩
    refine ⟨_, rfl, q, y, rfl, s1.sqt hq, hby, hdy, fun H2 s2 => ?_⟩
    have s12 := s1.trans s2
    replace hp := s12.sqt hp
    replace hq := s12.sqt hq
    obtain ⟨a1, a2, a3, a4⟩ := hbx.mono (m := 4000) (by decide)
    obtain ⟨b1, b2, b3, b4⟩ := hby.mono (m := 4000) (by decide)
    refine ⟨_, rfl, p, _, 0, _, rfl, rfl, hp, atI_nat (j := 0) rfl, _, rfl, q, _, 0, _, rfl, rfl, hq, atI_nat (j := 0) rfl, _, _, rfl, rfl, ⟨a1, b1⟩, _, rfl, p, _, 1, _, rfl, rfl, hp, atI_nat (j := 1) rfl, _, rfl, q, _, 2, _, rfl, rfl, hq, atI_nat (j := 2) rfl, _, _, rfl, rfl, ⟨a2, b3⟩, _, _, rfl, rfl, ?_⟩
    refine ⟨_, rfl, p, _, 0, _, rfl, rfl, hp, atI_nat (j := 0) rfl, _, rfl, q, _, 1, _, rfl, rfl, hq, atI_nat (j := 1) rfl, _, _, rfl, rfl, ⟨a1, b2⟩, _, rfl, p, _, 1, _, rfl, rfl, hp, atI_nat (j := 1) rfl, _, rfl, q, _, 3, _, rfl, rfl, hq, atI_nat (j := 3) rfl, _, _, rfl, rfl, ⟨a2, b4⟩, _, _, rfl, rfl, ?_⟩
    refine ⟨_, rfl, p, _, 2, _, rfl, rfl, hp, atI_nat (j := 2) rfl, _, rfl, q, _, 0, _, rfl, rfl, hq, atI_nat (j := 0) rfl, _, _, rfl, rfl, ⟨a3, b1⟩, _, rfl, p, _, 3, _, rfl, rfl, hp, atI_nat (j := 3) rfl, _, rfl, q, _, 2, _, rfl, rfl, hq, atI_nat (j := 2) rfl, _, _, rfl, rfl, ⟨a4, b3⟩, _, _, rfl, rfl, ?_⟩
    refine ⟨_, rfl, p, _, 2, _, rfl, rfl, hp, atI_nat (j := 2) rfl, _, rfl, q, _, 1, _, rfl, rfl, hq, atI_nat (j := 1) rfl, _, _, rfl, rfl, ⟨a3, b2⟩, _, rfl, p, _, 3, _, rfl, rfl, hp, atI_nat (j := 3) rfl, _, rfl, q, _, 3, _, rfl, rfl, hq, atI_nat (j := 3) rfl, _, _, rfl, rfl, ⟨a4, b4⟩, _, _, rfl, rfl, ?_⟩
    refine ⟨by show 4 ≤ sizeLine; decide, fun z hz => k _ z (same_upd s12 (s12.free hz)) upd_same⟩
end
end K1
namespace K1
open PySem L2 Sq
abbrev lts (v1 v2 : Value) : List (Key × Value) := [(Sum.inr (Str.ofString "s"), v1), (Sum.inr (Str.ofString "t"), v2)]
theorem str_s : (Str.ofString "s") = txt [115] := by decide +kernel
theorem str_t : (Str.ofString "t") = txt [116] := by decide +kernel
def isST (c : Nat) : Bool := c == 115 || c == 116
theorem small100k' {n : Nat} (h : n ≤ 100000) : n < sizeLine := by
  have : 100000 < sizeLine := by decide
  omega
theorem lts_t (v1 v2 : Value) : valueAt (lts v1 v2) (Sum.inr (txt [116]) : Key) = some v2 := by
  unfold lts
  rw [str_s, str_t]
  have e3 : txt [115] ≠ txt [116] := fun z => absurd (txt_inj z) (by decide)
  simp [valueAt, e3]
section
variable {P : Program} {w : World} {K : PySem.W.Frag} {mg : Str → Option Value} {base : Heap}
end
end K1
namespace Sq
open L2
theorem ilg (a b : Int) : a < b ∨ b ≤ a := by omega
theorem one_of {a d : Int} (h : a * d = 1) : a = 1 ∨ a = -1 := by
  have e : a.natAbs * d.natAbs = 1 := by rw [← Int.natAbs_mul, h]; rfl
  have h1 : d.natAbs ≠ 0 := fun z => by rw [z] at e; simp at e
  have h2 : a.natAbs ≠ 0 := fun z => by rw [z] at e; simp at e
  rcases Nat.lt_or_ge 1 a.natAbs with g | g
  · have := Nat.mul_le_mul (show 2 ≤ a.natAbs from g) (show 1 ≤ d.natAbs by omega)
    omega
  · omega
def qs (m : Int) : Q4 := ⟨1, m, 0, 1⟩
def shW (m : Int) : List Nat := if 0 ≤ m then (List.replicate m.toNat [115]).flatten else [116, 116, 116] ++ (List.replicate (-m).toNat [115, 116, 115]).flatten ++ [116]
theorem tb_s (n : Nat) : tb4 (List.replicate n [115]).flatten = qs n := by
  induction n with
  | zero => rfl
  | succ n ih =>
    rw [List.replicate_succ', List.flatten_append, tb4_app, ih]
    show (tb4 [115]).mul (qs n) = _
    refine Q4.ext' ?_ ?_ ?_ ?_ <;> simp [tb4, l4, qS, q1, qs, Q4.mul] <;> omega
theorem tb_sts (n : Nat) : tb4 (List.replicate n [115, 116, 115]).flatten = ⟨1, 0, n, 1⟩ := by
  induction n with
  | zero => rfl
  | succ n ih =>
    rw [List.replicate_succ', List.flatten_append, tb4_app, ih]
    show (tb4 [115, 116, 115]).mul ⟨1, 0, n, 1⟩ = _
    refine Q4.ext' ?_ ?_ ?_ ?_ <;> simp [tb4, l4, qS, qT, q1, Q4.mul] <;> omega
theorem tb_sh (m : Int) : tb4 (shW m) = qs m := by
  unfold shW
  split
  · rename_i h
    rw [tb_s]; unfold qs; rw [Int.toNat_of_nonneg h]
  · rename_i h
    rw [tb4_app, tb4_app, tb_sts]
    have e : ((-m).toNat : Int) = -m := Int.toNat_of_nonneg (by omega)
    rw [e]
    refine Q4.ext' ?_ ?_ ?_ ?_ <;> simp [tb4, l4, qS, qT, q1, qs, Q4.mul]
theorem sh_len (m : Int) : (shW m).length ≤ 4 + 3 * m.natAbs := by
  unfold shW
  split
  · rw [List.length_flatten, List.map_replicate, List.sum_replicate_nat, List.length_singleton]; omega
  · rw [List.length_append, List.length_append, List.length_flatten, List.map_replicate, List.sum_replicate_nat]
    have e : [115, 116, 115].length = 3 := rfl
    have e1 : [116, 116, 116].length = 3 := rfl
    have e2 : [116].length = 1 := rfl
    rw [e, e1, e2]; omega
theorem sh_len0 {m : Int} (h : 0 ≤ m) : (shW m).length = m.toNat := by
  unfold shW
  rw [if_pos h, List.length_flatten, List.map_replicate, List.sum_replicate_nat, List.length_singleton, Nat.mul_one]
theorem sh_st (m : Int) : ∀ c ∈ shW m, (c == 115 || c == 116) = true := by
  have rep : ∀ (n : Nat) (y : List Nat), (∀ c ∈ y, (c == 115 || c == 116) = true) → ∀ c ∈ (List.replicate n y).flatten, (c == 115 || c == 116) = true := fun n y h c hc => by
    obtain ⟨l, hl, hcl⟩ := List.mem_flatten.mp hc
    rw [(List.mem_replicate.mp hl).2] at hcl
    exact h c hcl
  unfold shW
  split
  · exact rep _ _ (by decide)
  · intro c hc
    rcases List.mem_append.mp hc with h | h
    · rcases List.mem_append.mp h with h | h
      · have : c = 116 := by simpa using h
        subst this; decide
      · exact rep _ _ (by decide) c h
    · rw [List.mem_singleton] at h; subst h; decide
/-- how often a shear is taken back -/
def mny (L : Q4) : Int := -((-L.a).fdiv L.c)
def wstep (L : Q4) : Q4 := (⟨0, 1, -1, 0⟩ : Q4).mul ((qs (-(mny L))).mul L)
theorem mny_spec (L : Q4) (h : L.c ≠ 0) : ∃ r, L.a = mny L * L.c - r ∧ ((0 < L.c ∧ 0 ≤ r ∧ r < L.c) ∨ (L.c < 0 ∧ L.c < r ∧ r ≤ 0)) := by
  rcases Int.lt_or_gt_of_ne h with hc | hc
  · have e1 : (-L.a).fdiv L.c = L.a / (-L.c) := by
      have : (-L.a).fdiv L.c = (-(-L.a)).fdiv (-L.c) := by rw [Int.neg_fdiv_neg]
      rw [this, Int.neg_neg, Int.fdiv_eq_ediv_of_nonneg _ (by omega)]
    have h1 := Int.mul_ediv_add_emod L.a (-L.c)
    have h2 := Int.emod_nonneg L.a (b := -L.c) (by omega)
    have h3 := Int.emod_lt_of_pos L.a (b := -L.c) (by omega)
    refine ⟨-(L.a % (-L.c)), ?_, .inr ⟨hc, by omega, by omega⟩⟩
    unfold mny
    rw [e1]
    grind
  · have e1 : (-L.a).fdiv L.c = (-L.a) / L.c := Int.fdiv_eq_ediv_of_nonneg _ (by omega)
    have h1 := Int.mul_ediv_add_emod (-L.a) L.c
    have h2 := Int.emod_nonneg (-L.a) (b := L.c) (by omega)
    have h3 := Int.emod_lt_of_pos (-L.a) (b := L.c) (by omega)
    refine ⟨(-L.a) % L.c, ?_, .inl ⟨hc, h2, h3⟩⟩
    unfold mny
    rw [e1]
    grind
def le60 (L : Q4) : Prop := L.a.natAbs ≤ 60 ∧ L.b.natAbs ≤ 60 ∧ L.c.natAbs ≤ 60 ∧ L.d.natAbs ≤ 60
theorem wstep_is (L : Q4) : wstep L = ⟨L.c, L.d, mny L * L.c - L.a, mny L * L.d - L.b⟩ := by
  refine Q4.ext' ?_ ?_ ?_ ?_ <;> simp only [wstep, Q4.mul, qs] <;> grind
theorem wstep_det {L : Q4} (h : L.det = 1) : (wstep L).det = 1 := by
  unfold wstep
  rw [det_mul4, det_mul4, h]
  simp [Q4.det, qs]
theorem wstep_back (z : List Nat) (L : Q4) : (tb4 ([116] ++ shW (mny L) ++ z)).mul (wstep L) = (tb4 z).mul L := by
  rw [tb4_app, tb4_app, tb_sh, mul_assoc4, mul_assoc4]
  congr 1
  refine Q4.ext' ?_ ?_ ?_ ?_ <;> simp [wstep, Q4.mul, qs, tb4, l4, qT, q1] <;> grind
theorem d_le {L : Q4} (h : L.det = 1) (hc : L.c.natAbs < L.a.natAbs) (hb : L.b.natAbs ≤ 60) : L.d.natAbs ≤ 60 := by
  have e : L.a * L.d = 1 + L.b * L.c := by unfold Q4.det at h; omega
  have e1 : L.a.natAbs * L.d.natAbs ≤ 1 + 60 * L.c.natAbs := by
    rw [← Int.natAbs_mul, e]
    have := Int.natAbs_add_le 1 (L.b * L.c)
    rw [Int.natAbs_mul] at this
    have := Nat.mul_le_mul_right L.c.natAbs hb
    omega
  rcases Nat.lt_or_ge 60 L.d.natAbs with h' | h'
  · have := Nat.mul_le_mul_left L.a.natAbs (show 61 ≤ L.d.natAbs from h')
    omega
  · exact h'
theorem core {a c m r : Int} (hc : 0 < c) (ha : c < a) (e : a = m * c - r) (h0 : 0 ≤ r) (h1 : r < c) : 2 ≤ m ∧ m - 1 ≤ a - c := by
  have hm : 2 ≤ m := by
    rcases ilg m 2 with h | h
    · have := Int.mul_le_mul_of_nonneg_right (show m ≤ 1 by omega) (Int.le_of_lt hc)
      omega
    · exact h
  refine ⟨hm, ?_⟩
  have := Int.mul_le_mul_of_nonneg_left (show 1 ≤ c by omega) (show 0 ≤ m - 2 by omega)
  have e2 : (m - 2) * c = m * c - 2 * c := by rw [Int.sub_mul]
  omega
theorem mny_le {L : Q4} (h : L.c ≠ 0) : (mny L).natAbs ≤ L.a.natAbs := by
  obtain ⟨r, e, hr⟩ := mny_spec L h
  generalize mny L = m at e
  generalize L.a = a at e ⊢
  generalize L.c = c at e h hr
  have key : ∀ a c r : Int, a = m * c - r → 0 < c → 0 ≤ r → r < c → m.natAbs ≤ a.natAbs := fun a c r e hc h0 h1 => by
    rcases ilg 0 m with hm | hm
    · have := Int.mul_le_mul_of_nonneg_left (show 1 ≤ c by omega) (show 0 ≤ m - 1 by omega)
      have e2 : (m - 1) * c = m * c - c := by rw [Int.sub_mul]; omega
      omega
    · have := Int.mul_le_mul_of_nonneg_left (show 1 ≤ c by omega) (show 0 ≤ -m by omega)
      have e2 : (-m) * c = -(m * c) := by rw [Int.neg_mul]
      omega
  rcases hr with ⟨hc, h0, h1⟩ | ⟨hc, h0, h1⟩
  · exact key a c r e hc h0 h1
  · have := key (-a) (-c) (-r) (by rw [e]; grind) (by omega) (by omega) (by omega)
    omega
structure WI (x L : Q4) (z : List Nat) : Prop where
  det : L.det = 1
  is : (tb4 z).mul L = x
  le : le60 L
  st : ∀ c ∈ z, (c == 115 || c == 116) = true
  ln : z = [] ∨ (L.c.natAbs < L.a.natAbs ∧ 0 ≤ L.a * L.c ∧ z.length ≤ 185 + 3 * (60 - L.a.natAbs))
theorem WI.step {x L : Q4} {z : List Nat} (h : WI x L z) (hc : L.c ≠ 0) : WI x (wstep L) ([116] ++ shW (mny L) ++ z) ∧ (wstep L).c.natAbs < L.c.natAbs := by
  obtain ⟨r, e, hr⟩ := mny_spec L hc
  have hm := mny_le hc
  have ew := wstep_is L
  have ec : (wstep L).c = r := by rw [ew]; show mny L * L.c - L.a = r; omega
  have ea : (wstep L).a = L.c := by rw [ew]
  have eb : (wstep L).b = L.d := by rw [ew]
  have lt : (wstep L).c.natAbs < (wstep L).a.natAbs := by rw [ec, ea]; omega
  have dt := wstep_det h.det
  obtain ⟨l1, l2, l3, g4⟩ := h.le
  have ld := d_le dt lt (by rw [eb]; exact g4)
  refine ⟨⟨dt, by rw [wstep_back]; exact h.is, ⟨by rw [ea]; exact l3, by rw [eb]; exact g4, by rw [ec]; omega, ld⟩, ?_, .inr ⟨lt, ?_, ?_⟩⟩, by rw [ec]; omega⟩
  · intro c hc
    rcases List.mem_append.mp hc with h1 | h1
    · rcases List.mem_append.mp h1 with h2 | h2
      · rw [List.mem_singleton] at h2; subst h2; decide
      · exact sh_st _ c h2
    · exact h.st c h1
  · rw [ea, ec]
    rcases hr with ⟨q, h0, h1⟩ | ⟨q, h0, h1⟩
    · exact Int.mul_nonneg (by omega) h0
    · have := Int.mul_nonneg (show 0 ≤ -L.c by omega) (show 0 ≤ -r by omega)
      rw [Int.neg_mul_neg] at this; exact this
  · rw [ea, List.length_append, List.length_append, List.length_singleton]
    rcases h.ln with hz | ⟨g1, g2, g3⟩
    · subst hz
      have := sh_len (mny L)
      rw [List.length_nil]; omega
    · have hm2 : 2 ≤ mny L ∧ mny L - 1 ≤ L.a.natAbs - L.c.natAbs := by
        generalize mny L = m at e ⊢
        generalize L.a = a at e g1 g2 ⊢
        generalize L.c = c at e hr hc g1 g2 ⊢
        rcases hr with ⟨q, h0, h1⟩ | ⟨q, h0, h1⟩
        · have ha : 0 < a := by
            rcases ilg 0 a with h | h
            · exact h
            · have := Int.mul_lt_mul_of_pos_right (show a < 0 by omega) q
              omega
          have := core q (by omega) e h0 h1
          omega
        · have ha : a < 0 := by
            rcases ilg a 0 with h | h
            · exact h
            · have := Int.mul_lt_mul_of_pos_right (show 0 < a by omega) (show 0 < -c by omega)
              have e9 : a * -c = -(a * c) := Int.mul_neg _ _
              omega
          have := core (a := -a) (c := -c) (m := m) (r := -r) (by omega) (by omega) (by rw [e]; grind) (by omega) (by omega)
          omega
      have := sh_len0 (show 0 ≤ mny L by omega)
      omega
/-- the word -/
def wend (L : Q4) (z : List Nat) : List Nat := if L.a = 1 then shW L.b ++ z else [116, 116] ++ shW (-L.b) ++ z
theorem WI.fin {x L : Q4} {z : List Nat} (h : WI x L z) (hc : L.c = 0) : tb4 (wend L z) = x ∧ (wend L z).length ≤ 1000 ∧ ∀ c ∈ wend L z, (c == 115 || c == 116) = true := by
  obtain ⟨l1, l2, l3, g4⟩ := h.le
  have zl : z.length ≤ 365 := by
    rcases h.ln with hz | ⟨g1, g2, g3⟩
    · subst hz; simp
    · omega
  have ad : L.a * L.d = 1 := by have := h.det; unfold Q4.det at this; rw [hc] at this; omega
  have ha : (L.a = 1 ∧ L.d = 1) ∨ (L.a = -1 ∧ L.d = -1) := by
    have := one_of ad
    rcases this with e | e
    · rw [e] at ad; left; omega
    · rw [e] at ad; right; omega
  unfold wend
  rcases ha with ⟨e1, e2⟩ | ⟨e1, e2⟩
  · rw [if_pos e1]
    refine ⟨?_, ?_, ?_⟩
    · rw [tb4_app, tb_sh, ← h.is]
      congr 1
      exact Q4.ext' e1.symm rfl hc.symm e2.symm
    · have := sh_len L.b
      rw [List.length_append]; omega
    · intro c hc
      rcases List.mem_append.mp hc with h1 | h1
      · exact sh_st _ c h1
      · exact h.st c h1
  · rw [if_neg (by omega)]
    refine ⟨?_, ?_, ?_⟩
    · rw [tb4_app, tb4_app, tb_sh, ← h.is]
      congr 1
      refine Q4.ext' ?_ ?_ ?_ ?_ <;> simp [Q4.mul, qs, tb4, l4, qT, q1, e1, e2, hc]
    · have := sh_len (-L.b)
      have e3 : [116, 116].length = 2 := rfl
      rw [List.length_append, List.length_append, e3]; omega
    · intro c hc
      rcases List.mem_append.mp hc with h1 | h1
      · rcases List.mem_append.mp h1 with h2 | h2
        · have : c = 116 := by simpa using h2
          subst this; decide
        · exact sh_st _ c h2
      · exact h.st c h1
theorem WI.start {x : Q4} (hd : x.det = 1) (hl : le60 x) : WI x x [] := ⟨hd, one_mul4 x, hl, fun _ h => (List.not_mem_nil h).elim, .inl rfl⟩
/-- a table far away -/
theorem far {x : Q4} {k : Int} (hd : x.det = 1) (hl : le60 x) (hk : 121 ≤ k) : ¬ le60 ((qs k).mul x) := by
  intro ⟨g1, g2, _, _⟩
  obtain ⟨l1, l2, l3, g4⟩ := hl
  have e1 : ((qs k).mul x).a = x.a + k * x.c := by simp only [qs, Q4.mul]; grind
  have e2 : ((qs k).mul x).b = x.b + k * x.d := by simp only [qs, Q4.mul]; grind
  rw [e1] at g1; rw [e2] at g2
  have big : ∀ y w : Int, y ≠ 0 → w.natAbs ≤ 60 → ¬ (w + k * y).natAbs ≤ 60 := fun y w hy hw hh => by
    rcases Int.lt_or_gt_of_ne hy with h | h
    · have := Int.mul_le_mul_of_nonneg_left (show 1 ≤ -y by omega) (show 0 ≤ k by omega)
      rw [Int.mul_neg] at this; omega
    · have := Int.mul_le_mul_of_nonneg_left (show 1 ≤ y by omega) (show 0 ≤ k by omega)
      omega
  have hc : x.c = 0 := Classical.byContradiction fun h => big _ _ h l1 g1
  have hd0 : x.d = 0 := Classical.byContradiction fun h => big _ _ h l2 g2
  unfold Q4.det at hd
  rw [hc, hd0] at hd
  simp at hd
end Sq
namespace Sq
open L2
def wlp : Nat → Q4 → List Nat → List Nat
  | 0, L, z => wend L z
  | n + 1, L, z => if L.c = 0 then wend L z else wlp n (wstep L) ([116] ++ shW (mny L) ++ z)
def wordF (x : Q4) : List Nat := wlp x.c.natAbs x []
theorem wlp_end {n : Nat} {L : Q4} {z : List Nat} (h : L.c = 0) : wlp n L z = wend L z := by
  cases n with
  | zero => rfl
  | succ n => exact if_pos h
theorem wlp_go {n : Nat} {L : Q4} {z : List Nat} (h : L.c ≠ 0) : wlp (n + 1) L z = wlp n (wstep L) ([116] ++ shW (mny L) ++ z) := if_neg h
theorem wlp_ok {x : Q4} : ∀ (n : Nat) (L : Q4) (z : List Nat), WI x L z → L.c.natAbs ≤ n → tb4 (wlp n L z) = x ∧ (wlp n L z).length ≤ 1000 ∧ ∀ c ∈ wlp n L z, (c == 115 || c == 116) = true
  | 0, L, z, h, hc => h.fin (by omega)
  | n + 1, L, z, h, hc => by
    by_cases e : L.c = 0
    · rw [wlp_end e]; exact h.fin e
    · rw [wlp_go e]
      obtain ⟨h1, h2⟩ := h.step e
      exact wlp_ok n _ _ h1 (by omega)
theorem wordF_ok {x : Q4} (hd : x.det = 1) (hl : le60 x) : tb4 (wordF x) = x ∧ (wordF x).length ≤ 1000 ∧ ∀ c ∈ wordF x, (c == 115 || c == 116) = true := wlp_ok _ x [] (WI.start hd hl) (Nat.le_refl _)
theorem bt_le60 {x : Q4} (h : le60 x) : x.bt 6 := by
  obtain ⟨h1, h2, h3, h4⟩ := h
  exact ⟨by show x.a.natAbs < 2 ^ 6; omega, by show x.b.natAbs < 2 ^ 6; omega, by show x.c.natAbs < 2 ^ 6; omega, by show x.d.natAbs < 2 ^ 6; omega⟩
theorem wstep_mid {L : Q4} : (qs (-(mny L))).mul L = ⟨-(wstep L).c, -(wstep L).d, (wstep L).a, (wstep L).b⟩ := by
  rw [wstep_is]
  refine Q4.ext' ?_ ?_ ?_ ?_ <;> simp only [Q4.mul, qs] <;> grind
theorem le60_mid {L : Q4} (h : le60 (wstep L)) : le60 ((qs (-(mny L))).mul L) := by
  rw [wstep_mid]
  obtain ⟨h1, h2, h3, h4⟩ := h
  exact ⟨by show (-(wstep L).c).natAbs ≤ 60; omega, by show (-(wstep L).d).natAbs ≤ 60; omega, h1, h2⟩
theorem WI.len {x L : Q4} {z : List Nat} (h : WI x L z) : z.length ≤ 365 := by
  rcases h.ln with hz | ⟨g1, g2, g3⟩
  · subst hz; simp
  · omega
end Sq
namespace L2
open PySem PySem.Spec PyProof.Rows
section
variable {X : Cx}
end
end L2
namespace L2
open PySem PySem.Spec PyProof.Rows
section
variable {X : Cx} {elts : List Expr} {k : Nat} {tpos : Pos}
end
end L2
namespace L2
open PySem PySem.Spec PyProof.Rows
section
variable {X : Cx}
end
end L2
namespace L2
open PySem PySem.Spec PyProof.Rows
theorem best_gt (val : Nat → Int) : ∀ n : Nat, argBest (fun i j => decide (val i > val j)) n ≤ n ∧ ∀ j, j ≤ n → val (argBest (fun i j => decide (val i > val j)) n) ≥ val j
  | 0 => ⟨Nat.le_refl _, fun j hj => by have : j = 0 := by omega
                                        subst this; exact Int.le_refl _⟩
  | n + 1 => by
    obtain ⟨h1, h2⟩ := best_gt val n
    show (if decide (val (n + 1) > val (argBest (fun i j => decide (val i > val j)) n)) = true then n + 1 else argBest (fun i j => decide (val i > val j)) n) ≤ n + 1 ∧ _
    show _ ∧ ∀ j, j ≤ n + 1 → val (if decide (val (n + 1) > val (argBest (fun i j => decide (val i > val j)) n)) = true then n + 1 else argBest (fun i j => decide (val i > val j)) n) ≥ val j
    by_cases c : val (n + 1) > val (argBest (fun i j => decide (val i > val j)) n)
    · rw [if_pos (decide_eq_true c)]
      refine ⟨Nat.le_refl _, fun j hj => ?_⟩
      rcases Nat.lt_or_ge j (n + 1) with d | d
      · have := h2 j (by omega); omega
      · have : j = n + 1 := by omega
        subst this; exact Int.le_refl _
    · rw [if_neg (by rw [decide_eq_true_iff]; exact c)]
      refine ⟨by omega, fun j hj => ?_⟩
      rcases Nat.lt_or_ge j (n + 1) with d | d
      · exact h2 j (by omega)
      · have : j = n + 1 := by omega
        subst this; omega
section
variable {X : Cx}
theorem boot_max : bootBuiltins "max" = some (.builtin "max") := by decide +kernel
theorem call_maxL (hc : X.calm = true) : CallR X (.builtin "max") (fun xs H Q => ∃ (p : Addr) (ns : List Int), xs = [.ref p] ∧ SqL X.K H p (ns.map V.int) ∧ ns ≠ [] ∧ ∀ m, m ∈ ns → (∀ y ∈ ns, y ≤ m) → Q (.int m) H) := by
  intro pins s σ H xs us Q I r h
  obtain ⟨p, ns, rfl, hq, hne, q⟩ := h
  obtain ⟨u, rfl, ru⟩ := vals1 r
  obtain rfl : u = Value.ref p := ru
  obtain ⟨its, rv, pl, hz⟩ := I.list hq
  have hL := pl.isList
  have hlt : p < s.heap.objs.size := by obtain ⟨o, ho, _⟩ := id hL; exact Heap.lt_size ho
  have hlen : its.length = ns.length := by rw [← rv.length]; simp
  have hpos : 0 < ns.length := List.length_pos_iff.mpr hne
  have hval : ∀ i v, its.toArray[i]? = some v → ∃ t, v = Value.int (ns.getD i 0) t := fun i v hP => by
    have hv : its[i]? = some v := by simpa using hP
    have hi : i < ns.length := by rw [← hlen]; exact (List.getElem?_eq_some_iff.mp hv).1
    have hb : (ns.map V.int)[i]? = some (.int ns[i]) := by simp [hi]
    obtain ⟨u, hu, t, rfl⟩ := rv.get hb
    rw [hv] at hu; cases hu
    exact ⟨t, by simp [List.getD_eq_getElem?_getD, hi]⟩
  refine call_max_walk (wpAny_pyIter_list hL ⟨s.heap.objs.size, _, _, its.toArray.size, _, _, _, rfl, Walks.list (A := X.A.in1) (I.ok.hd hc) s.heap.objs.size p (Nat.ne_of_lt hlt) its.toArray, ⟨⟨_, Heap.get?_push_size _ rfl, rfl, rfl⟩, hL.push _⟩, fun b hb => ?_, by rw [List.size_toArray]; omega, CmpOf.ints_gt (fun i => ns.getD i 0) hval, fun v h' tk hP hk => ?_⟩)
  · rw [Heap.size_push]
    simp at hb
    rcases hb with rfl | rfl
    · exact Nat.lt_succ_self _
    · exact Nat.lt_succ_of_lt hlt
  · obtain ⟨t, rfl⟩ := hval _ v hP
    obtain ⟨b1, b2⟩ := best_gt (fun i => ns.getD i 0) (its.toArray.size - 1)
    rw [List.size_toArray, hlen] at b1 b2 hP ⊢
    generalize argBest (fun i j => decide (ns.getD i 0 > ns.getD j 0)) (ns.length - 1) = k at b1 b2 hP ⊢
    have hk' : k < ns.length := by omega
    refine ⟨.int (ns.getD k 0), H, ?_, ⟨t, rfl⟩, q _ ?_ fun y hy => ?_⟩
    · refine I.kept fun b o e => hk b o (fun hb => ?_) (Heap.get?_push_of_some _ e)
      have := Heap.lt_size e
      simp at hb
      rw [hb] at this
      exact Nat.lt_irrefl _ this
    · simp [List.getD_eq_getElem?_getD, hk']
    · obtain ⟨j, hj, rfl⟩ := List.mem_iff_getElem.mp hy
      have := b2 j (by omega)
      simpa [List.getD_eq_getElem?_getD, hj] using this
end
end L2
namespace L2
open PySem PySem.Spec PyProof.Rows
/-- while, by a word that bears its own measure -/
theorem while_nat {c : TT} {tb : TS} {D : Ends} {σ : St} {H : Hp} (Pv : Nat → St → Hp → Prop) (h0 : ∃ m, Pv m σ H)
    (hs : ∀ m σ H, Pv m σ H → c σ H fun b H1 => if b = true then tb { D with nx := fun σ' H' => ∃ m', m' < m ∧ Pv m' σ' H', ct := fun σ' H' => ∃ m', m' < m ∧ Pv m' σ' H', bk := D.nx } σ H1 else D.nx σ H1)
    (mono : ∀ σ H Q Q', (∀ b H1, Q b H1 → Q' b H1) → c σ H Q → c σ H Q') : tWhile c tb D σ H := by
  refine ⟨Pv, h0, ?_⟩
  rintro m σ H p
  refine mono σ H _ _ (fun b H1 q => ?_) (hs m σ H p)
  cases b with
  | true => exact ⟨_, fun σ' H' z => z, q⟩
  | false => exact q
end L2
namespace K1
open PySem L2 Sq
theorem str_sts : (Str.ofString "sts") = txt [115, 116, 115] := by decide +kernel
theorem str_ttt : (Str.ofString "ttt") = txt [116, 116, 116] := by decide +kernel
def spItB (K : PySem.W.Frag) : Sp := fun vs H Q _ => ∃ (p : Addr) (x : Q4), vs = [.ref p] ∧ TbK K H p x ∧ x.bt 1100 ∧ ∀ H' : Hp, Same H H' → Q (.bl (decide (x.det = 1))) H'
def spNtB (K : PySem.W.Frag) (CT : Addr) : Sp := fun vs H Q E => ∃ (p : Addr) (x : Q4), vs = [.ref p] ∧ TbK K H p x ∧ x.bt 1100 ∧ (x.det = 1 → ∀ H' : Hp, Same H H' → Q .non H') ∧ (x.det ≠ 1 → ∀ H' : Hp, Same H H' → E (.ref CT) none H')
def spBk (K : PySem.W.Frag) : Sp := fun vs H Q _ => ∃ (p : Addr) (x : Q4), vs = [.ref p] ∧ TbK K H p x ∧ x.bt 1100 ∧ x.det = 1 ∧ ∀ (H' : Hp) (z : Addr), Same H H' → H' z = some (.tup ((⟨x.d, -x.b, -x.c, x.a⟩ : Q4).l.map V.int)) → Q (.ref z) H'
def spSh : Sp := fun vs H Q _ => ∃ m : Int, vs = [.int m] ∧ m.natAbs ≤ 130 ∧ Q (.str (txt (shW m))) H
section
variable {P : Program} {w : World} {K : PySem.W.Frag} {mg : Str → Option Value} {base : Heap}
abbrev n_itB : List Str := ["thing"]
theorem sc_itB : FnScope n_itB ["thing"] (defScope sIsTable) := ⟨rfl, rfl, rfl, by decide +kernel, rfl, by decide +kernel, by decide +kernel⟩
theorem nd_itB : (["number"] : List Str).Nodup := by decide +kernel
theorem ok_itB {f fw : Addr} {fd dw : FuncData} (T : Bi mg) (F : Fn K mg "is_table" sIsTable ["thing"] f fd) (FW : Fn K mg "is_whole" sIsWhole ["thing"] fw dw) (GW : FnOk P w K mg base CX0 1 fw dw ["thing"] spWhole) : FnOk P w K mg base CX0 2 f fd ["thing"] (spItB K) := by
  refine F.F.ok sc_itB (fun vs H Q E h => ?_) (fun cdv A outer s H vs Q E hr h => ?_)
  · obtain ⟨p, x, rfl, _⟩ := h; rfl
  · obtain ⟨p, x, rfl, hp, ⟨ba, bb, bc, bd⟩, k⟩ := h
    have hr1 : Room 1 _ := hr.mono (by decide)
    refine ⟨_, (pss_cons (ps_if (PW.pt (pw_or (pt_not (pt_val (pe_callB call_isinstS rfl T.isin boot_isin (pa_cons (pv 0) (pa_cons (pe_bltn (v := .ty "tuple") rfl T.tuple boot_tuple rfl) pa_nil))))) (pw_or (pt_cmpR op_ne (pe_callB call_len_seq rfl T.len PySem.boot_len (pa_cons (pv 0) pa_nil)) pe_int (nomark _)) (pw_or1 (pt_not (pt_val (pe_callB (call_all_bools rfl) rfl T.all boot_all (pa_cons (pe_comp (N := n_itB) (names := (defScope sIsTable).names) (N' := ["number"]) (k := 1) (pull := []) (te := (tCall spWhole [] E0 (tCons (tVar 0) tNil))) rfl ⟨by rfl, by decide +kernel, by decide +kernel, by rfl, by decide +kernel, by decide +kernel⟩ rfl rfl (pi_tup (pv 0)) (fun _ _ _ _ _ _ => pg_name (i := 0) nd_itB rfl (Or.inl rfl)) (fun _ _ _ _ _ _ => (pe_call GW hr rfl FW.m FW.F.kp FW.b .nil pass0 (pa_cons (pv 0) pa_nil)))) pa_nil)))))))) (pss_one (ps_ret pe_bl)) pss_nil)
      (pss_one (ps_ret (pe_cmpR op_eq (pe_op op_sub (pe_op op_mulB (pe_ix ix_tup (pv 0) pe_int (fun _ _ => rfl)) (pe_ix ix_tup (pv 0) pe_int (fun _ _ => rfl))) (pe_op op_mulB (pe_ix ix_tup (pv 0) pe_int (fun _ _ => rfl)) (pe_ix ix_tup (pv 0) pe_int (fun _ _ => rfl)))) pe_int (nomark _))))), ?_⟩
    refine ⟨_, rfl, p, _, _, _, rfl, hp, kit_tup_tup K, _, rfl, ?_⟩
    refine iteF ?_
    refine ⟨_, rfl, p, _, rfl, .inr hp, rfl, _, rfl, ?_⟩
    refine iteF ?_
    dsimp only [tNext, tSeq, tIfS, tNot, tB, tCB, tCons]
    refine compWholeS rfl hp (by simp [Q4.l]) fun H3 e s3 he => ?_
    refine ⟨e, _, rfl, SqL.of he, _, rfl, ?_⟩
    rw [all_rep]
    refine iteF ?_
    have hp := s3.sqt hp
    refine ⟨_, rfl, p, _, 0, _, rfl, rfl, hp, atI_nat (j := 0) rfl, _, rfl, p, _, 3, _, rfl, rfl, hp, atI_nat (j := 3) rfl, _, _, rfl, rfl, ⟨ba.mono (by decide), bd.mono (by decide)⟩, _, rfl, p, _, 1, _, rfl, rfl, hp, atI_nat (j := 1) rfl, _, rfl, p, _, 2, _, rfl, rfl, hp, atI_nat (j := 2) rfl, _, _, rfl, rfl, ⟨bb.mono (by decide), bc.mono (by decide)⟩, _, _, rfl, rfl, rfl, ?_⟩
    have e1 : decide (V.int (x.a * x.d - x.b * x.c) = V.int 1) = decide (x.det = 1) := by
      show decide (V.int x.det = V.int 1) = decide (x.det = 1)
      by_cases h : x.det = 1
      · rw [decide_eq_true h, decide_eq_true (congrArg V.int h)]
      · rw [decide_eq_false h, decide_eq_false (fun z => h (V.int.inj z))]
    show Q (.bl (decide (V.int (x.a * x.d - x.b * x.c) = V.int 1))) H3
    rw [e1]
    exact k H3 s3
abbrev n_ntB : List Str := ["thing"]
theorem sc_ntB : FnScope n_ntB ["thing"] (defScope sNeedTable) := ⟨rfl, rfl, rfl, by decide +kernel, rfl, by decide +kernel, by decide +kernel⟩
theorem ok_ntB {f fi : Addr} {fd di : FuncData} {CT : Addr} (hC : ExCls K CT) (hCm : mg "NoTable" = some (.ref CT)) (F : Fn K mg "need_table" sNeedTable ["thing"] f fd) (FI : Fn K mg "is_table" sIsTable ["thing"] fi di) (GI : FnOk P w K mg base CX0 2 fi di ["thing"] (spItB K)) : FnOk P w K mg base (CX1 P w) 3 f fd ["thing"] (spNtB K CT) := by
  refine F.F.ok1 sc_ntB (fun vs H Q E h => ?_) (fun cdv A outer s H vs Q E hr h => ?_)
  · obtain ⟨p, x, rfl, _⟩ := h; rfl
  · obtain ⟨p, x, rfl, hp, hb, k1, k2⟩ := h
    have hr1 : Room 1 _ := hr.mono (by decide)
    refine ⟨_, (pss_one (ps_if (pt_not (pt_val (pe_call GI hr rfl FI.m FI.F.kp FI.b .nil pass0 (pa_cons (pv 0) pa_nil)))) (pss_one (ps_raise rfl hC rfl hCm throw1 (pa_cons pe_str pa_nil))) pss_nil)), ?_⟩
    refine ⟨_, rfl, p, x, rfl, hp, hb, fun H1 s1 => ⟨_, rfl, ?_⟩⟩
    by_cases h : x.det = 1
    · rw [decide_eq_true h]
      refine iteF ?_
      exact k1 h H1 s1
    · rw [decide_eq_false h]
      refine iteT ?_
      exact ⟨by show 1 ≤ sizeLine; decide, k2 h H1 s1⟩
abbrev n_bk : List Str := ["table"]
theorem sc_bk : FnScope n_bk ["table"] (defScope sBackTable) := ⟨rfl, rfl, rfl, by decide +kernel, rfl, by decide +kernel, by decide +kernel⟩
theorem ok_bk {f fn : Addr} {fd dn : FuncData} (F : Fn K mg "back_table" sBackTable ["table"] f fd) (FN : Fn K mg "need_table" sNeedTable ["thing"] fn dn) (GN : FnOk P w K mg base CX0 3 fn dn ["thing"] (spIt0 K)) : FnOk P w K mg base CX0 4 f fd ["table"] (spBk K) := by
  refine F.F.ok sc_bk (fun vs H Q E h => ?_) (fun cdv A outer s H vs Q E hr h => ?_)
  · obtain ⟨p, x, rfl, _⟩ := h; rfl
  · obtain ⟨p, x, rfl, hp, hbx, hdx, k⟩ := h
    have hr1 : Room 1 _ := hr.mono (by decide)
    refine ⟨_, (pss_cons (ps_expr (pe_call GN hr rfl FN.m FN.F.kp FN.b .nil pass0 (pa_cons (pv 0) pa_nil)))
      (pss_one (ps_ret (pe_tup (pa_cons (pe_ix ix_tup (pv 0) pe_int (fun _ _ => rfl)) (pa_cons (pe_un un_neg (pe_ix ix_tup (pv 0) pe_int (fun _ _ => rfl))) (pa_cons (pe_un un_neg (pe_ix ix_tup (pv 0) pe_int (fun _ _ => rfl))) (pa_cons (pe_ix ix_tup (pv 0) pe_int (fun _ _ => rfl)) pa_nil)))))))), ?_⟩
    refine ⟨_, rfl, p, x, rfl, hp, hbx, hdx, fun H1 s1 => ?_⟩
    replace hp := s1.sqt hp
    refine ⟨_, rfl, p, _, 3, _, rfl, rfl, hp, atI_nat (j := 3) rfl, _, rfl, p, _, 1, _, rfl, rfl, hp, atI_nat (j := 1) rfl, _, rfl, _, rfl, p, _, 2, _, rfl, rfl, hp, atI_nat (j := 2) rfl, _, rfl, _, rfl, p, _, 0, _, rfl, rfl, hp, atI_nat (j := 0) rfl, ?_⟩
    refine ⟨by show 4 ≤ sizeLine; decide, fun z hz => k _ z (same_upd s1 (s1.free hz)) upd_same⟩
abbrev n_sh : List Str := ["many"]
theorem sc_sh : FnScope n_sh ["many"] (defScope sShears) := ⟨rfl, rfl, rfl, by decide +kernel, rfl, by decide +kernel, by decide +kernel⟩
theorem ok_sh {f : Addr} {fd : FuncData} (F : Fn K mg "shears" sShears ["many"] f fd) : FnOk P w K mg base CX0 1 f fd ["many"] spSh := by
  refine F.F.ok sc_sh (fun vs H Q E h => ?_) (fun cdv A outer s H vs Q E hr h => ?_)
  · obtain ⟨m, rfl, _⟩ := h; rfl
  · obtain ⟨m, rfl, hm, k⟩ := h
    refine ⟨_, (pss_cons (ps_if (pt_cmpR op_ge (pv 0) pe_int (nomark _)) (pss_one (ps_ret (pe_op op_mulT pe_str (pv 0)))) pss_nil)
      (pss_one (ps_ret (pe_op op_add_str (pe_op op_add_str pe_str (pe_op op_mulT pe_str (pe_un un_neg (pv 0)))) pe_str)))), ?_⟩
    refine ⟨_, rfl, _, _, rfl, rfl, _, rfl, ?_⟩
    refine ite2 (fun hc => ?_) (fun hc => ?_)
    · have h0 : 0 ≤ m := of_decide_eq_true hc
      refine ⟨_, rfl, [115], m.toNat, congrArg V.str str_s, by rw [Int.toNat_of_nonneg h0], by omega, by decide, ?_⟩
      have : shW m = (List.replicate m.toNat [115]).flatten := if_pos h0
      rw [← this]
      exact k
    · have h0 : ¬ 0 ≤ m := fun z => hc (decide_eq_true z)
      have hl : (List.replicate (-m).toNat [115, 116, 115]).flatten.length ≤ 390 := by
        rw [List.length_flatten, List.map_replicate, List.sum_replicate_nat]
        show (-m).toNat * 3 ≤ 390
        omega
      refine ⟨_, rfl, _, rfl, [115, 116, 115], (-m).toNat, congrArg V.str str_sts, by rw [Int.toNat_of_nonneg (by omega)], by omega, by decide, ?_⟩
      refine ⟨_, _, rfl, rfl, ?_, _, _, rfl, rfl, ?_, ?_⟩
      · rw [txt_len]; exact Nat.le_of_lt (small100k' (by show 3 + _ ≤ _; omega))
      · rw [str_ttt, str_t, txt_app, txt_len, txt_len, List.length_append]; exact Nat.le_of_lt (small100k' (by show 3 + _ + 1 ≤ _; omega))
      · rw [str_ttt, str_t, txt_app, txt_app]
        have : shW m = [116, 116, 116] ++ (List.replicate (-m).toNat [115, 116, 115]).flatten ++ [116] := if_neg h0
        rw [← this]
        exact k
end
end K1
namespace K1
open PySem L2 Sq
/-- a table stands at p -/
abbrev T4 (H : Hp) (p : Addr) (a b c d : Int) : Prop := H p = some (.tup ([a, b, c, d].map V.int))
def B4n (n : Nat) (a b c d : Int) : Prop := Bt n a ∧ Bt n b ∧ Bt n c ∧ Bt n d
theorem B4n.prod {n m : Nat} {a b c d e f g h : Int} (x : B4n n a b c d) (y : B4n m e f g h) : B4n (n + m + 1) (a * e + b * g) (a * f + b * h) (c * e + d * g) (c * f + d * h) := by
  obtain ⟨xa, xb, xc, xd⟩ := x
  obtain ⟨ye, yf, yg, yh⟩ := y
  exact ⟨(xa.mul ye).add (xb.mul yg), (xa.mul yf).add (xb.mul yh), (xc.mul ye).add (xd.mul yg), (xc.mul yf).add (xd.mul yh)⟩
def spTimes : Sp := fun vs H Q _ => ∃ (p q : Addr) (n m : Nat) (a b c d e f g h : Int), vs = [.ref p, .ref q] ∧ T4 H p a b c d ∧ T4 H q e f g h ∧ B4n n a b c d ∧ B4n m e f g h ∧ n ≤ 4000 ∧ m ≤ 4000 ∧
  ∀ (H' : Hp) (x : Addr), Same H H' → H x = none → T4 H' x (a * e + b * g) (a * f + b * h) (c * e + d * g) (c * f + d * h) → Q (.ref x) H'
section
variable {P : Program} {w : World} {K : PySem.W.Frag} {mg : Str → Option Value} {base : Heap}
abbrev nVm : List Str := ["_law_one", "_law_other", "_law_a", "_law_b", "_law_c", "_law_d", "_law_e", "_law_f", "_law_g", "_law_h"]
theorem scVm : FnScope nVm ["_law_one", "_law_other"] (defScope sLTimes) := ⟨rfl, rfl, rfl, by decide +kernel, rfl, by decide +kernel, by decide +kernel⟩
theorem ok_times4 {fa : Addr} {fd : FuncData} (F : Fn K mg "_law_times" sLTimes ["_law_one", "_law_other"] fa fd) : FnOk P w K mg base CX0 1 fa fd ["_law_one", "_law_other"] spTimes := by
  refine F.F.ok scVm (fun vs H Q E h => ?_) (fun cdv A outer s H vs Q E hr h => ?_)
  · obtain ⟨p, q, n, m, a, b, c, d, e, f, g, h, rfl, _⟩ := h; rfl
  · obtain ⟨p, q, n, m, a, b, c, d, e, f, g, h, rfl, hp, hq, ⟨xa, xb, xc, xd⟩, ⟨ye, yf, yg, yh⟩, hn, hm, k⟩ := h
    refine ⟨_, pss_cons (ps_asg (pv 0) (pg_tup rfl (pgs_cons (pg_name (i := 2) scVm.nd rfl (Or.inl rfl)) (pgs_cons (pg_name (i := 3) scVm.nd rfl (Or.inl rfl)) (pgs_cons (pg_name (i := 4) scVm.nd rfl (Or.inl rfl)) (pgs_cons (pg_name (i := 5) scVm.nd rfl (Or.inl rfl)) pgs_nil)))))) (pss_cons (ps_asg (pv 1) (pg_tup rfl (pgs_cons (pg_name (i := 6) scVm.nd rfl (Or.inl rfl)) (pgs_cons (pg_name (i := 7) scVm.nd rfl (Or.inl rfl)) (pgs_cons (pg_name (i := 8) scVm.nd rfl (Or.inl rfl)) (pgs_cons (pg_name (i := 9) scVm.nd rfl (Or.inl rfl)) pgs_nil))))))
      (pss_one (ps_ret (pe_tup (pa_cons (pe_op op_add (pe_op op_mulB (pv 2) (pv 6)) (pe_op op_mulB (pv 3) (pv 8))) (pa_cons (pe_op op_add (pe_op op_mulB (pv 2) (pv 7)) (pe_op op_mulB (pv 3) (pv 9))) (pa_cons (pe_op op_add (pe_op op_mulB (pv 4) (pv 6)) (pe_op op_mulB (pv 5) (pv 8))) (pa_cons (pe_op op_add (pe_op op_mulB (pv 4) (pv 7)) (pe_op op_mulB (pv 5) (pv 9))) pa_nil)))))))), ?_⟩
    refine ⟨_, rfl, p, _, rfl, SqT.of hp, rfl, _, _, rfl, _, _, rfl, _, _, rfl, _, _, rfl, rfl, ?_⟩
    refine ⟨_, rfl, q, _, rfl, SqT.of hq, rfl, _, _, rfl, _, _, rfl, _, _, rfl, _, _, rfl, rfl, ?_⟩
    refine ⟨_, rfl, _, rfl, _, _, rfl, rfl, ⟨xa.mono hn, ye.mono hm⟩, _, rfl, _, rfl, _, _, rfl, rfl, ⟨xb.mono hn, yg.mono hm⟩, _, _, rfl, rfl, ?_⟩
    refine ⟨_, rfl, _, rfl, _, _, rfl, rfl, ⟨xa.mono hn, yf.mono hm⟩, _, rfl, _, rfl, _, _, rfl, rfl, ⟨xb.mono hn, yh.mono hm⟩, _, _, rfl, rfl, ?_⟩
    refine ⟨_, rfl, _, rfl, _, _, rfl, rfl, ⟨xc.mono hn, ye.mono hm⟩, _, rfl, _, rfl, _, _, rfl, rfl, ⟨xd.mono hn, yg.mono hm⟩, _, _, rfl, rfl, ?_⟩
    refine ⟨_, rfl, _, rfl, _, _, rfl, rfl, ⟨xc.mono hn, yf.mono hm⟩, _, rfl, _, rfl, _, _, rfl, rfl, ⟨xd.mono hn, yh.mono hm⟩, _, _, rfl, rfl, by show 4 ≤ sizeLine; decide, fun x hx => ?_⟩
    exact k _ x (same_upd (Same.refl _) hx) hx upd_same
end
end K1
namespace K1
open PySem L2 Sq
theorem unitsD {A : Around} {k : Nat} (hr : Room k A) {d e : PyData} (h : d.depth ≤ 64) : A.units + min d.depth e.depth < cLine :=
  Nat.lt_of_le_of_lt (Nat.add_le_add_left (Nat.le_trans (Nat.min_le_left _ _) h) _) hr.units
end K1
namespace K1
open PySem L2 Sq
def tdI (r : List Int) : PyData := .tuple (r.map PyData.int)
theorem dtI {K : PySem.W.Frag} {H : Hp} : ∀ xs : List Int, DtAll K H (xs.map V.int) (xs.map PyData.int)
  | [] => .nil
  | x :: xs => .cons (.int _) (dtI xs)
theorem tdI_dt {K : PySem.W.Frag} {H : Hp} {p : Addr} {r : List Int} (h : SqT K H p (r.map V.int)) : Dt K H (.ref p) (tdI r) := .tup h (dtI r)
theorem eqvI : ∀ xs ys : List Int, PyData.eqvAll (xs.map PyData.int) (ys.map PyData.int) = decide (xs = ys)
  | [], [] => rfl
  | [], y :: ys => rfl
  | x :: xs, [] => rfl
  | x :: xs, y :: ys => by
    show ((x == y) && PyData.eqvAll (xs.map PyData.int) (ys.map PyData.int)) = _
    rw [eqvI xs ys]
    by_cases e : x = y
    · subst e
      by_cases e' : xs = ys <;> simp [e']
    · simp [e]
theorem tdI_eqv (r r' : List Int) : PyData.eqv (tdI r) (tdI r') = decide (r = r') := eqvI r r'
theorem layI : ∀ xs : List Int, PyData.canLayAll0 (xs.map PyData.int) = true
  | [] => rfl
  | x :: xs => by show (PyData.canLay0 (PyData.int _) && PyData.canLayAll0 (xs.map PyData.int)) = true; rw [layI xs]; rfl
theorem tdI_lay (r : List Int) : (tdI r).canLay0 = true := layI r
theorem depI : ∀ xs : List Int, PyData.depthAll (xs.map PyData.int) = 0
  | [] => rfl
  | x :: xs => by show max 0 (PyData.depthAll (xs.map PyData.int)) = 0; rw [depI xs]; rfl
theorem tdI_depth (r : List Int) : (tdI r).depth ≤ 64 := by
  show PyData.depthAll (r.map PyData.int) + 1 ≤ 64
  rw [depI]; decide
end K1
namespace K1
open PySem L2 Sq
def spLt : Sp := fun vs H Q _ => ∃ z : List Nat, vs = [.str (txt z)] ∧ z.length ≤ 1000 ∧ (∀ c ∈ z, isST c = true) ∧ ∀ (H' : Hp) (x : Addr), Same H H' → H' x = some (.tup ((tb4 z).l.map V.int)) → Q (.ref x) H'
section
variable {P : Program} {w : World} {K : PySem.W.Frag} {mg : Str → Option Value} {base : Heap}
abbrev n_lt : List Str := ["_law_word", "_law_table", "_law_letter"]
theorem sc_lt : FnScope n_lt ["_law_word"] (defScope sLTableOf) := ⟨rfl, rfl, rfl, by decide +kernel, rfl, by decide +kernel, by decide +kernel⟩
theorem ok_lt {f ft : Addr} {fd dt : FuncData} (F : Fn K mg "_law_table_of" sLTableOf ["_law_word"] f fd) (FT : Fn K mg "_law_times" sLTimes ["_law_one", "_law_other"] ft dt) (GT : FnOk P w K mg base CX0 1 ft dt ["_law_one", "_law_other"] spTimes) : FnOk P w K mg base CX0 2 f fd ["_law_word"] spLt := by
  refine F.F.ok sc_lt (fun vs H Q E h => ?_) (fun cdv A outer s H vs Q E hr h => ?_)
  · obtain ⟨z, rfl, _⟩ := h; rfl
  · obtain ⟨z, rfl, hz, hst, k⟩ := h
    have hr1 : Room 1 _ := hr.mono (by decide)
    refine ⟨_, (pss_cons (ps_set (i := 1) sc_lt.nd rfl (Or.inl rfl) (pe_tup (pa_cons pe_int (pa_cons pe_int (pa_cons pe_int (pa_cons pe_int pa_nil))))))
      (pss_cons (ps_for PassesOwn.never rfl (pi_str (pv 0)) (pg_name (i := 2) sc_lt.nd rfl (Or.inl rfl)) (pss_one (ps_set (i := 1) sc_lt.nd rfl (Or.inl rfl) (pe_call GT hr rfl FT.m FT.F.kp FT.b .nil pass0 (pa_cons (pe_ifExp (pt_cmpR op_eq (pv 2) pe_str (nomark _)) (pe_tup (pa_cons pe_int (pa_cons pe_int (pa_cons pe_int (pa_cons pe_int pa_nil))))) (pe_tup (pa_cons pe_int (pa_cons (pe_un un_neg pe_int) (pa_cons pe_int (pa_cons pe_int pa_nil)))))) (pa_cons (pv 1) pa_nil))))))
      (pss_one (ps_ret (pv 1))))), ?_⟩
    have four : 4 ≤ sizeLine := by decide
    refine ⟨four, fun t0 ht0 => ?_⟩
    refine ⟨_, rfl, _, rfl, for_str (fun i σ H3 => Same H H3 ∧ ∃ b o3, σ = [some (.str (txt z)), some (.ref b), o3] ∧ H3 b = some (.tup ((tb4 (z.take i)).l.map V.int))) ⟨same_upd (Same.refl H) ht0, t0, _, rfl, upd_same⟩ ?_ ?_⟩
    · rintro i c σ H3 hc ⟨s3, b, o3, rfl, hb⟩
      rw [txt_get] at hc
      have hil : i < z.length := (List.getElem?_eq_some_iff.mp hc).1
      have hcs := hst c (List.mem_of_getElem? hc)
      have hbt := bt_tb4 (z.take i)
      have hlt : (z.take i).length ≤ 1000 := by rw [List.length_take]; omega
      have take : z.take (i + 1) = z.take i ++ [c] := by rw [List.take_add_one, hc]; rfl
      refine ⟨_, rfl, rfl, _, rfl, ?_⟩
      by_cases e : c = 115
      · rw [decide_eq_true (by rw [e]; exact congrArg V.str str_s.symm)]
        refine iteT ?_
        refine ⟨four, fun t1 ht1 => ?_⟩
        have u1 := same_upd (o := .tup [.int 1, .int 1, .int 0, .int 1]) (Same.refl H3) ht1
        refine ⟨_, rfl, t1, b, 2, 1001, _, _, _, _, _, _, _, _, rfl, (by show (upd H3 t1 _) t1 = some (HO.tup ((l4 c).l.map V.int)); rw [upd_same]; unfold l4; rw [if_pos e]; rfl), u1 _ _ hb, bt_l4 c, hbt.mono (by omega), by decide, by decide, fun H5 y s5 _ hy => ⟨s3.trans (u1.trans s5), y, _, rfl, ?_⟩⟩
        rw [take, tb4_snoc]; exact hy
      · rw [decide_eq_false (fun z => e (by have := txt_inj ((V.str.inj z).trans str_s); simpa using this))]
        refine iteF ?_
        refine ⟨_, rfl, four, fun t1 ht1 => ?_⟩
        have u1 := same_upd (o := .tup [.int 0, .int (-1), .int 1, .int 0]) (Same.refl H3) ht1
        refine ⟨_, rfl, t1, b, 2, 1001, _, _, _, _, _, _, _, _, rfl, (by show (upd H3 t1 _) t1 = some (HO.tup ((l4 c).l.map V.int)); rw [upd_same]; unfold l4; rw [if_neg e]; rfl), u1 _ _ hb, bt_l4 c, hbt.mono (by omega), by decide, by decide, fun H5 y s5 _ hy => ⟨s3.trans (u1.trans s5), y, _, rfl, ?_⟩⟩
        rw [take, tb4_snoc]; exact hy
    · rintro σ H3 ⟨s3, b, o3, rfl, hb⟩
      rw [txt_len, List.take_length] at hb
      exact ⟨_, rfl, k H3 b s3 hb⟩
end
end K1
namespace K1
open PySem L2 Sq
theorem boot_abs : bootBuiltins "abs" = some (.builtin "abs") := by decide +kernel
abbrev teAbs : TE := tCB (fun xs H Q => ∃ i, xs = [.int i] ∧ Q (.int (if i < 0 then -i else i)) H) (tCons (tVar 0) tNil)
theorem compAbs {K : PySem.W.Frag} {Hc : Hp} {p : Addr} {r : List Int} {j : Nat} {Q : VK} {σ : St} (hj : σ[j]? = some (some (.ref p))) (hp : SqT K Hc p (r.map V.int)) (hn : r.length ≤ 1000)
    (k : ∀ (H' : Hp) (d : Addr), Same Hc H' → H' d = some (.lst ((r.map fun i => (i.natAbs : Int)).map V.int)) → Q (.ref d) H') :
    tComp (iTup K (tVar j)) 1 [] (gName 0) teAbs σ Hc Q := by
  refine ⟨_, hj, p, rfl, ⟨_, hp⟩, fun d hd => ?_⟩
  refine comp_by (Q := fun d H' => Q (.ref d) H') r.length ((r.map fun i => (i.natAbs : Int)).map V.int) (by simp) (fun i σ H3 => ∃ o, σ = [o] ∧ Same Hc H3) ⟨none, rfl, same_upd (Same.refl _) hd⟩ ?_ ?_
  · rintro i σ H3 hi ⟨o, rfl, s3⟩ hd3
    have hp3 := s3.sqt hp
    have hg : (r.map V.int)[i]? = some (.int r[i]) := by rw [List.getElem?_map, List.getElem?_eq_getElem hi]; rfl
    refine ⟨⟨_, _, hp3, hg⟩, fun y H4 ⟨e, hy⟩ => ?_⟩
    subst e
    have hy := hy _ hp3
    rw [hg] at hy
    cases hy
    have e9 : (if r[i] < 0 then -r[i] else r[i]) = ((r[i].natAbs : Nat) : Int) := by split <;> omega
    refine ⟨_, rfl, _, rfl, ?_⟩
    rw [e9]
    exact cpost hi hn hd3 (by simp [hi]) ⟨_, rfl, same_upd s3 hd⟩
  · rintro σ H3 ⟨o, rfl, s3⟩ hd3
    exact ⟨⟨_, s3.sqt hp, by rw [List.length_map]; exact Nat.le_refl _⟩, k H3 d s3 hd3⟩
theorem max60 {x : Q4} {m : Int} (h1 : m ∈ x.l.map fun i => (i.natAbs : Int)) (h2 : ∀ y ∈ x.l.map (fun i => (i.natAbs : Int)), y ≤ m) : m ≤ 60 ↔ le60 x := by
  unfold le60
  simp only [Q4.l, List.map_cons, List.map_nil, List.mem_cons, List.not_mem_nil, or_false] at h1 h2
  have g1 := h2 _ (.inl rfl)
  have g2 := h2 _ (.inr (.inl rfl))
  have g3 := h2 _ (.inr (.inr (.inl rfl)))
  have g4 := h2 _ (.inr (.inr (.inr rfl)))
  omega
theorem str_tt : (Str.ofString "tt") = txt [116, 116] := by decide +kernel
theorem bt_qT : qT.bt 1100 := Q4.bt.mono (n := 2) (⟨by show (0 : Int).natAbs < 2 ^ 2; decide, by show (-1 : Int).natAbs < 2 ^ 2; decide, by show (1 : Int).natAbs < 2 ^ 2; decide, by show (0 : Int).natAbs < 2 ^ 2; decide⟩ : qT.bt 2) (by decide)
theorem bt_qB : (⟨0, 1, -1, 0⟩ : Q4).bt 1100 := Q4.bt.mono (n := 2) (⟨by show (0 : Int).natAbs < 2 ^ 2; decide, by show (1 : Int).natAbs < 2 ^ 2; decide, by show (-1 : Int).natAbs < 2 ^ 2; decide, by show (0 : Int).natAbs < 2 ^ 2; decide⟩ : (⟨0, 1, -1, 0⟩ : Q4).bt 2) (by decide)
theorem bt_qs {m : Int} (h : m.natAbs ≤ 2000000) : (qs m).bt 1100 := Q4.bt.mono (n := 21) (⟨by show (1 : Int).natAbs < 2 ^ 21; decide, by show m.natAbs < 2 ^ 21; omega, by show (0 : Int).natAbs < 2 ^ 21; decide, by show (1 : Int).natAbs < 2 ^ 21; decide⟩ : (qs m).bt 21) (by decide)
def spWo (K : PySem.W.Frag) (CT : Addr) : Sp := fun vs H Q E => ∃ (p : Addr) (x : Q4), vs = [.ref p] ∧ TbK K H p x ∧ x.bt 1100 ∧ (x.det = 1 → le60 x → ∀ H' : Hp, Same H H' → Q (.str (txt (wordF x))) H') ∧ (x.det = 1 → ¬ le60 x → ∀ H' : Hp, Same H H' → E (.ref CT) none H') ∧ (x.det ≠ 1 → ∀ H' : Hp, Same H H' → E (.ref CT) none H')
section
variable {P : Program} {w : World} {K : PySem.W.Frag} {mg : Str → Option Value} {base : Heap}
abbrev n_wo : List Str := ["table", "left", "word", "many"]
theorem sc_wo : FnScope n_wo ["table"] (defScope sWordOf) := ⟨rfl, rfl, rfl, by decide +kernel, rfl, by decide +kernel, by decide +kernel⟩
theorem nd_wo : (["number"] : List Str).Nodup := by decide +kernel
theorem ok_wo {f fn fs fp fb : Addr} {fd dn ds dp db : FuncData} {CT dL b0 b1 : Addr} {tk : Tok} (T_abs : mg "abs" = none) (T_max : mg "max" = none) (hC : ExCls K CT) (hCm : mg "NoTable" = some (.ref CT)) (C_LETTERS : mg "LETTERS" = some (.ref dL)) (hL : TDi P w K dL (lts (.ref b0) (.ref b1))) (h1 : TTu K b1 [0, -1, 1, 0]) (C_GREATEST : mg "GREATEST" = some (.int 60 tk)) (F : Fn K mg "word_of" sWordOf ["table"] f fd) (FN : Fn K mg "need_table" sNeedTable ["thing"] fn dn) (GN : FnOk P w K mg base (CX1 P w) 3 fn dn ["thing"] (spNtB K CT))
    (FS : Fn K mg "shears" sShears ["many"] fs ds) (GS : FnOk P w K mg base CX0 1 fs ds ["many"] spSh)
    (FP : Fn K mg "product" sProduct ["one", "other"] fp dp) (GP : FnOk P w K mg base CX0 4 fp dp ["one", "other"] (spPr K))
    (FB : Fn K mg "back_table" sBackTable ["table"] fb db) (GB : FnOk P w K mg base CX0 4 fb db ["table"] (spBk K)) : FnOk P w K mg base (CX1 P w) 5 f fd ["table"] (spWo K CT) := by
  refine F.F.ok1 sc_wo (fun vs H Q E h => ?_) (fun cdv A outer s H vs Q E hr h => ?_)
  · obtain ⟨p, x, rfl, _⟩ := h; rfl
  · obtain ⟨p, x, rfl, hp, hbx, k1, k2, k3⟩ := h
    have hr1 : Room 1 _ := hr.mono (by decide)
    have hr3 : Room 3 _ := hr.mono (by decide)
    refine ⟨_, (pss_cons (ps_expr (pe_call GN hr3 rfl FN.m FN.F.kp FN.b .nil (pass1 fun _ _ _ z => z) (pa_cons (pv 0) pa_nil)))
      (pss_cons (ps_if (pt_cmpR op_gt (pe_callB (call_maxL rfl) rfl T_max boot_max (pa_cons (pe_comp (N := n_wo) (names := (defScope sWordOf).names) (N' := ["number"]) (k := 1) (pull := []) (te := teAbs) rfl ⟨by rfl, by decide +kernel, by decide +kernel, by rfl, by decide +kernel, by decide +kernel⟩ rfl rfl (pi_tup (pv 0)) (fun _ _ _ _ _ _ => pg_name (i := 0) nd_wo rfl (Or.inl rfl)) (fun _ _ _ _ _ _ => (pe_callB call_abs rfl T_abs boot_abs (pa_cons (pv 0) pa_nil)))) pa_nil)) (pe_glob (v := .int 60) (by rfl) C_GREATEST ⟨_, rfl⟩) (nomark _)) (pss_one (ps_raise rfl hC rfl hCm throw1 (pa_cons (pe_fstr (.cons pe_str (.cons (pe_fmtI (pe_glob (v := .int 60) (by rfl) C_GREATEST ⟨_, rfl⟩)) (.cons pe_str (.cons (pe_fmtI (pe_glob (v := .int 60) (by rfl) C_GREATEST ⟨_, rfl⟩)) .nil))))) pa_nil))) pss_nil)
      (PSs.nox (pss_cons (ps_set (i := 1) sc_wo.nd rfl (Or.inl rfl) (pv 0))
      (pss_cons (ps_set (i := 2) sc_wo.nd rfl (Or.inl rfl) pe_str)
      (pss_cons (ps_while PassesOwn.never (pt_cmpR op_ne (pe_ix ix_tup (pv 1) pe_int (fun _ _ => rfl)) pe_int (nomark _)) (pss_cons (ps_set (i := 3) sc_wo.nd rfl (Or.inl rfl) (pe_un un_neg (pe_op op_fdivN (pe_un un_neg (pe_ix ix_tup (pv 1) pe_int (fun _ _ => rfl))) (pe_ix ix_tup (pv 1) pe_int (fun _ _ => rfl)))))
      (pss_cons (ps_set (i := 2) sc_wo.nd rfl (Or.inl rfl) (pe_op op_add_str (pe_op op_add_str pe_str (pe_call GS hr1 rfl FS.m FS.F.kp FS.b .nil pass0 (pa_cons (pv 3) pa_nil))) (pv 2)))
      (pss_one (ps_set (i := 1) sc_wo.nd rfl (Or.inl rfl) (pe_call GP hr rfl FP.m FP.F.kp FP.b .nil pass0 (pa_cons (pe_call GB hr rfl FB.m FB.F.kp FB.b .nil pass0 (pa_cons (pe_dgetK (pe_glob (v := .ref dL) (by rfl) C_LETTERS rfl) pe_str (fun _ _ => rfl)) pa_nil)) (pa_cons (pe_call GP hr rfl FP.m FP.F.kp FP.b .nil pass0 (pa_cons (pe_tup (pa_cons pe_int (pa_cons (pe_un un_neg (pv 3)) (pa_cons pe_int (pa_cons pe_int pa_nil))))) (pa_cons (pv 1) pa_nil))) pa_nil))))))))
      (pss_cons (ps_if (pt_cmpR op_eq (pe_ix ix_tup (pv 1) pe_int (fun _ _ => rfl)) pe_int (nomark _)) (pss_one (ps_ret (pe_op op_add_str (pe_call GS hr1 rfl FS.m FS.F.kp FS.b .nil pass0 (pa_cons (pe_ix ix_tup (pv 1) pe_int (fun _ _ => rfl)) pa_nil)) (pv 2)))) pss_nil)
      (pss_one (ps_ret (pe_op op_add_str (pe_op op_add_str pe_str (pe_call GS hr1 rfl FS.m FS.F.kp FS.b .nil pass0 (pa_cons (pe_un un_neg (pe_ix ix_tup (pv 1) pe_int (fun _ _ => rfl))) pa_nil))) (pv 2))))))))))), ?_⟩
    refine ⟨_, rfl, p, x, rfl, hp, hbx, fun hd H1 s1 => ?_, k3⟩
    have hp1 := s1.sqt hp
    dsimp only [tNext, tSeq, tIfS, tTest, tOp, tCB, tCons, tNil]
    refine compAbs rfl hp1 (by simp [Q4.l]) fun H2 e s2 he => ?_
    refine ⟨e, _, rfl, SqL.of he, by simp [Q4.l], fun m hm1 hm2 => ⟨_, _, rfl, rfl, _, rfl, ?_⟩⟩
    have hm := max60 hm1 hm2
    have s12 := s1.trans s2
    have sl : ∀ n : Nat, n ≤ 100000 → n ≤ sizeLine := fun n h => Nat.le_of_lt (small100k' h)
    have four : 4 ≤ sizeLine := by decide
    by_cases hl : le60 x
    · rw [decide_eq_false (by have := hm.mpr hl; omega)]
      refine iteF ?_
      refine ⟨_, rfl, ?_⟩
      refine while_nat (fun m σ H3 => Same H H3 ∧ ∃ (q : Addr) (L : Q4) (z : List Nat) (o : Option V) (n : Nat), m = L.c.natAbs ∧ σ = [some (.ref p), some (.ref q), some (.str (txt z)), o] ∧ TbK K H3 q L ∧ WI x L z ∧ L.c.natAbs ≤ n ∧ wlp n L z = wordF x) ⟨_, s12, p, x, [], _, _, rfl, rfl, s2.sqt hp1, WI.start hd hl, Nat.le_refl _, rfl⟩ ?_ ?_
      · rintro m σ H3 ⟨s3, q, L, z, o, n, rfl, rfl, hq, hw, hn, hz⟩
        refine ⟨_, rfl, q, _, 2, _, rfl, rfl, hq, atI_nat (j := 2) rfl, rfl, _, rfl, ?_⟩
        have zl := hw.len
        refine ite2 (fun h => ?_) (fun h => ?_)
        · have hc : L.c ≠ 0 := by
            intro e
            rw [e] at h
            exact absurd h (by decide)
          obtain ⟨hw2, hlt⟩ := hw.step hc
          obtain ⟨l1, l2, l3, g4⟩ := hw.le
          have hm130 : (mny L).natAbs ≤ 130 := Nat.le_trans (mny_le hc) (by omega)
          have hmid := le60_mid hw2.le
          refine ⟨_, rfl, q, _, 0, _, rfl, rfl, hq, atI_nat (j := 0) rfl, _, rfl, _, rfl, q, _, 2, _, rfl, rfl, hq, atI_nat (j := 2) rfl, _, _, rfl, rfl, ⟨hc, by omega⟩, _, rfl, ?_⟩
          have hsl := sh_len (mny L)
          refine ⟨_, rfl, mny L, rfl, hm130, _, _, rfl, rfl, ?_, _, rfl, _, _, rfl, rfl, ?_, ?_⟩
          · rw [str_t, txt_len, txt_len]; exact sl _ (by show 1 + _ ≤ _; omega)
          · rw [str_t, txt_app, txt_len, txt_len, List.length_append]; exact sl _ (by show 1 + _ + _ ≤ _; omega)
          rw [str_t, txt_app, txt_app]
          refine ⟨dL, _, (Sum.inr (Str.ofString "t") : Key), .ref b1, _, by rfl, by rfl, hL, by rw [str_t]; exact lts_t _ _, rfl, ?_⟩
          refine ⟨b1, qT, rfl, h1.sq _, bt_qT, rfl, fun H4 y s4 hy => ?_⟩
          refine ⟨_, rfl, _, rfl, four, fun t ht => ?_⟩
          have ut := same_upd (o := .tup [.int 1, .int (-(mny L)), .int 0, .int 1]) (Same.refl H4) ht
          have tt : (upd H4 t (.tup [.int 1, .int (-(mny L)), .int 0, .int 1])) t = some (.tup ((qs (-(mny L))).l.map V.int)) := upd_same
          refine ⟨_, rfl, t, q, qs (-(mny L)), L, rfl, SqT.of tt, ut.sqt (s4.sqt hq), bt_qs (by omega), (bt_le60 hw.le).mono (by decide), by simp [Q4.det, qs], hw.det, fun H6 y2 s6 hy2 => ?_⟩
          refine ⟨y, y2, ⟨0, 1, -1, 0⟩, (qs (-(mny L))).mul L, rfl, SqT.of (s6 _ _ (ut _ _ hy)), SqT.of hy2, bt_qB, (bt_le60 hmid).mono (by decide), rfl, by rw [det_mul4, hw.det]; simp [Q4.det, qs], fun H7 y3 s7 hy3 => ?_⟩
          refine ⟨(wstep L).c.natAbs, hlt, s3.trans (s4.trans (ut.trans (s6.trans s7))), y3, wstep L, _, _, n - 1, rfl, rfl, SqT.of hy3, hw2, by omega, ?_⟩
          obtain ⟨n', rfl⟩ : ∃ n', n = n' + 1 := ⟨n - 1, by omega⟩
          rw [wlp_go hc] at hz
          exact hz
        · have hc : L.c = 0 := by
            rcases Decidable.em (L.c = 0) with e | e
            · exact e
            · exact absurd (by rw [decide_eq_false (fun z => e (V.int.inj z))]; rfl) h
          rw [wlp_end hc] at hz
          obtain ⟨l1, l2, l3, g4⟩ := hw.le
          refine ⟨_, rfl, q, _, 0, _, rfl, rfl, hq, atI_nat (j := 0) rfl, rfl, _, rfl, ?_⟩
          unfold wend at hz
          refine ite2 (fun g => ?_) (fun g => ?_)
          · have ha : L.a = 1 := V.int.inj (of_decide_eq_true g)
            rw [if_pos ha] at hz
            have hsl := sh_len L.b
            refine ⟨_, rfl, q, _, 1, _, rfl, rfl, hq, atI_nat (j := 1) rfl, L.b, rfl, by omega, _, rfl, _, _, rfl, rfl, ?_, ?_⟩
            · rw [txt_len, txt_len]; exact sl _ (by omega)
            · rw [txt_app, hz]
              exact k1 hd hl H3 s3
          · have ha : ¬ L.a = 1 := fun z => g (decide_eq_true (congrArg V.int z))
            rw [if_neg ha] at hz
            have hsl := sh_len (-L.b)
            refine ⟨_, rfl, q, _, 1, _, rfl, rfl, hq, atI_nat (j := 1) rfl, _, rfl, -L.b, rfl, by omega, _, _, rfl, rfl, ?_, _, rfl, _, _, rfl, rfl, ?_, ?_⟩
            · rw [str_tt, txt_len, txt_len]; exact sl _ (by show 2 + _ ≤ _; omega)
            · rw [str_tt, txt_app, txt_len, txt_len, List.length_append]; exact sl _ (by show 2 + _ + _ ≤ _; omega)
            · rw [str_tt, txt_app, txt_app, hz]
              exact k1 hd hl H3 s3
      · rintro σ H' Q1 Q2 hq ⟨y, e1, a1, a2, a3, a4, a5, a6, a7, a8, a9, b2, b3, b4⟩
        exact ⟨y, e1, a1, a2, a3, a4, a5, a6, a7, a8, a9, b2, b3, hq _ _ b4⟩
    · rw [decide_eq_true (by rcases Int.lt_or_le 60 m with h | h; exact h; exact absurd (hm.mp h) hl)]
      refine iteT ?_
      refine ⟨_, rfl, by decide, ?_⟩
      refine ⟨60, rfl, by decide, _, rfl, by decide, ?_⟩
      refine ⟨_, rfl, by decide, ?_⟩
      refine ⟨60, rfl, by decide, _, rfl, by decide, ?_⟩
      exact ⟨by show 1 ≤ sizeLine; decide, k2 hd hl H2 s12⟩
end
end K1
namespace L2
open PySem PySem.Spec PyProof.Rows
def hNo (K : PySem.W.Frag) (A : Addr) (ts : TS) (tr : TH) : TH := fun C d D σ H => ∃ b, PySem.W.subIn K C (.ref A) = some b ∧ if b = true then ts D σ H else tr C d D σ H
section
variable {X : Cx} {x : Str} {DA : Addr} {b₀ : Stmt} {suite : List Stmt} {ts : TS} {tr : TH} {np hpos pos : Pos} {rest : List ExceptHandler}
theorem ph_no (hc : X.calm = true) (hC : HCls X.K DA) (hg : Gl X x) (hm : X.mg x = some (.ref DA)) (hs : ∀ pn e, PSs (X.su pn e) (b₀ :: suite) ts) (hr : PH X rest tr)
    (hdb : (x == ("__debug__" : Str)) = false := by decide) : PH X (.ExceptHandler (some (.Name x np)) none (b₀ :: suite) hpos :: rest) (hNo X.K DA ts tr) := by
  intro pins s σ H D C d e hl h
  obtain ⟨b, hb, h⟩ := h
  have I := hl.inv
  have Is : Inv (X.su (X.pn ++ pins) e) [] σ H s := I.su
  obtain ⟨oe, vs, h1, h2, _⟩ : ∃ o vs, s.heap.get? e = some o ∧ o.cls = C ∧ o.dict = d ∧ o.data = .fields vs ∧ vs[2]? = some .none := by
    obtain ⟨_, _, _, _, _, _, _, _, ⟨oe, vs, T, oT, ts, h1, h2, h3, ⟨h4, h5⟩, _⟩, _⟩ := hl.ex
    exact ⟨oe, vs, h1, h2, h3, h4, h5⟩
  refine wpAny_handleBy_cons (codeAny_handlers_test (ld_glob Is hg hm ?_ hdb)) (by intro q; cases q)
  refine matches_ok I.kIn h1 h2 hC.ty hC.cl hC.ex hb ?_
  cases b with
  | false => exact hr pins s σ H D C d e hl (by simpa using h)
  | true =>
    have h : ts D σ H := by simpa using h
    refine codeAny_handlers_suite ?_
    obtain ⟨Hc, sc, B, f0, I0, ho, hbr, a, xo, hok, u⟩ := hl.ex
    refine air_flight (o := none) a xo fun h2 a2 x2 up => ?_
    have hl2 : Held X pins σ H C d e { s with heap := h2 } := ⟨Hc, sc, B, _, I0, ho, hbr, a2, x2, hok, u.up a rfl up⟩
    have I2 : Inv (X.su (X.pn ++ pins) e) [] σ H { s with heap := h2 } := hl2.inv.su
    refine wpAny_mono (hs (X.pn ++ pins) e [] _ _ _ D I2 h) (fun f s4 hf => ?_) fun _ _ z => z.elim
    have hd := I.ok.hd hc
    cases f with
    | next =>
      obtain ⟨σ4, H4, I4, q⟩ := hf
      exact ⟨_, H4, Inv.unsu hc hd I4, q⟩
    | brk =>
      obtain ⟨σ4, H4, I4, q⟩ := hf
      exact ⟨_, H4, Inv.unsu hc hd I4, q⟩
    | cont =>
      obtain ⟨σ4, H4, I4, q⟩ := hf
      exact ⟨_, H4, Inv.unsu hc hd I4, q⟩
    | ret uv =>
      obtain ⟨v, σ4, H4, I4, rv, q⟩ := hf
      exact ⟨v, _, H4, Inv.unsu hc hd I4, rv, q⟩
theorem get_list : PGet X (fun x y H Q => ∃ p xs i v, x = .ref p ∧ y = .int i ∧ SqL X.K H p xs ∧ 0 ≤ i ∧ atI xs i = some v ∧ Q v H) := by
  intro pins s σ H x y v u Q I rx ry h
  obtain ⟨p, xs, i, z, rfl, rfl, hq, h0, he, q⟩ := h
  cases rx
  obtain ⟨t, rfl⟩ := ry
  obtain ⟨its, r, pl, hz⟩ := I.list hq
  obtain ⟨j, h1, h2, h3, h4, h5⟩ := atI_get he
  obtain ⟨w, ew, rw'⟩ := r.get h2
  have hl := r.length
  have hn := line63
  have hj : i.toNat = j := by
    rw [seqIndex_of h0 h5] at h1
    exact Option.some.inj h1
  exact wpAny_getItem_list pl.isList h0 (by omega) (by rw [hj]; simpa using ew) ⟨z, H, I, rw', q⟩
end
end L2
namespace K1
open PySem L2 Sq
def spSp : Sp := fun vs H Q _ => ∃ (p : Addr) (x : Q4) (c : Int), vs = [.ref p, .int c] ∧ H p = some (.tup (x.l.map V.int)) ∧ le60 x ∧ x.det = 1 ∧ ∀ (H' : Hp) (y : Addr) (x' : Q4), Same H H' → H' y = some (.tup (x'.l.map V.int)) → x'.det = 1 → x'.bt 1000 → Q (.ref y) H'
def spMo : Sp := fun vs H Q _ => ∃ (p : Addr) (x : Q4), vs = [.ref p] ∧ H p = some (.tup (x.l.map V.int)) ∧ ∀ (H' : Hp) (m : Int), Same H H' → (m ≤ 60 ↔ le60 x) → Q (.int m) H'
def spRfT (K : PySem.W.Frag) : Sp := fun vs H Q _ => ∃ (p : Addr) (x : Q4), vs = [.ref p] ∧ TbK K H p x ∧ x.bt 1100 ∧ ¬ (x.det = 1 ∧ le60 x) ∧ ∀ H' : Hp, Same H H' → Q (.bl true) H'
section
variable {P : Program} {w : World} {K : PySem.W.Frag} {mg : Str → Option Value} {base : Heap}
abbrev n_sp : List Str := ["_law_table", "_law_cell", "_law_often"]
theorem sc_sp : FnScope n_sp ["_law_table", "_law_cell"] (defScope sStep) := ⟨rfl, rfl, rfl, by decide +kernel, rfl, by decide +kernel, by decide +kernel⟩
theorem ok_sp {f ft : Addr} {fd dt : FuncData} (F : Fn K mg "_law_step" sStep ["_law_table", "_law_cell"] f fd) (FT : Fn K mg "_law_times" sLTimes ["_law_one", "_law_other"] ft dt) (GT : FnOk P w K mg base CX0 1 ft dt ["_law_one", "_law_other"] spTimes) : FnOk P w K mg base CX0 2 f fd ["_law_table", "_law_cell"] spSp := by
  refine F.F.ok sc_sp (fun vs H Q E h => ?_) (fun cdv A outer s H vs Q E hr h => ?_)
  · obtain ⟨p, x, c, rfl, _⟩ := h; rfl
  · obtain ⟨p, x, c, rfl, hp, hl, hd, k⟩ := h
    have hr1 : Room 1 _ := hr.mono (by decide)
    refine ⟨_, (pss_cons (ps_if (pt_cmpR op_eq (pe_op op_mod (pv 1) pe_int) pe_int (nomark _)) (pss_one (ps_ret (pe_call GT hr rfl FT.m FT.F.kp FT.b .nil pass0 (pa_cons (pe_tup (pa_cons pe_int (pa_cons (pe_un un_neg pe_int) (pa_cons pe_int (pa_cons pe_int pa_nil))))) (pa_cons (pv 0) pa_nil))))) pss_nil)
      (pss_cons (ps_set (i := 2) sc_sp.nd rfl (Or.inl rfl) (pe_op op_sub (pe_op op_mod (pe_op op_fdiv (pv 1) pe_int) pe_int) pe_int))
      (pss_cons (ps_if (pt_cmpR op_lt (pe_op op_mod (pv 1) pe_int) pe_int (nomark _)) (pss_one (ps_set (i := 2) sc_sp.nd rfl (Or.inl rfl) (pe_op op_sub (pe_op op_mod (pe_op op_fdiv (pv 1) pe_int) pe_int) pe_int))) pss_nil)
      (pss_one (ps_ret (pe_call GT hr rfl FT.m FT.F.kp FT.b .nil pass0 (pa_cons (pe_tup (pa_cons pe_int (pa_cons (pv 2) (pa_cons pe_int (pa_cons pe_int pa_nil))))) (pa_cons (pv 0) pa_nil)))))))), ?_⟩
    have four : 4 ≤ sizeLine := by decide
    refine ⟨_, rfl, _, _, rfl, rfl, (by show (0 : Int) < 3; decide), rfl, _, rfl, ?_⟩
    refine ite2 (fun _ => ?_) (fun _ => ?_)
    · refine ⟨_, rfl, four, fun t ht => ?_⟩
      have ut := same_upd (o := .tup (qT.l.map V.int)) (Same.refl H) ht
      have tt : (upd H t (.tup (qT.l.map V.int))) t = some (.tup (qT.l.map V.int)) := upd_same
      have hq : qT.bt 2 := ⟨by show (0 : Int).natAbs < 2 ^ 2; decide, by show (-1 : Int).natAbs < 2 ^ 2; decide, by show (1 : Int).natAbs < 2 ^ 2; decide, by show (0 : Int).natAbs < 2 ^ 2; decide⟩
      refine ⟨_, rfl, t, p, 2, 6, _, _, _, _, _, _, _, _, rfl, tt, ut _ _ hp, hq, bt_le60 hl, by decide, by decide, fun H5 y s5 _ hy => k H5 y (qT.mul x) (ut.trans s5) hy (by rw [det_mul4, hd]; rfl) ?_⟩
      exact (Q4.bt.mono (n := 9) (B4n.prod hq (bt_le60 hl)) (by decide))
    refine ⟨_, rfl, _, _, rfl, rfl, ⟨by decide, by decide⟩, _, _, rfl, rfl, (by show (0 : Int) < 121; decide), _, _, rfl, rfl, ?_⟩
    refine ⟨_, rfl, _, _, rfl, rfl, (by show (0 : Int) < 9; decide), _, _, rfl, rfl, _, rfl, ?_⟩
    refine ite2 (fun _ => ?_) (fun _ => ?_)
    · refine ⟨_, rfl, _, _, rfl, rfl, ⟨by decide, by decide⟩, _, _, rfl, rfl, (by show (0 : Int) < 7; decide), _, _, rfl, rfl, ?_⟩
      refine ⟨_, rfl, four, fun t ht => ?_⟩
      have ut := same_upd (o := .tup ((qs (c / 9 % 7 - 3)).l.map V.int)) (Same.refl H) ht
      have tt : (upd H t (.tup ((qs (c / 9 % 7 - 3)).l.map V.int))) t = some (.tup ((qs (c / 9 % 7 - 3)).l.map V.int)) := upd_same
      have hq : (qs (c / 9 % 7 - 3)).bt 6 := ⟨by show (1 : Int).natAbs < 2 ^ 6; decide, by show ((c / 9 % 7 - 3)).natAbs < 2 ^ 6; omega, by show (0 : Int).natAbs < 2 ^ 6; decide, by show (1 : Int).natAbs < 2 ^ 6; decide⟩
      refine ⟨_, rfl, t, p, 6, 6, _, _, _, _, _, _, _, _, rfl, tt, ut _ _ hp, hq, bt_le60 hl, by decide, by decide, fun H5 y s5 _ hy => k H5 y ((qs (c / 9 % 7 - 3)).mul x) (ut.trans s5) hy (by rw [det_mul4, hd]; simp [Q4.det, qs]) ?_⟩
      exact (Q4.bt.mono (n := 13) (B4n.prod hq (bt_le60 hl)) (by decide))
    · refine ⟨_, rfl, four, fun t ht => ?_⟩
      have ut := same_upd (o := .tup ((qs (c / 3 % 121 - 60)).l.map V.int)) (Same.refl H) ht
      have tt : (upd H t (.tup ((qs (c / 3 % 121 - 60)).l.map V.int))) t = some (.tup ((qs (c / 3 % 121 - 60)).l.map V.int)) := upd_same
      have hq : (qs (c / 3 % 121 - 60)).bt 6 := ⟨by show (1 : Int).natAbs < 2 ^ 6; decide, by show ((c / 3 % 121 - 60)).natAbs < 2 ^ 6; omega, by show (0 : Int).natAbs < 2 ^ 6; decide, by show (1 : Int).natAbs < 2 ^ 6; decide⟩
      refine ⟨_, rfl, t, p, 6, 6, _, _, _, _, _, _, _, _, rfl, tt, ut _ _ hp, hq, bt_le60 hl, by decide, by decide, fun H5 y s5 _ hy => k H5 y ((qs (c / 3 % 121 - 60)).mul x) (ut.trans s5) hy (by rw [det_mul4, hd]; simp [Q4.det, qs]) ?_⟩
      exact (Q4.bt.mono (n := 13) (B4n.prod hq (bt_le60 hl)) (by decide))
abbrev n_mo : List Str := ["_law_table"]
theorem sc_mo : FnScope n_mo ["_law_table"] (defScope sLMost) := ⟨rfl, rfl, rfl, by decide +kernel, rfl, by decide +kernel, by decide +kernel⟩
theorem nd_mo : (["_law_number"] : List Str).Nodup := by decide +kernel
theorem ok_mo {f : Addr} {fd : FuncData} (T_abs : mg "abs" = none) (T_max : mg "max" = none) (F : Fn K mg "_law_most" sLMost ["_law_table"] f fd) : FnOk P w K mg base CX0 1 f fd ["_law_table"] spMo := by
  refine F.F.ok sc_mo (fun vs H Q E h => ?_) (fun cdv A outer s H vs Q E hr h => ?_)
  · obtain ⟨p, x, rfl, _⟩ := h; rfl
  · obtain ⟨p, x, rfl, hp, k⟩ := h
    refine ⟨_, (pss_one (ps_ret (pe_callB (call_maxL rfl) rfl T_max boot_max (pa_cons (pe_comp (N := n_mo) (names := (defScope sLMost).names) (N' := ["_law_number"]) (k := 1) (pull := []) (te := teAbs) rfl ⟨by rfl, by decide +kernel, by decide +kernel, by rfl, by decide +kernel, by decide +kernel⟩ rfl rfl (pi_tup (pv 0)) (fun _ _ _ _ _ _ => pg_name (i := 0) nd_mo rfl (Or.inl rfl)) (fun _ _ _ _ _ _ => (pe_callB call_abs rfl T_abs boot_abs (pa_cons (pv 0) pa_nil)))) pa_nil)))), ?_⟩
    dsimp only [tRet, tCB, tCons, tNil]
    refine compAbs rfl (SqT.of (K := K) hp) (by simp [Q4.l]) fun H2 e s2 he => ?_
    exact ⟨e, _, rfl, SqL.of he, by simp [Q4.l], fun m hm1 hm2 => k H2 m s2 (max60 hm1 hm2)⟩
abbrev n_rf : List Str := ["_law_table", "_law_refused_here"]
theorem sc_rf : FnScope n_rf ["_law_table"] (defScope sRefused) := ⟨rfl, rfl, rfl, by decide +kernel, rfl, by decide +kernel, by decide +kernel⟩
theorem ok_rf {f fp CT : Addr} {fd dp : FuncData} (fT : ClsF K CT) (mT : mg "NoTable" = some (.ref CT)) (tt : PySem.W.subIn K (.ref CT) (.ref CT) = some true) (F : Fn K mg "_law_refused" sRefused ["_law_table"] f fd)
    (FP : Fn K mg "word_of" sWordOf ["table"] fp dp) (GP : FnOk P w K mg base (CX1 P w) 5 fp dp ["table"] (spWo K CT)) : FnOk P w K mg base CX0 6 f fd ["_law_table"] (spRfT K) := by
  refine F.F.ok sc_rf (fun vs H Q E h => ?_) (fun cdv A outer s H vs Q E hr h => ?_)
  · obtain ⟨p, x, rfl, _⟩ := h; rfl
  · obtain ⟨p, x, rfl, hp, hb, hno, k⟩ := h
    refine ⟨_, pss_cons (ps_set (i := 1) sc_rf.nd rfl (Or.inl rfl) pe_bl)
      (pss_cons (ps_try rfl rfl (fun E' σ' pn W hx => ps1_expr (pe1_call GP hr rfl FP.m FP.F.kp FP.b .nil hx (pa_cons (pv 0) pa_nil)))
        (ph_no (ts := tAsg (tC (.bl true)) (gName 1)) rfl fT.h rfl mT (fun pn e => pss_one (ps_set (i := 1) sc_rf.nd rfl (Or.inl rfl) pe_bl)) ph_nil))
      (pss_one (ps_ret (pv 1)))), ?_⟩
    refine ⟨fun C' d' H' => C' = .ref CT ∧ Same H H', ?_, ?_⟩
    · exact ⟨_, rfl, p, x, rfl, hp, hb, fun h1 h2 => absurd ⟨h1, h2⟩ hno, fun _ _ H' s' => ⟨rfl, s'⟩, fun _ H' s' => ⟨rfl, s'⟩⟩
    · rintro C' d' H' ⟨rfl, sh⟩
      refine ⟨true, tt, ?_⟩
      refine iteT ?_
      exact ⟨_, rfl, k _ sh⟩
end
end K1
namespace K1
open PySem L2 Sq
def spCellT (K : PySem.W.Frag) : Sp := fun vs H Q _ => ∃ (a : Addr) (ns : List Int) (j : Int), vs = [.ref a, .int j] ∧ SqL K H a (ns.map V.int) ∧ 0 ≤ j ∧ ∀ v : Int, Q (.int v) H
section
variable {P : Program} {w : World} {K : PySem.W.Frag} {mg : Str → Option Value} {base : Heap}
theorem scVc : FnScope ["_law_script", "_law_k"] ["_law_script", "_law_k"] (defScope sLCellAt) := ⟨rfl, rfl, rfl, by decide +kernel, rfl, by decide +kernel, by decide +kernel⟩
theorem ok_cellT {f : Addr} {fd : FuncData} (T : Bi mg) (F : Fn K mg "_law_cell_at" sLCellAt ["_law_script", "_law_k"] f fd) : FnOk P w K mg base CX0 1 f fd ["_law_script", "_law_k"] (spCellT K) := by
  refine F.F.ok scVc (fun vs H Q E h => ?_) (fun cdv A outer s H vs Q E hr h => ?_)
  · obtain ⟨a, ns, j, rfl, _⟩ := h; rfl
  · obtain ⟨a, ns, j, rfl, hS, h0, k⟩ := h
    refine ⟨_, pss_cons (ps_if (pt_cmpR op_lt (pv 1) (pe_callB call_len_seq (by rfl) T.len PySem.boot_len (pa_cons (pv 0) pa_nil)) (nomark _)) (pss_one (ps_ret (pe_ix ix_list (pv 0) (pv 1) (fun _ _ => rfl)))) pss_nil)
      (pss_one (ps_ret pe_int)), ?_⟩
    refine ⟨_, rfl, _, rfl, a, _, rfl, .inl hS, _, _, rfl, rfl, _, rfl, ?_⟩
    refine ite2 (fun hlt => ?_) (fun _ => k 0)
    have hlt : j < ((ns.map V.int).length : Int) := of_decide_eq_true hlt
    rw [List.length_map] at hlt
    have e : atI (ns.map V.int) ((j.toNat : Nat) : Int) = some (.int (ns.getD j.toNat 0)) := atI_nat (by
      have : j.toNat < ns.length := by omega
      simp [List.getD_eq_getElem?_getD, this])
    rw [Int.toNat_of_nonneg h0] at e
    exact ⟨_, rfl, _, rfl, a, _, j, _, rfl, rfl, hS, e, k _⟩
end
end K1
namespace L2
open PySem PySem.Spec PyProof.Rows
theorem comp_turnIf {prog : Program} {w : World} {A : Around} {R : Result → Shared → Prop} {s : Shared} {elt target iter cnd : Expr} {scope : Scope} {pos : Pos} {it acc : Value} {env : Env} (I : Nat → Shared → Prop)
    (turn : ∀ n s, I n s → wpAny (model prog w) A (pyNext it) (fun r s₁ => match r with
      | none => R (.ok .next) s₁
      | some v => wpAny (model prog w) A (letOwnedTupleGo target it v) (fun _ s₀ => wpAny (model prog w) A (assign target env v) (fun _ s₂ =>
          wpAny (model prog w) A (isTrue cnd env (eval cnd env)) (fun ok s₃ => if ok = true then
          wpAny (model prog w) A (eval elt env) (fun x s₄ =>
              wpAny (model prog w) A (call (.builtin "list.append") [acc, x]) (fun _ s₅ => ∃ m, m < n ∧ I m s₅) (notedBy (model prog w) A env fun e s' => R (.error e) s') s₄) (notedBy (model prog w) A env fun e s' => R (.error e) s') s₃
            else ∃ m, m < n ∧ I m s₃) (notedBy (model prog w) A env fun e s' => R (.error e) s') s₂)
          (notedBy (model prog w) A env fun e s' => R (.error e) s') s₀) (notedBy (model prog w) A env fun e s' => R (.error e) s') s₁) (notedBy (model prog w) A env fun e s' => R (.error e) s') s)
    (n : Nat) (h : I n s) :
    codeAny (model prog w) A (.compLoop (.ListComp elt [⟨target, iter, [cnd], 0⟩] scope pos) 0 it acc env) R s := by
  refine codeAny_loop rfl I (fun n s hI => ?_) n h
  show wpAny _ A ((compTurn (.ListComp elt [⟨target, iter, [cnd], 0⟩] scope pos) 0 it acc env).onRaise (fun x => do noteFrame x env; theTreesLotGoes x)) _ _ s
  refine wpAny_noted ?_
  rw [compTurn_list]
  refine wpAny_bind (wpAny_standAt (wpAny_bind (wpAny_mono (turn n s hI) (fun r s₁ h₁ => ?_) fun _ _ h' => h')))
  cases r with
  | none => exact wpAny_pure h₁
  | some v =>
    refine wpAny_bind (wpAny_mono h₁ (fun _ s₀ h₀ => ?_) fun _ _ h' => h')
    refine wpAny_bind (wpAny_mono h₀ (fun _ s₂ h₂ => wpAny_bind (wpAny_tests_one (wpAny_mono h₂ (fun ok s₃ h₃ => ?_) fun _ _ h' => h'))) fun _ _ h' => h')
    cases ok with
    | false => exact wpAny_pure ⟨rfl, by simpa using h₃⟩
    | true =>
      have h₃ := (show wpAny _ _ _ _ _ _ from by simpa using h₃)
      exact wpAny_bind (wpAny_bind (wpAny_mono h₃ (fun x s₄ h₄ => wpAny_bind (wpAny_mono h₄ (fun _ s₅ h₅ => wpAny_pure (wpAny_pure ⟨rfl, h₅⟩)) fun _ _ h' => h')) fun _ _ h' => h'))
def tCompIf (wi : TI) (k : Nat) (pull : List Nat) (g : TG) (tt : TT) (te : TE) : TE := fun σ H Q => wi σ H fun J H1 => ∀ d, H1 d = none →
  ∃ W : Nat → Nat → St → Hp → Prop, (∃ m, W 0 m (bst k pull σ) (upd H1 d (.lst []))) ∧ ∀ i m σ' H', W i m σ' H' →
    (J.stop i H' ∧ Q (.ref d) H') ∨
    (J.go i H' ∧ ∀ x H2, J.yld i H' x H2 → g x σ' H2 fun σ3 H3 => tt σ3 H3 fun b H4 => if b = true then te σ3 H4 fun y H5 => ∃ xs, H5 d = some (.lst xs) ∧ xs.length < sizeLine ∧ ∃ m', m' < m ∧ W (i + 1) m' σ3 (upd H5 d (.lst (xs ++ [y])))
      else ∃ m', m' < m ∧ W (i + 1) m' σ3 H4)
section
variable {X : Cx} {elt tg iter cnd : Expr} {sc : Scope} {pos : Pos} {wi : TI} {g : TG} {tt : TT} {te : TE} {N : List Str} {names : List (Str × NameKind)} {N' : List Str} {k : Nat} {pull : List Nat}
theorem pe_compIf (hc : X.calm = true) (B : BScope N names N' k pull sc) (hN : X.N = N) (hnm : X.env.scope.names = names) (hi : PI X tg iter wi)
    (hg : ∀ cl C s₂ H₁ fp pins, PG (blk X sc cl C N' s₂ H₁ fp pins) tg g) (hcn : ∀ cl C s₂ H₁ fp pins, PT (blk X sc cl C N' s₂ H₁ fp pins) cnd tt) (he : ∀ cl C s₂ H₁ fp pins, PE (blk X sc cl C N' s₂ H₁ fp pins) elt te)
    (hs : ∀ x, foldedSetIterable iter X.env x = pure x := by intro _; rfl) : PE X (.ListComp elt [⟨tg, iter, [cnd], 0⟩] sc pos) (tCompIf wi k pull g tt te) := by
  intro pins s σ H Q I h
  rw [eval_ListComp]
  have hcells : ∀ y ∈ sc.names, y.2 = .free → ∃ c, X.env.cells.lookup y.1 = some c := fun y hy hf => I.ok.has y.1 (.inl (by
    show X.env.scope.names.lookup y.1 = _
    rw [hnm]; exact B.fre y hy hf))
  obtain ⟨cl, ecl, c1, _, c3⟩ := closureFor_is (env := X.env) sc.names [] hcells (fun x c e => nomatch e)
  rw [← closureFor_eq] at ecl
  refine wpAny_comprehension_free (use := none) rfl hs ecl B.kind B.loc (thn (hi pins s σ H _ I h) fun xv s1 h1 => thn h1 fun itv s2 h2 => ?_)
  obtain ⟨it, fp, tn, J, H1, e, I2, T, st2, f2, hW⟩ := h2
  subst e
  have ho : ∀ b ∈ fp, ∃ o, s2.heap.get? b = some o := fun b hb => let ⟨o, e, _⟩ := T.obj _ _ st2 b hb; ⟨o, e⟩
  refine wpAny_newObj_type (wpAny_newFunctionEnv B.nocell (by intro y hy; simp at hy) (fun h₁ hns₁ hsb₁ => ?_) B.kind)
  dsimp only at hns₁ hsb₁ ⊢
  rw [Heap.size_push] at hns₁ hsb₁ ⊢
  have old : ∀ b o, s2.heap.get? b = some o → h₁.get? b = some o := fun b o e => by
    have hlt := Heap.lt_size e
    exact (hsb₁.2 b (Nat.ne_of_lt (Nat.lt_succ_of_lt hlt))).trans (Heap.get?_push_of_some _ (Heap.get?_push_of_some _ e))
  have hd : h₁.get? s2.heap.objs.size = some { cls := .type "list", data := .seq ([] : List Value).toArray } :=
    (hsb₁.2 _ (Nat.ne_of_lt (Nat.lt_succ_self _))).trans (Heap.get?_push_of_some _ (Heap.get?_push_size _ rfl))
  have I4 := blk_start (tk := s2.toks + ([] : List (Str × Value)).length) B hN hnm I2 f2 ho c1 c3 hns₁ old hd
  have st4 : tn 0 h₁ := T.keep _ _ _ st2 fun b _ o e => old b o e
  obtain ⟨W, ⟨m0, w0⟩, turn⟩ := hW s2.heap.objs.size (I2.hok.fresh (Nat.le_refl _))
  have fr4 : ∀ b ∈ fp, (upd H1 s2.heap.objs.size (.lst [])) b = none := fun b hb => by
    obtain ⟨o, e⟩ := ho b hb
    rw [upd_ne (Nat.ne_of_lt (Heap.lt_size e))]
    exact (f2 b hb).1
  -- what stays true of the iterator's objects
  have stat : ∀ {H' : Hp}, (∀ b ∈ fp, H' b = none) → ∀ b ∈ fp, FpOk (blk X sc cl (s2.heap.objs.size + 1) N' s2 H1 fp pins) [] H' b := fun hn b hb => by
    refine ⟨hn b hb, (I4.ok.exf b hb).1, I4.ok.exfs b hb, .inl hb, (I4.ok.exf b hb).2, fun p hp => ?_⟩
    have hp : p ∈ X.pn ++ pins := by simpa [blk] using hp
    exact (f2 b hb).2.2.2.2.2 p hp
  have loop : ∀ s₃ : Shared, s₃ = { s2 with heap := h₁, toks := s2.toks + ([] : List (Str × Value)).length } →
      codeAny (model X.prog X.w) X.A (.compLoop (.ListComp elt [⟨tg, iter, [cnd], 0⟩] sc pos) 0 (.ref it) (.ref s2.heap.objs.size) (compEnvC sc cl (s2.heap.objs.size + 1) X.env))
        (compPost (model X.prog X.w) X.A X.xe none (EP X pins σ Q) (.ref s2.heap.objs.size) (s2.heap.objs.size + 1)) s₃ := by
    rintro s₃ rfl
    refine comp_turnIf (fun n s' => ∃ i σ' H', Inv (blk X sc cl (s2.heap.objs.size + 1) N' s2 H1 fp pins) [] σ' H' s' ∧ tn i s'.heap ∧ (∀ b ∈ fp, H' b = none) ∧ W i n σ' H') ?_ m0 ⟨0, _, _, I4, st4, fr4, w0⟩
    rintro n s3 ⟨i, σ3, H3, I3, st3, fr3, w3⟩
    rcases turn i n σ3 H3 w3 with ⟨stop, q⟩ | ⟨go, step⟩
    · refine thn (T.done (blk X sc cl (s2.heap.objs.size + 1) N' s2 H1 fp pins) rfl rfl rfl hc i [] s3 σ3 H3 _ I3 (stat fr3) st3 stop) fun r s4 ⟨hr, I5⟩ => ?_
      subst hr
      obtain ⟨m, hn, _⟩ := id I5.loc
      refine ⟨m, hn, fun h' hs' => ?_⟩
      have ne : ∀ b o, s2.heap.get? b = some o → b ≠ s2.heap.objs.size + 1 := fun b o e => Nat.ne_of_lt (Nat.lt_succ_of_lt (Heap.lt_size e))
      have U : Un (frs X.stack) fp H1 H3 s2.heap s4.heap := I5.base
      have U' : Un (frs X.stack) fp H1 H3 s2.heap h' := ⟨fun b o e n hb hx => (hs'.2 b (ne b o e)).trans (U.keep b o e n hb hx), fun b o e n hb hx => by
          obtain ⟨sl, z⟩ := U.slot b o e n hb hx
          exact ⟨sl, (hs'.2 b (ne b o e)).trans z⟩, U.free, fun b o e hx => by
          obtain ⟨o', z⟩ := U.there b o e hx
          exact ⟨o', (hs'.2 b (ne b o e)).trans z⟩, U.tups, U.frzs, U.tbls⟩
      have hok : HOk X.prog X.w H3 h' := HOk.but (C := s2.heap.objs.size + 1) I5.hok I5.free fun b o hb e => (hs'.2 b hb).trans e
      refine ⟨.ref s2.heap.objs.size, H3, I2.call' (s' := { s4 with heap := h' }) I5.os U' hok I5.bare fun b hb => ?_, rfl, q⟩
      exact ⟨(f2 b hb).2.2.2.1, (f2 b hb).2.1, (f2 b hb).2.2.2.2.1, (f2 b hb).2.2.2.2.2⟩
    · refine thn (T.item (blk X sc cl (s2.heap.objs.size + 1) N' s2 H1 fp pins) rfl rfl rfl hc i [] s3 σ3 H3 _ I3 (stat fr3) st3 go) fun r s4 ⟨u, hr, h4⟩ => ?_
      subst hr
      refine thn h4 fun _ s5 ⟨x, H5, I5, r5, y5, st5, fr5⟩ => ?_
      have I5' := I5.pinned (stat fr5) (T.obj _ _ st5)
      refine wpAny_mono (hg _ _ _ _ _ _ _ s5 σ3 H5 x u _ I5' r5 (step x H5 y5)) (fun _ s6 ⟨σ6, H6, I6, q6⟩ => ?_) fun _ _ z => z.elim
      refine wpAny_mono (hcn _ _ _ _ _ _ _ s6 σ6 H6 _ I6 q6) (fun ok s7 ⟨H7, I7, q7⟩ => ?_) fun _ _ z => z.elim
      cases ok with
      | false =>
        have q7 : ∃ m', m' < n ∧ W (i + 1) m' σ6 H7 := by simpa using q7
        obtain ⟨m', hm, w7⟩ := q7
        refine ⟨m', hm, i + 1, σ6, _, I7.unpinned, T.keep _ _ _ st5 fun b hb o e => (I7.pin (b, o) (List.mem_append_right _ (List.mem_append_right _ (mem_pinsAt hb e)))).1, fun b hb => ?_, w7⟩
        obtain ⟨o, e, _⟩ := T.obj _ _ st5 b hb
        exact (I7.pin (b, o) (List.mem_append_right _ (List.mem_append_right _ (mem_pinsAt hb e)))).2.1
      | true =>
        rw [if_pos rfl] at q7
        refine wpAny_mono (he _ _ _ _ _ _ _ s7 σ6 H7 _ I7 q7) (fun y s8 ⟨z, H8, I8, r8, xs, hx8, hz8, m', hm, w8⟩ => ?_) fun _ _ z => z.elim
        refine wpAny_mono (mt_append (X := blk X sc cl (s2.heap.objs.size + 1) N' s2 H1 fp pins) _ s8 σ6 H8 (.ref s2.heap.objs.size) [z] (.ref s2.heap.objs.size) [y] (fun _ H9 => H9 = upd H8 s2.heap.objs.size (.lst (xs ++ [z]))) I8 rfl (.cons r8 .nil) ⟨_, xs, z, rfl, rfl, hx8, hz8, rfl⟩) (fun _ s9 ⟨_, H9, I9, _, e9⟩ => ?_) fun _ _ z => z.elim
        subst e9
        refine ⟨m', hm, i + 1, σ6, _, I9.unpinned, T.keep _ _ _ st5 fun b hb o e => (I9.pin (b, o) (List.mem_append_right _ (List.mem_append_right _ (mem_pinsAt hb e)))).1, fun b hb => ?_, w8⟩
        obtain ⟨o, e, _⟩ := T.obj _ _ st5 b hb
        exact (I9.pin (b, o) (List.mem_append_right _ (List.mem_append_right _ (mem_pinsAt hb e)))).2.1
  exact codeAny_compStart_list (loop _ rfl) (T.self _ 0 _ _ _ st4 (loop _ rfl))
end
end L2
namespace L2
open PySem PySem.Spec PyProof.Rows
section
variable {X : Cx} {elt tg iter : Expr} {sc : Scope} {pos py spos : Pos} {wi : TI} {g : TG} {te : TE} {N : List Str} {names : List (Str × NameKind)} {N' : List Str} {k j : Nat} {pull : List Nat} {y : Str}
end
end L2
namespace L2
open PySem PySem.Spec PyProof.Rows
def XW (n : Nat) (Pv : Nat → List V → St → Hp → Prop) (d : Addr) (i m : Nat) (σ : St) (H : Hp) : Prop := m = n - i ∧ i ≤ n ∧ ∃ xs, Pv i xs σ H ∧ H d = some (.lst xs)
def XPost (n : Nat) (Pv : Nat → List V → St → Hp → Prop) (d : Addr) (i : Nat) (σ3 : St) (y : V) (H4 : Hp) : Prop := ∃ xs, H4 d = some (.lst xs) ∧ xs.length < sizeLine ∧ ∃ m', m' < n - i ∧ XW n Pv d (i + 1) m' σ3 (upd H4 d (.lst (xs ++ [y])))
def XSkip (n : Nat) (Pv : Nat → List V → St → Hp → Prop) (d : Addr) (i : Nat) (σ3 : St) (H4 : Hp) : Prop := ∃ m', m' < n - i ∧ XW n Pv d (i + 1) m' σ3 H4
theorem xskip {n : Nat} {Pv : Nat → List V → St → Hp → Prop} {d : Addr} {i : Nat} {σ3 : St} {H4 : Hp} {xs : List V} (hi : i < n) (hd : H4 d = some (.lst xs)) (hp : Pv (i + 1) xs σ3 H4) : XSkip n Pv d i σ3 H4 :=
  ⟨n - (i + 1), by omega, rfl, hi, _, hp, hd⟩
theorem compIf_ex {J : It} {g : TG} {tt : TT} {te : TE} {d : Addr} {σ0 : St} {H1 : Hp} {Q : Addr → Hp → Prop} (n : Nat) (Pv : Nat → List V → St → Hp → Prop) (h0 : Pv 0 [] σ0 (upd H1 d (.lst [])))
    (go : ∀ i xs σ H, i < n → Pv i xs σ H → H d = some (.lst xs) → J.go i H ∧ ∀ x H2, J.yld i H x H2 → g x σ H2 fun σ3 H3 => tt σ3 H3 fun b H4 => if b = true then te σ3 H4 fun y H5 => XPost n Pv d i σ3 y H5 else XSkip n Pv d i σ3 H4)
    (stop : ∀ xs σ H, Pv n xs σ H → H d = some (.lst xs) → J.stop n H ∧ Q d H) :
    ∃ W : Nat → Nat → St → Hp → Prop, (∃ m, W 0 m σ0 (upd H1 d (.lst []))) ∧ ∀ i m σ' H', W i m σ' H' →
      (J.stop i H' ∧ Q d H') ∨ (J.go i H' ∧ ∀ x H2, J.yld i H' x H2 → g x σ' H2 fun σ3 H3 => tt σ3 H3 fun b H4 => if b = true then te σ3 H4 fun y H5 => ∃ xs, H5 d = some (.lst xs) ∧ xs.length < sizeLine ∧ ∃ m', m' < m ∧ W (i + 1) m' σ3 (upd H5 d (.lst (xs ++ [y])))
        else ∃ m', m' < m ∧ W (i + 1) m' σ3 H4) := by
  refine ⟨XW n Pv d, ⟨n, by simp, Nat.zero_le _, [], h0, upd_same⟩, ?_⟩
  rintro i m σ H ⟨rfl, hi, xs, p, hd⟩
  by_cases hlt : i < n
  · exact .inr (go i xs σ H hlt p hd)
  · have : i = n := by omega
    subst this
    exact .inl (stop xs σ H p hd)
end L2
namespace K1
open PySem L2 Sq
theorem boot_str : bootBuiltins "str" = some (.type "str") := by decide +kernel
abbrev ttSt : TT := tTest (tOp (fun x y H Q => ∃ i j, x = .str i ∧ y = .str j ∧ Q (.bl (!(!(Builtin.Str.occurrences j i 0 j.length 1).isEmpty))) H) (tVar 0) (tC (.str (Str.ofString "st"))))
theorem cut_ints (ns : List Int) (lo hi : Nat) : ∃ ms : List Int, cutV (ns.map V.int) (some (lo : Int)) (some (hi : Int)) = ms.map V.int ∧ ms.length ≤ hi - lo := by
  unfold cutV
  rw [List.length_map, HT.sIx_nat, HT.sIx_nat]
  refine ⟨(ns.drop (min lo ns.length)).take (min hi ns.length - min lo ns.length), by rw [List.map_take, List.map_drop], ?_⟩
  rw [List.length_take]; omega
theorem occ_st {c : Nat} (h : isST c = true) : (!(!(Builtin.Str.occurrences (Str.ofString "st") (txt [c]) 0 (Str.ofString "st").length 1).isEmpty)) = false := by
  unfold isST at h
  rw [Bool.or_eq_true] at h
  rcases h with h | h
  · have := beq_iff_eq.mp h
    subst this; decide +kernel
  · have := beq_iff_eq.mp h
    subst this; decide +kernel
theorem compSt {Hc : Hp} {z : List Nat} {j : Nat} {Q : VK} {σ : St} (hj : σ[j]? = some (some (.str (txt z)))) (hst : ∀ c ∈ z, isST c = true)
    (k : ∀ (H' : Hp) (d : Addr), Same Hc H' → H' d = some (.lst []) → Q (.ref d) H') :
    tCompIf (iStr (tVar j)) 1 [] (gName 0) ttSt (tVar 0) σ Hc Q := by
  refine ⟨_, hj, txt z, rfl, fun e he => ?_⟩
  refine compIf_ex (σ0 := [none]) (Q := fun d H' => Q (.ref d) H') z.length (fun i xs σ H4 => ∃ o, σ = [o] ∧ Same Hc H4 ∧ xs = []) ⟨_, rfl, same_upd (Same.refl _) he, rfl⟩ ?_ ?_
  · rintro i xs σ H4 hi ⟨o, rfl, s4, rfl⟩ he4
    refine ⟨by show i < (txt z).length; rw [txt_len]; exact hi, fun x H5 ⟨e1, c, hc, e2⟩ => ?_⟩
    subst e1 e2
    rw [txt_get] at hc
    refine ⟨_, rfl, txt [c], _, rfl, rfl, _, rfl, ?_⟩
    rw [occ_st (hst c (List.mem_of_getElem? hc))]
    refine iteF ?_
    exact xskip hi he4 ⟨_, rfl, s4, rfl⟩
  · rintro xs σ H4 ⟨o, rfl, s4, rfl⟩ he4
    exact ⟨by show (txt z).length = z.length; rw [txt_len], k H4 e s4 he4⟩
theorem kit_str_str (K : PySem.W.Frag) : PySem.W.kitOne K (.type "str") (.type "str") = some true := by unfold PySem.W.kitOne; rfl
theorem ixN_of {n j : Nat} (h : j < n) : ixN n (j : Int) = some j := by
  unfold ixN
  rw [if_pos (by omega), if_pos (by omega)]; simp
def sp4 (x : Q4) (j : Nat) (e : Int) : Q4 :=
  match j with
  | 0 => ⟨x.a + e, x.b, x.c, x.d⟩
  | 1 => ⟨x.a, x.b + e, x.c, x.d⟩
  | 2 => ⟨x.a, x.b, x.c + e, x.d⟩
  | _ => ⟨x.a, x.b, x.c, x.d + e⟩
theorem sp4_at (x : Q4) {j : Nat} (h : j < 4) : (x.l.map V.int)[j]? = some (.int (x.l.getD j 0)) := by
  match j, h with
  | 0, _ => rfl
  | 1, _ => rfl
  | 2, _ => rfl
  | 3, _ => rfl
theorem sp4_set (x : Q4) (e : Int) {j : Nat} (h : j < 4) : (x.l.map V.int).set j (.int (x.l.getD j 0 + e)) = (sp4 x j e).l.map V.int := by
  match j, h with
  | 0, _ => rfl
  | 1, _ => rfl
  | 2, _ => rfl
  | 3, _ => rfl
theorem sp4_bt {x : Q4} {j : Nat} {e : Int} (h : le60 x) (h0 : 0 ≤ e) (h1 : e ≤ 3) : (sp4 x j e).bt 1100 := by
  obtain ⟨l1, l2, l3, g4⟩ := h
  have mk : ∀ y : Q4, y.a.natAbs ≤ 63 → y.b.natAbs ≤ 63 → y.c.natAbs ≤ 63 → y.d.natAbs ≤ 63 → y.bt 1100 := fun y k1 k2 k3 k4 =>
    Q4.bt.mono (n := 6) ⟨by show y.a.natAbs < 2 ^ 6; omega, by show y.b.natAbs < 2 ^ 6; omega, by show y.c.natAbs < 2 ^ 6; omega, by show y.d.natAbs < 2 ^ 6; omega⟩ (by decide)
  unfold sp4
  split
  · exact mk _ (by show (x.a + e).natAbs ≤ 63; omega) (by show x.b.natAbs ≤ 63; omega) (by show x.c.natAbs ≤ 63; omega) (by show x.d.natAbs ≤ 63; omega)
  · exact mk _ (by show x.a.natAbs ≤ 63; omega) (by show (x.b + e).natAbs ≤ 63; omega) (by show x.c.natAbs ≤ 63; omega) (by show x.d.natAbs ≤ 63; omega)
  · exact mk _ (by show x.a.natAbs ≤ 63; omega) (by show x.b.natAbs ≤ 63; omega) (by show (x.c + e).natAbs ≤ 63; omega) (by show x.d.natAbs ≤ 63; omega)
  · exact mk _ (by show x.a.natAbs ≤ 63; omega) (by show x.b.natAbs ≤ 63; omega) (by show x.c.natAbs ≤ 63; omega) (by show (x.d + e).natAbs ≤ 63; omega)
def spLaw (K : PySem.W.Frag) : Sp := fun vs H Q _ => ∃ (a : Addr) (ns : List Int), vs = [.ref a] ∧ SqL K H a (ns.map V.int) ∧ ∀ H' : Hp, Q (.bl true) H'
section
variable {P : Program} {w : World} {K : PySem.W.Frag} {mg : Str → Option Value} {base : Heap}
abbrev n_law : List Str := ["_law_script", "_law_table", "_law_cell", "_law_further", "_law_found", "_law_far", "_law_spoilt", "_law_a", "_law_b", "_law_c", "_law_d"]
theorem sc_law : FnScope n_law ["_law_script"] (defScope sLaw) := ⟨rfl, rfl, rfl, by decide +kernel, rfl, by decide +kernel, by decide +kernel⟩
theorem nd_law : (["_law_sign"] : List Str).Nodup := by decide +kernel
set_option maxHeartbeats 8000000 in
theorem ok_law {f fc fs fm fw fl ft fr : Addr} {fd dc ds dm dw dl dt dr : FuncData} {CT : Addr} (T : Bi mg) (T_str : mg "str" = none) (F : Fn K mg "law" sLaw ["_law_script"] f fd) (FC : Fn K mg "_law_cell_at" sLCellAt ["_law_script", "_law_k"] fc dc) (GC : FnOk P w K mg base CX0 1 fc dc ["_law_script", "_law_k"] (spCellT K))
    (FS : Fn K mg "_law_step" sStep ["_law_table", "_law_cell"] fs ds) (GS : FnOk P w K mg base CX0 2 fs ds ["_law_table", "_law_cell"] spSp)
    (FM : Fn K mg "_law_most" sLMost ["_law_table"] fm dm) (GM : FnOk P w K mg base CX0 1 fm dm ["_law_table"] spMo)
    (FW : Fn K mg "word_of" sWordOf ["table"] fw dw) (GW : FnOk P w K mg base (CX1 P w) 5 fw dw ["table"] (spWo K CT))
    (FL : Fn K mg "_law_table_of" sLTableOf ["_law_word"] fl dl) (GL : FnOk P w K mg base CX0 2 fl dl ["_law_word"] spLt)
    (FT : Fn K mg "_law_times" sLTimes ["_law_one", "_law_other"] ft dt) (GT : FnOk P w K mg base CX0 1 ft dt ["_law_one", "_law_other"] spTimes)
    (FR : Fn K mg "_law_refused" sRefused ["_law_table"] fr dr) (GR : FnOk P w K mg base CX0 6 fr dr ["_law_table"] (spRfT K)) : FnOk P w K mg base CX0 7 f fd ["_law_script"] (spLaw K) := by
  refine F.F.ok sc_law (fun vs H Q E h => ?_) (fun cdv A outer s H vs Q E hr h => ?_)
  · obtain ⟨a, ns, rfl, _⟩ := h; rfl
  · obtain ⟨sc, ns, rfl, hS, k⟩ := h
    have hr1 : Room 1 _ := hr.mono (by decide)
    have hr2 : Room 2 _ := hr.mono (by decide)
    have hr5 : Room 5 _ := hr.mono (by decide)
    refine ⟨_, (pss_cons (ps_set (i := 1) sc_law.nd rfl (Or.inl rfl) (pe_tup (pa_cons pe_int (pa_cons pe_int (pa_cons pe_int (pa_cons pe_int pa_nil))))))
      (pss_cons (ps_for PassesOwn.never rfl (pi_list (pe_slice sl_list (pv 0) (po_some pe_int) (po_some pe_int))) (pg_name (i := 2) sc_law.nd rfl (Or.inl rfl)) (pss_cons (ps_set (i := 3) sc_law.nd rfl (Or.inl rfl) (pe_call GS hr2 rfl FS.m FS.F.kp FS.b .nil pass0 (pa_cons (pv 1) (pa_cons (pv 2) pa_nil))))
      (pss_one (ps_if (pt_cmpR op_le (pe_call GM hr1 rfl FM.m FM.F.kp FM.b .nil pass0 (pa_cons (pv 3) pa_nil)) pe_int (nomark _)) (pss_one (ps_set (i := 1) sc_law.nd rfl (Or.inl rfl) (pv 3))) pss_nil))))
      (pss_cons (ps_set (i := 4) sc_law.nd rfl (Or.inl rfl) (pe_call GW hr5 rfl FW.m FW.F.kp FW.b .nil passE0 (pa_cons (pv 1) pa_nil)))
      (pss_cons (ps_if (PW.pt (pw_or (pt_not (pt_val (pe_callB call_isinst rfl T.isin boot_isin (pa_cons (pv 4) (pa_cons (pe_bltn (v := .ty "str") rfl T_str boot_str rfl) pa_nil))))) (pw_or (pt_cmpR op_gt (pe_callB call_len_str rfl T.len PySem.boot_len (pa_cons (pv 4) pa_nil)) pe_int (nomark _)) (pw_or1 (pt_cmpR op_gt (pe_callB call_len_seq rfl T.len PySem.boot_len (pa_cons (pe_compIf (N := n_law) (names := (defScope sLaw).names) (N' := ["_law_sign"]) (k := 1) (pull := []) (tt := ttSt) (te := tVar 0) rfl ⟨by rfl, by decide +kernel, by decide +kernel, by rfl, by decide +kernel, by decide +kernel⟩ rfl rfl (pi_str (pv 4)) (fun _ _ _ _ _ _ => pg_name (i := 0) nd_law rfl (Or.inl rfl)) (fun _ _ _ _ _ _ => pt_cmpR op_notIn_str (pv 0) pe_str (by with_unfolding_all rfl)) (fun _ _ _ _ _ _ => pv 0)) pa_nil)) pe_int (nomark _)))))) (pss_one (ps_ret pe_bl)) pss_nil)
      (pss_cons (ps_if (PW.pt (pw_or (pt_cmpR op_neD (pe_call GL hr2 rfl FL.m FL.F.kp FL.b .nil pass0 (pa_cons (pv 4) pa_nil)) (pv 1) (nomark _)) (pw_or1 (pt_cmpR op_ne (pe_call GW hr5 rfl FW.m FW.F.kp FW.b .nil passE0 (pa_cons (pv 1) pa_nil)) (pv 4) (nomark _))))) (pss_one (ps_ret pe_bl)) pss_nil)
      (pss_cons (ps_set (i := 2) sc_law.nd rfl (Or.inl rfl) (pe_call GC hr1 rfl FC.m FC.F.kp FC.b .nil pass0 (pa_cons (pv 0) (pa_cons pe_int pa_nil))))
      (pss_cons (ps_set (i := 5) sc_law.nd rfl (Or.inl rfl) (pe_call GT hr1 rfl FT.m FT.F.kp FT.b .nil pass0 (pa_cons (pe_tup (pa_cons pe_int (pa_cons (pe_op op_add pe_int (pe_op op_mod (pv 2) pe_int)) (pa_cons pe_int (pa_cons pe_int pa_nil))))) (pa_cons (pv 1) pa_nil))))
      (pss_cons (ps_set (i := 6) sc_law.nd rfl (Or.inl rfl) (pe_callTy call_list_of rfl T.list boot_list (pa_cons (pv 1) pa_nil)))
      (pss_cons (ps_augS (pv 6) (pe_op op_mod (pe_call GC hr1 rfl FC.m FC.F.kp FC.b .nil pass0 (pa_cons (pv 0) (pa_cons pe_int pa_nil))) pe_int) get_list (pe_op op_add pe_int (pe_op op_mod (pe_op op_fdiv (pv 2) pe_int) pe_int)) ip_add set_list)
      (pss_cons (ps_asg (pv 6) (pg_lst (n := 4) rfl (pgs_cons (pg_name (i := 7) sc_law.nd rfl (Or.inl rfl)) (pgs_cons (pg_name (i := 8) sc_law.nd rfl (Or.inl rfl)) (pgs_cons (pg_name (i := 9) sc_law.nd rfl (Or.inl rfl)) (pgs_cons (pg_name (i := 10) sc_law.nd rfl (Or.inl rfl)) pgs_nil))))))
      (pss_cons (ps_if (PW.pt (pw_and (pt_cmpR op_ne (pe_op op_sub (pe_op op_mulB (pv 7) (pv 10)) (pe_op op_mulB (pv 8) (pv 9))) pe_int (nomark _)) (pw_and1 (pt_not (pt_val (pe_call GR hr rfl FR.m FR.F.kp FR.b .nil pass0 (pa_cons (pe_callTy call_tuple_of rfl T.tuple boot_tuple (pa_cons (pv 6) pa_nil)) pa_nil))))))) (pss_one (ps_ret pe_bl)) pss_nil)
      (pss_one (ps_ret (pe_and (pe_call GR hr rfl FR.m FR.F.kp FR.b .nil pass0 (pa_cons (pv 5) pa_nil)) (pe_one (pe_cmpR op_eq (pe_call GW hr5 rfl FW.m FW.F.kp FW.b .nil passE0 (pa_cons (pv 1) pa_nil)) (pv 4) (nomark _))))))))))))))))), ?_⟩
    have four : 4 ≤ sizeLine := by decide
    have sl : ∀ n : Nat, n ≤ 100000 → n ≤ sizeLine := fun n h => Nat.le_of_lt (small100k' h)
    refine ⟨four, fun t0 ht0 => ?_⟩
    have s0 := same_upd (o := .tup (q1.l.map V.int)) (Same.refl H) ht0
    have h0 : (upd H t0 (.tup (q1.l.map V.int))) t0 = some (.tup (q1.l.map V.int)) := upd_same
    refine ⟨_, rfl, _, rfl, _, rfl, sc, _, rfl, s0.seq hS, fun l hl => ?_⟩
    obtain ⟨ms, em, lm⟩ := cut_ints ns 2 63
    have em' : cutV (ns.map V.int) (some 2) (some 63) = ms.map V.int := em
    rw [em']
    have s01 := same_upd (o := .lst (ms.map V.int)) (Same.refl (upd H t0 (.tup (q1.l.map V.int)))) hl
    have s1 := s0.trans s01
    have hl1 : (upd (upd H t0 (.tup (q1.l.map V.int))) l (.lst (ms.map V.int))) l = some (.lst (ms.map V.int)) := upd_same
    have h01 := s01 _ _ h0
    refine ⟨l, rfl, ⟨_, SqL.of hl1⟩, for_list (fun i σ H3 => ∃ (b : Addr) (x : Q4) (o2 o3 : Option V), σ = [some (.ref sc), some (.ref b), o2, o3, none, none, none, none, none, none, none] ∧ Same H H3 ∧ H3 l = some (.lst (ms.map V.int)) ∧ H3 b = some (.tup (x.l.map V.int)) ∧ le60 x ∧ x.det = 1) ⟨t0, q1, none, none, rfl, s1, hl1, h01, ⟨by decide, by decide, by decide, by decide⟩, rfl⟩ (fun i σ H3 _ ⟨b, x, o2, o3, _, _, h, _⟩ => SqL.of h) ?_ ?_⟩
    · rintro i v σ H3 hv ⟨b, x, o2, o3, rfl, s3, hl3, hb, hle, hd⟩
      obtain ⟨c, rfl⟩ : ∃ c, v = .int c := by
        rw [List.getElem?_map] at hv
        cases h9 : ms[i]? with
        | none => rw [h9] at hv; cases hv
        | some c => rw [h9] at hv; exact ⟨c, (Option.some.inj hv).symm⟩
      refine ⟨_, rfl, _, rfl, b, x, c, rfl, hb, hle, hd, fun H4 y x' s4 hy hd' hbt => ?_⟩
      refine ⟨_, rfl, y, x', rfl, hy, fun H5 m s5 hm => ?_⟩
      refine ⟨_, _, rfl, rfl, _, rfl, ?_⟩
      have s45 := s4.trans s5
      refine ite2 (fun g => ?_) (fun g => ?_)
      · exact ⟨_, rfl, y, x', _, _, rfl, s3.trans s45, s45 _ _ hl3, s5 _ _ hy, hm.mp (of_decide_eq_true g), hd'⟩
      · exact ⟨b, x, _, _, rfl, s3.trans s45, s45 _ _ hl3, s45 _ _ hb, hle, hd⟩
    · rintro σ H3 ⟨b, x, o2, o3, rfl, s3, hl3, hb, hle, hd⟩
      obtain ⟨w1, w2, w3⟩ := wordF_ok hd hle
      have hwst : ∀ c ∈ wordF x, isST c = true := w3
      have hbk := SqT.of (K := K) hb
      have hbt := (bt_le60 hle).mono (m := 1100) (by decide)
      refine ⟨_, rfl, b, x, rfl, hbk, hbt, fun _ _ H4 s4 => ?_, fun _ h => absurd hle h, fun h => absurd hd h⟩
      refine ⟨_, rfl, _, _, _, _, rfl, .str _, kit_str_str K, _, rfl, ?_⟩
      refine iteF ?_
      refine ⟨_, rfl, txt (wordF x), rfl, by rw [txt_len]; exact sl _ (by omega), _, _, rfl, rfl, _, rfl, ?_⟩
      rw [txt_len, decide_eq_false (by omega)]
      refine iteF ?_
      dsimp only [tTest, tOp, tCB, tCons, tNil]
      refine compSt rfl hwst fun H5 d s5 hd5 => ?_
      refine ⟨d, _, rfl, .inl (SqL.of hd5), _, _, rfl, rfl, _, rfl, ?_⟩
      refine iteF ?_
      have hb5 := s5 _ _ (s4 _ _ hb)
      refine ⟨_, rfl, wordF x, rfl, w2, hwst, fun H6 y s6 hy => ?_⟩
      rw [w1] at hy
      refine ⟨_, rfl, tdI _, tdI _, tdI_dt (SqT.of hy), tdI_dt (SqT.of (s6 _ _ hb5)), tdI_lay _, tdI_lay _, unitsD hr (tdI_depth _), _, rfl, ?_⟩
      show if (!PyData.eqv (tdI _) (tdI _)) = true then _ else _
      rw [tdI_eqv, decide_eq_true rfl]
      refine iteF ?_
      refine ⟨_, rfl, b, x, rfl, SqT.of (s6 _ _ hb5), hbt, fun _ _ H7 s7 => ?_, fun _ h => absurd hle h, fun h => absurd hd h⟩
      refine ⟨_, rfl, rfl, _, rfl, ?_⟩
      show if (!decide (V.str _ = V.str _)) = true then _ else _
      rw [decide_eq_true rfl]
      refine iteF ?_
      have s47 := s4.trans (s5.trans (s6.trans s7))
      have hb7 := s47 _ _ hb
      have hS7 := (s3.trans s47).seq hS
      refine ⟨_, rfl, sc, ns, 0, rfl, hS7, by decide, fun c => ?_⟩
      refine ⟨_, rfl, _, _, rfl, rfl, (by show (0 : Int) < 1000003; decide), _, _, rfl, rfl, four, fun t ht => ?_⟩
      have ut := same_upd (o := .tup ((qs (121 + c % 1000003)).l.map V.int)) (Same.refl H7) ht
      have tt : (upd H7 t (.tup ((qs (121 + c % 1000003)).l.map V.int))) t = some (.tup ((qs (121 + c % 1000003)).l.map V.int)) := upd_same
      have hq8 : (qs (121 + c % 1000003)).bt 21 := ⟨by show (1 : Int).natAbs < 2 ^ 21; decide, by show (121 + c % 1000003).natAbs < 2 ^ 21; omega, by show (0 : Int).natAbs < 2 ^ 21; decide, by show (1 : Int).natAbs < 2 ^ 21; decide⟩
      refine ⟨_, rfl, t, b, 21, 6, _, _, _, _, _, _, _, _, rfl, tt, ut _ _ hb7, hq8, bt_le60 hle, by decide, by decide, fun H8 y8 s8 _ hy8 => ?_⟩
      have s78 := ut.trans s8
      have hb8 := s78 _ _ hb7
      have hS8 := s78.seq hS7
      refine ⟨_, rfl, b, _, rfl, .inr (SqT.of hb8), fun l2 hl2 => ?_⟩
      have u9 := same_upd (o := .lst (x.l.map V.int)) (Same.refl H8) hl2
      have h9 : (upd H8 l2 (.lst (x.l.map V.int))) l2 = some (.lst (x.l.map V.int)) := upd_same
      refine ⟨_, rfl, _, rfl, sc, ns, 1, rfl, u9.seq hS8, by decide, fun c2 => ⟨_, _, rfl, rfl, (by show (0 : Int) < 4; decide), ?_⟩⟩
      obtain ⟨j, hj, hj4⟩ : ∃ j : Nat, c2 % 4 = (j : Int) ∧ j < 4 := ⟨(c2 % 4).toNat, by omega, by omega⟩
      dsimp only
      rw [hj]
      refine ⟨l2, _, (j : Int), _, rfl, rfl, SqL.of h9, by omega, atI_nat (sp4_at x hj4), ?_⟩
      refine ⟨_, rfl, _, _, rfl, rfl, ⟨by decide, by decide⟩, _, _, rfl, rfl, (by show (0 : Int) < 3; decide), _, _, rfl, rfl, _, _, rfl, rfl, ?_⟩
      refine ⟨l2, _, (j : Int), j, rfl, rfl, h9, ixN_of (by simp [Q4.l]; omega), ?_⟩
      show tSeq _ _ _ _ (upd (upd H8 l2 _) l2 (.lst ((x.l.map V.int).set j (.int (x.l.getD j 0 + (1 + c / 7 % 3))))))
      rw [sp4_set x (1 + c / 7 % 3) hj4, upd_upd]
      have hbt2 := sp4_bt (j := j) hle (e := 1 + c / 7 % 3) (by omega) (by omega)
      generalize sp4 x j (1 + c / 7 % 3) = x2 at hbt2 ⊢
      have uA := same_upd (o := .lst (x2.l.map V.int)) (Same.refl H8) hl2
      have hA : (upd H8 l2 (.lst (x2.l.map V.int))) l2 = some (.lst (x2.l.map V.int)) := upd_same
      revert uA hA
      generalize (upd H8 l2 (.lst (x2.l.map V.int))) = HA
      intro uA hA
      refine ⟨_, rfl, l2, _, rfl, SqL.of hA, rfl, _, _, rfl, _, _, rfl, _, _, rfl, _, _, rfl, rfl, ?_⟩
      obtain ⟨ba, bb, bc, bd⟩ := id hbt2
      refine ⟨_, rfl, _, rfl, _, _, rfl, rfl, ⟨ba.mono (by decide), bd.mono (by decide)⟩, _, rfl, _, rfl, _, _, rfl, rfl, ⟨bb.mono (by decide), bc.mono (by decide)⟩, _, _, rfl, rfl, rfl, _, rfl, ?_⟩
      refine ite2 (fun g => ?_) (fun g => ?_)
      · have hdet : x2.det ≠ 1 := by
          intro e
          have : decide (V.int (x2.a * x2.d - x2.b * x2.c) = V.int 1) = true := decide_eq_true (congrArg V.int e)
          have g : (!decide (V.int (x2.a * x2.d - x2.b * x2.c) = V.int 1)) = true := g
          rw [this] at g
          exact absurd g (by decide)
        refine ⟨_, rfl, l2, _, rfl, .inl ⟨SqL.of hA, fun t2 ht2 => ?_⟩⟩
        have uB := same_upd (o := .tup (x2.l.map V.int)) (Same.refl HA) ht2
        have hB : (upd HA t2 (.tup (x2.l.map V.int))) t2 = some (.tup (x2.l.map V.int)) := upd_same
        refine ⟨t2, x2, rfl, SqT.of hB, hbt2, fun z => hdet z.1, fun HD sD => ⟨true, rfl, iteF ?_⟩⟩
        have sz := uA.trans (uB.trans sD)
        refine ⟨_, rfl, y8, (qs (121 + c % 1000003)).mul x, rfl, SqT.of (sz _ _ hy8), Q4.bt.mono (n := 28) (B4n.prod hq8 (bt_le60 hle)) (by decide), fun ⟨_, z2⟩ => far hd hle (by omega) z2, fun HE sE => ⟨true, rfl, iteT ?_⟩⟩
        refine ⟨_, rfl, b, x, rfl, SqT.of (sE _ _ (sz _ _ hb8)), hbt, fun _ _ HF sF => ?_, fun _ h => absurd hle h, fun h => absurd hd h⟩
        refine ⟨_, rfl, rfl, ?_⟩
        rw [decide_eq_true rfl]
        exact k _
      · have sz := uA
        refine ⟨_, rfl, y8, (qs (121 + c % 1000003)).mul x, rfl, SqT.of (sz _ _ hy8), Q4.bt.mono (n := 28) (B4n.prod hq8 (bt_le60 hle)) (by decide), fun ⟨_, z2⟩ => far hd hle (by omega) z2, fun HE sE => ⟨true, rfl, iteT ?_⟩⟩
        refine ⟨_, rfl, b, x, rfl, SqT.of (sE _ _ (sz _ _ hb8)), hbt, fun _ _ HF sF => ?_, fun _ h => absurd hle h, fun h => absurd hd h⟩
        refine ⟨_, rfl, rfl, ?_⟩
        rw [decide_eq_true rfl]
        exact k _
end
end K1
namespace K1
open PySem L2 Sq
/-- a def as the top has left it -/
def Raw (K : PySem.W.Frag) (x : Str) (st : Stmt) : Prop := ∃ f fd, Fun K x x st f fd ∧ PySem.W.nsIn K mainGlobals x = some (some (.ref f)) ∧ ∃ kV doc pm an cdv ct, fd = PySem.W.fnOf x x (defArgs st) (defBody st) (defScope st) .none kV doc pm an cdv ct
theorem raw_mk {K : PySem.W.Frag} {x : Str} {st : Stmt} {f : Addr} {oc : Value} {od an : Option Addr} {osl : Array (Option Value)} {kV doc pm cdv ct : Value} (a : PySem.W.nsIn K mainGlobals x = some (some (.ref f)))
    (l : K.lookup f = some ⟨oc, od, .func (PySem.W.fnOf x x (defArgs st) (defBody st) (defScope st) .none kV doc pm an cdv ct), osl⟩) (c : PySem.W.codeIn K cdv x = true) (k : PySem.W.keepIn K (.ref f) = true) : Raw K x st :=
  ⟨f, _, fun_mk l c k, a, kV, doc, pm, an, cdv, ct, rfl⟩
theorem Raw.fn {K : PySem.W.Frag} {h : Heap} {mg : Str → Option Value} {x : Str} {st : Stmt} {ps : List Str} (X : K.In h) (G : h.Ns mainGlobals mg) (R : Raw K x st)
    (b : ∀ (kV doc pm : Value) (an : Option Addr) (cdv ct : Value) (us : List Value), us.length = ps.length → bindArgs (PySem.W.fnOf x x (defArgs st) (defBody st) (defScope st) .none kV doc pm an cdv ct) ⟨us, []⟩ = pure (ps.zip us)) : ∃ f fd, Fn K mg x st ps f fd := by
  obtain ⟨f, fd, F, a, _⟩ := R
  exact ⟨f, fd, F, F.binds b, PySem.W.mg_of X G a⟩
theorem all_mk {l : PySem.W.OpenLaw} {w : World} {K : PySem.W.Frag} {h : Heap} {mg : Str → Option Value} {fa : Addr} {t_GREATEST : Tok} {a_LETTERS : Addr} {v0_LETTERS : Addr} {v1_LETTERS : Addr} {CT : Addr} (X : K.In h) (G : h.Ns mainGlobals mg) (hfa : mg "law" = some (.ref fa))
    (R_is_whole : Raw K "is_whole" sIsWhole)
    (R_product : Raw K "product" sProduct)
    (R_back_table : Raw K "back_table" sBackTable)
    (R_word_of : Raw K "word_of" sWordOf)
    (R_need_table : Raw K "need_table" sNeedTable)
    (R_is_table : Raw K "is_table" sIsTable)
    (R_shears : Raw K "shears" sShears)
    (R__law_cell_at : Raw K "_law_cell_at" sLCellAt)
    (R__law_times : Raw K "_law_times" sLTimes)
    (R__law_table_of : Raw K "_law_table_of" sLTableOf)
    (R__law_step : Raw K "_law_step" sStep)
    (R__law_most : Raw K "_law_most" sLMost)
    (R__law_refused : Raw K "_law_refused" sRefused)
    (R_law : Raw K "law" sLaw)
    (c_GREATEST : PySem.W.nsIn K mainGlobals "GREATEST" = some (some (.int 60 t_GREATEST)))
    (m_CT : PySem.W.nsIn K mainGlobals "NoTable" = some (some (.ref CT))) (f_CT : ClsF K CT)
    (e_CT : ExCls K CT)
    (s0 : PySem.W.subIn K (.ref CT) (.ref CT) = some true)
    (m_LETTERS : PySem.W.nsIn K mainGlobals "LETTERS" = some (some (.ref a_LETTERS))) (d_LETTERS : TDi l.prog w K a_LETTERS [(Sum.inr (Str.ofString "s"), (.ref v0_LETTERS)), (Sum.inr (Str.ofString "t"), (.ref v1_LETTERS))])
    (w0_LETTERS : TTu K v0_LETTERS [1, 1, 0, 1])
    (w1_LETTERS : TTu K v1_LETTERS [0, -1, 1, 0])
    (z_len : PySem.W.nsIn K mainGlobals "len" = some none)
    (z_range : PySem.W.nsIn K mainGlobals "range" = some none)
    (z_list : PySem.W.nsIn K mainGlobals "list" = some none)
    (z_tuple : PySem.W.nsIn K mainGlobals "tuple" = some none)
    (z_isinstance : PySem.W.nsIn K mainGlobals "isinstance" = some none)
    (z_int : PySem.W.nsIn K mainGlobals "int" = some none)
    (z_bool : PySem.W.nsIn K mainGlobals "bool" = some none)
    (z_all : PySem.W.nsIn K mainGlobals "all" = some none)
    (z_set : PySem.W.nsIn K mainGlobals "set" = some none)
    (z_sorted : PySem.W.nsIn K mainGlobals "sorted" = some none)
    (z_enumerate : PySem.W.nsIn K mainGlobals "enumerate" = some none)
    (z_abs : PySem.W.nsIn K mainGlobals "abs" = some none)
    (z_max : PySem.W.nsIn K mainGlobals "max" = some none)
    (z_str : PySem.W.nsIn K mainGlobals "str" = some none)
    : ∃ fd : FuncData, (∀ (s : Shared) (v : Value), BindsTo s fd ⟨[v], []⟩ [("_law_script", v)]) ∧ ∀ base : Heap, K.In base → base.Ns mainGlobals mg → FnOk l.prog w K mg base CX0 7 fa fd ["_law_script"] (spLaw K) := by
  have T : Bi mg := ⟨PySem.W.mg_none_of X G z_len, PySem.W.mg_none_of X G z_range, PySem.W.mg_none_of X G z_list, PySem.W.mg_none_of X G z_tuple, PySem.W.mg_none_of X G z_isinstance, PySem.W.mg_none_of X G z_int, PySem.W.mg_none_of X G z_bool, PySem.W.mg_none_of X G z_all, PySem.W.mg_none_of X G z_set, PySem.W.mg_none_of X G z_sorted, PySem.W.mg_none_of X G z_enumerate⟩
  have T_abs : mg "abs" = none := PySem.W.mg_none_of X G z_abs
  have T_max : mg "max" = none := PySem.W.mg_none_of X G z_max
  have T_str : mg "str" = none := PySem.W.mg_none_of X G z_str
  have C_GREATEST := PySem.W.mg_of X G c_GREATEST
  have C_LETTERS := PySem.W.mg_of X G m_LETTERS
  have D_LETTERS := d_LETTERS
  have U0_LETTERS := w0_LETTERS
  have U1_LETTERS := w1_LETTERS
  have M_CT := PySem.W.mg_of X G m_CT
  obtain ⟨f_is_whole, d_is_whole, F_is_whole⟩ := R_is_whole.fn (ps := ["thing"]) X G fun _ _ _ _ _ _ us hl => match us, hl with | [_], _ => rfl
  obtain ⟨f_product, d_product, F_product⟩ := R_product.fn (ps := ["one", "other"]) X G fun _ _ _ _ _ _ us hl => match us, hl with | [_, _], _ => rfl
  obtain ⟨f_back_table, d_back_table, F_back_table⟩ := R_back_table.fn (ps := ["table"]) X G fun _ _ _ _ _ _ us hl => match us, hl with | [_], _ => rfl
  obtain ⟨f_word_of, d_word_of, F_word_of⟩ := R_word_of.fn (ps := ["table"]) X G fun _ _ _ _ _ _ us hl => match us, hl with | [_], _ => rfl
  obtain ⟨f_need_table, d_need_table, F_need_table⟩ := R_need_table.fn (ps := ["thing"]) X G fun _ _ _ _ _ _ us hl => match us, hl with | [_], _ => rfl
  obtain ⟨f_is_table, d_is_table, F_is_table⟩ := R_is_table.fn (ps := ["thing"]) X G fun _ _ _ _ _ _ us hl => match us, hl with | [_], _ => rfl
  obtain ⟨f_shears, d_shears, F_shears⟩ := R_shears.fn (ps := ["many"]) X G fun _ _ _ _ _ _ us hl => match us, hl with | [_], _ => rfl
  obtain ⟨f__law_cell_at, d__law_cell_at, F__law_cell_at⟩ := R__law_cell_at.fn (ps := ["_law_script", "_law_k"]) X G fun _ _ _ _ _ _ us hl => match us, hl with | [_, _], _ => rfl
  obtain ⟨f__law_times, d__law_times, F__law_times⟩ := R__law_times.fn (ps := ["_law_one", "_law_other"]) X G fun _ _ _ _ _ _ us hl => match us, hl with | [_, _], _ => rfl
  obtain ⟨f__law_table_of, d__law_table_of, F__law_table_of⟩ := R__law_table_of.fn (ps := ["_law_word"]) X G fun _ _ _ _ _ _ us hl => match us, hl with | [_], _ => rfl
  obtain ⟨f__law_step, d__law_step, F__law_step⟩ := R__law_step.fn (ps := ["_law_table", "_law_cell"]) X G fun _ _ _ _ _ _ us hl => match us, hl with | [_, _], _ => rfl
  obtain ⟨f__law_most, d__law_most, F__law_most⟩ := R__law_most.fn (ps := ["_law_table"]) X G fun _ _ _ _ _ _ us hl => match us, hl with | [_], _ => rfl
  obtain ⟨f__law_refused, d__law_refused, F__law_refused⟩ := R__law_refused.fn (ps := ["_law_table"]) X G fun _ _ _ _ _ _ us hl => match us, hl with | [_], _ => rfl
  obtain ⟨fL, dL, FL, aL, kV, doc, pm, an, cdv, ct, eL⟩ := R_law
  have bL := FL.binds (ps := ["_law_script"]) fun _ _ _ _ _ _ us hl => match us, hl with | [_], _ => rfl
  have e := hfa.symm.trans (PySem.W.mg_of X G aL)
  cases e
  refine ⟨dL, fun s v => ?_, fun base _ _ => ?_⟩
  · subst eL; exact .of_eq rfl
  · have F_law : Fn K mg "law" sLaw ["_law_script"] fa dL := ⟨FL, bL, PySem.W.mg_of X G aL⟩
    have X0 := U0_LETTERS
    have G_cell := ok_cellT (P := l.prog) (w := w) (base := base) T F__law_cell_at
    have G_wh := ok_isWh (P := l.prog) (w := w) (base := base) T F_is_whole
    have G_it := ok_it T F_is_table F_is_whole G_wh
    have G_nt := ok_nt F_need_table F_is_table G_it
    have G_pr := ok_pr F_product F_need_table G_nt
    have G_itB := ok_itB T F_is_table F_is_whole G_wh
    have G_ntB := ok_ntB e_CT M_CT F_need_table F_is_table G_itB
    have G_bk := ok_bk F_back_table F_need_table G_nt
    have G_sh := ok_sh (P := l.prog) (w := w) (base := base) F_shears
    have G_wo := ok_wo T_abs T_max e_CT M_CT C_LETTERS D_LETTERS U1_LETTERS C_GREATEST F_word_of F_need_table G_ntB F_shears G_sh F_product G_pr F_back_table G_bk
    have G_times := ok_times4 (P := l.prog) (w := w) (base := base) F__law_times
    have G_lt := ok_lt F__law_table_of F__law_times G_times
    have G_sp := ok_sp F__law_step F__law_times G_times
    have G_mo := ok_mo (P := l.prog) (w := w) (base := base) T_abs T_max F__law_most
    have G_rf := ok_rf f_CT M_CT s0 F__law_refused F_word_of G_wo
    exact ok_law T T_str F_law F__law_cell_at G_cell F__law_step G_sp F__law_most G_mo F_word_of G_wo F__law_table_of G_lt F__law_times G_times F__law_refused G_rf
theorem walk {l : PySem.W.OpenLaw} {q : Program} {loose : List Str} {XP : (Str → Option Value) → Heap → Prop} {YP : World → Heap → Prop} {d : DefRec} {K : Params → PySem.W.Frag} (hn : l.most = some 63) (hdf : d.params.defaults = [])
    (hY : ∀ (w : World) (h : Heap), YP w h → (K w.params).In h)
    (F : ∀ (w : World) (mg : Str → Option Value) (fa : Addr) (h : Heap), (K w.params).In h → h.Ns mainGlobals mg → mg d.name = some (.ref fa) →
      ∃ fd : FuncData, (∀ (s : Shared) (u : Value), BindsTo s fd ⟨[u], []⟩ [("_law_script", u)]) ∧ ∀ base : Heap, (K w.params).In base → base.Ns mainGlobals mg → FnOk l.prog w (K w.params) mg base CX0 7 fa fd ["_law_script"] (spLaw (K w.params))) :
    PySem.W.WalkO q loose XP YP l.row.toRowW d [] (fun f vs => PySem.call f vs) :=
  L2.walk_of (n := 63) (k := 7) (x := "_law_script") (CX := fun _ => CX0) (sp := fun w => spLaw (K w.params)) hn (by decide) hdf ⟨rfl, by decide, by decide⟩ hY F (fun _ _ a ns hl _ hS => ⟨a, ns, rfl, hS, fun _ => rfl⟩) fun _ _ _ _ _ z => z
end K1
open PySem PySem.W PyProof.Rows
set_option maxRecDepth 100000 in
set_option maxHeartbeats 0 in
theorem PySem.Challenge.cw_squaresheet_k53_word_of_holds : PySem.Challenge.rw_squaresheet_k53_word_of.Holds := by
  w_on; o_law; k_head; (case hw => w_witness2)
  k_fill
  refine K1.walk (l := PySem.Challenge.rw_squaresheet_k53_word_of) rfl rfl (fun w h Y => PySem.W.kIn_of Y) ?F
  case F =>
    intro w mg fa h KX G hmg
    have R_is_whole : K1.Raw (L2.KOf KX) "is_whole" K1.sIsWhole := by
      dsimp only [L2.KOf]
      refine' K1.raw_mk ?a ?l ?c ?k
      (case a => k_is); (case l => k_is); (case c => k_is); (case k => k_is)
    have R_product : K1.Raw (L2.KOf KX) "product" K1.sProduct := by
      dsimp only [L2.KOf]
      refine' K1.raw_mk ?a ?l ?c ?k
      (case a => k_is); (case l => k_is); (case c => k_is); (case k => k_is)
    have R_back_table : K1.Raw (L2.KOf KX) "back_table" K1.sBackTable := by
      dsimp only [L2.KOf]
      refine' K1.raw_mk ?a ?l ?c ?k
      (case a => k_is); (case l => k_is); (case c => k_is); (case k => k_is)
    have R_word_of : K1.Raw (L2.KOf KX) "word_of" K1.sWordOf := by
      dsimp only [L2.KOf]
      refine' K1.raw_mk ?a ?l ?c ?k
      (case a => k_is); (case l => k_is); (case c => k_is); (case k => k_is)
    have R_need_table : K1.Raw (L2.KOf KX) "need_table" K1.sNeedTable := by
      dsimp only [L2.KOf]
      refine' K1.raw_mk ?a ?l ?c ?k
      (case a => k_is); (case l => k_is); (case c => k_is); (case k => k_is)
    have R_is_table : K1.Raw (L2.KOf KX) "is_table" K1.sIsTable := by
      dsimp only [L2.KOf]
      refine' K1.raw_mk ?a ?l ?c ?k
      (case a => k_is); (case l => k_is); (case c => k_is); (case k => k_is)
    have R_shears : K1.Raw (L2.KOf KX) "shears" K1.sShears := by
      dsimp only [L2.KOf]
      refine' K1.raw_mk ?a ?l ?c ?k
      (case a => k_is); (case l => k_is); (case c => k_is); (case k => k_is)
    have R__law_cell_at : K1.Raw (L2.KOf KX) "_law_cell_at" K1.sLCellAt := by
      dsimp only [L2.KOf]
      refine' K1.raw_mk ?a ?l ?c ?k
      (case a => k_is); (case l => k_is); (case c => k_is); (case k => k_is)
    have R__law_times : K1.Raw (L2.KOf KX) "_law_times" K1.sLTimes := by
      dsimp only [L2.KOf]
      refine' K1.raw_mk ?a ?l ?c ?k
      (case a => k_is); (case l => k_is); (case c => k_is); (case k => k_is)
    have R__law_table_of : K1.Raw (L2.KOf KX) "_law_table_of" K1.sLTableOf := by
      dsimp only [L2.KOf]
      refine' K1.raw_mk ?a ?l ?c ?k
      (case a => k_is); (case l => k_is); (case c => k_is); (case k => k_is)
    have R__law_step : K1.Raw (L2.KOf KX) "_law_step" K1.sStep := by
      dsimp only [L2.KOf]
      refine' K1.raw_mk ?a ?l ?c ?k
      (case a => k_is); (case l => k_is); (case c => k_is); (case k => k_is)
    have R__law_most : K1.Raw (L2.KOf KX) "_law_most" K1.sLMost := by
      dsimp only [L2.KOf]
      refine' K1.raw_mk ?a ?l ?c ?k
      (case a => k_is); (case l => k_is); (case c => k_is); (case k => k_is)
    have R__law_refused : K1.Raw (L2.KOf KX) "_law_refused" K1.sRefused := by
      dsimp only [L2.KOf]
      refine' K1.raw_mk ?a ?l ?c ?k
      (case a => k_is); (case l => k_is); (case c => k_is); (case k => k_is)
    have R_law : K1.Raw (L2.KOf KX) "law" K1.sLaw := by
      dsimp only [L2.KOf]
      refine' K1.raw_mk ?a ?l ?c ?k
      (case a => k_is); (case l => k_is); (case c => k_is); (case k => k_is)
    refine' K1.all_mk KX G hmg R_is_whole R_product R_back_table R_word_of R_need_table R_is_table R_shears R__law_cell_at R__law_times R__law_table_of R__law_step R__law_most R__law_refused R_law ?c_GREATEST ?m_CT ?f_CT ?e_CT ?s0 ?m_LETTERS ?d_LETTERS ?w0_LETTERS ?w1_LETTERS ?z_len ?z_range ?z_list ?z_tuple ?z_isinstance ?z_int ?z_bool ?z_all ?z_set ?z_sorted ?z_enumerate ?z_abs ?z_max ?z_str
    (case c_GREATEST => k_is); (case m_CT => k_is); (case f_CT => (refine' ⟨?_, ?_, ?_, ?_, ?_, ?_, ?_, ?_, ?_⟩ <;> k_is)); (case e_CT => (unfold L2.ExCls; k_exc)); (case s0 => k_is); (case m_LETTERS => k_is); (case d_LETTERS => (refine' L2.tdi2 ?hs ?l ?e1 ?e2 ?ne; (case hs => decide); (case l => k_is); (case e1 => rfl); (case e2 => rfl); (case ne => decide))); (case w0_LETTERS => (refine' L2.ttu4 ?l; (case l => k_is))); (case w1_LETTERS => (refine' L2.ttu4 ?l; (case l => k_is))); (case z_len => k_is); (case z_range => k_is); (case z_list => k_is); (case z_tuple => k_is); (case z_isinstance => k_is); (case z_int => k_is); (case z_bool => k_is); (case z_all => k_is); (case z_set => k_is); (case z_sorted => k_is); (case z_enumerate => k_is); (case z_abs => k_is); (case z_max => k_is); (case z_str => k_is)
#print axioms PySem.Challenge.cw_squaresheet_k53_word_of_holds
