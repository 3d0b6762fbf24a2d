import PyProof.Rows.All
import Wide.All
import OpenK.AllK
import Wide.FinOn
import Lean
import PyProof.EqAt
import PyProof.EqKinds
import PyProof.TupleCall
import PyProof.Rows.SetFrom
import PyProof.SetRoads
import PyProof.CollectWalk
import PyProof.ListNew
import PyProof.Rows.SortShell
import PyProof.Rows.SortWalk
import PySem.SetOps
import PyProof.DictWalks
import PyProof.FactsAll.set_1
import PyProof.FactsAll.set_0
import PyProof.TableTree
import PyProof.FactsTree
import KE.KDictSum
import KE.KTryMore
import PyProof.ExcArgs
import PyProof.ExcAttrAll.ValueError
import OpenK.KDescr
import KE.KIsNot
import PyProof.NsDelKeeps
import PyProof.Rows.FStr
import KE.KRevIter
import PyProof.CollectIter
import PyProof.ListRange
import PyProof.Cells
import PyProof.AutoSeq1
import PyProof.EnumMake
import PyProof.EnumFor
import PyProof.EnumStmt
import PyProof.ConsumeWalk
import KE.KDictList
import PySem.Challenge.RW_mustpass_k14_each_refusal_its_own
set_option Elab.async false
set_option linter.all false
set_option maxRecDepth 100000
section
namespace L2
open PySem PySem.Spec PyProof.Rows
abbrev Key := Sum Int Str
def keyIs : Key → Value → Bool
  | .inl k, v => Value.isInt k v
  | .inr x, v => Value.isStrOf x v
def keyH (w : World) : Key → Int
  | .inl k => hashInt k
  | .inr x => hashStr w x
theorem keyIs_shape : ∀ {k : Key} {v : Value}, keyIs k v = true → (∃ i t, k = Sum.inl i ∧ v = Value.int i t) ∨ (∃ x t, k = Sum.inr x ∧ v = Value.str x t)
  | .inl i, v, h => by
    obtain ⟨t, e⟩ := Value.isInt_shape (k := i) (v := v) h
    exact .inl ⟨i, t, rfl, e⟩
  | .inr x, v, h => by
    obtain ⟨t, e⟩ := Value.isStrOf_shape (x := x) (v := v) h
    exact .inr ⟨x, t, rfl, e⟩
theorem keyIs_int (i : Int) (t : Tok) : keyIs (.inl i) (.int i t) = true := by simp [keyIs, Value.isInt]
theorem keyIs_str (x : Str) (t : Tok) : keyIs (.inr x) (.str x t) = true := by simp [keyIs, Value.isStrOf]
theorem key_ll (a b : Int) : decide ((Sum.inl a : Key) = Sum.inl b) = (a == b) := by
  by_cases e : a = b
  · subst e; simp
  · have h : ¬ (Sum.inl a : Key) = Sum.inl b := fun q => e (Sum.inl.inj q)
    rw [decide_eq_false h]
    exact (beq_eq_false_iff_ne.mpr e).symm
theorem key_rr (a b : Str) : decide ((Sum.inr a : Key) = Sum.inr b) = decide (a = b) := by
  by_cases e : a = b
  · subst e; simp
  · have h : ¬ (Sum.inr a : Key) = Sum.inr b := fun q => e (Sum.inr.inj q)
    rw [decide_eq_false h, decide_eq_false e]
theorem key_lr (a : Int) (b : Str) : decide ((Sum.inl a : Key) = Sum.inr b) = false := decide_eq_false (fun q => nomatch q)
theorem key_rl (a : Str) (b : Int) : decide ((Sum.inr a : Key) = Sum.inl b) = false := decide_eq_false (fun q => nomatch q)
def mixKind (prog : Program) (w : World) : PySem.KeyKind prog w Key where
  is := keyIs
  hash := keyH w
  inj := fun v a b ha hb => by
    rcases keyIs_shape ha with ⟨i, t, rfl, rfl⟩ | ⟨x, t, rfl, rfl⟩
    · rcases keyIs_shape hb with ⟨j, u, rfl, e⟩ | ⟨y, u, rfl, e⟩
      · injection e with e1 _; rw [e1]
      · exact nomatch e
    · rcases keyIs_shape hb with ⟨j, u, rfl, e⟩ | ⟨y, u, rfl, e⟩
      · exact nomatch e
      · injection e with e1 _; rw [e1]
  byValue := fun k v h => by
    rcases keyIs_shape h with ⟨i, t, rfl, rfl⟩ | ⟨x, t, rfl, rfl⟩ <;> rfl
  pyHash := fun hv h => by
    rcases keyIs_shape hv with ⟨i, t, rfl, rfl⟩ | ⟨x, t, rfl, rfl⟩
    · exact wpAny_pyHash_int h
    · exact wpAny_pyHash_str h
  eqBool := fun hu hv h => by
    rcases keyIs_shape hu with ⟨i, t, rfl, rfl⟩ | ⟨x, t, rfl, rfl⟩
    · rcases keyIs_shape hv with ⟨j, u, rfl, rfl⟩ | ⟨y, u, rfl, rfl⟩
      · rw [key_ll] at h; exact wpAny_eqBool_int h
      · rw [key_lr] at h; exact SeqAt.EqAt.int_str i t y u _ _ _ _ h
    · rcases keyIs_shape hv with ⟨j, u, rfl, rfl⟩ | ⟨y, u, rfl, rfl⟩
      · rw [key_rl] at h; exact SeqAt.EqAt.str_int x t j u _ _ _ _ h
      · rw [key_rr] at h; exact wpAny_eqBool_str h
  «strs» := fun k x t v h => by
    rcases keyIs_shape h with ⟨i, u, rfl, e⟩ | ⟨y, u, rfl, e⟩
    · exact nomatch e
    · injection e with e1 _
      subst e1
      cases v <;> rfl
theorem mixKind_int (prog : Program) (w : World) (i : Int) (t : Tok) : (mixKind prog w).is (.inl i) (.int i t) = true := keyIs_int i t
theorem mixKind_str (prog : Program) (w : World) (x : Str) (t : Tok) : (mixKind prog w).is (.inr x) (.str x t) = true := keyIs_str x t
end L2
namespace L2
open PySem PySem.Spec PyProof.Rows
/-- a value, without the heap -/
inductive V where
  | non | bl (b : Bool) | int (i : Int) | str (x : Str) | byt (b : Array UInt8) | flt (b : UInt64) | ref (a : Addr) | ty (n : String)
  deriving DecidableEq
def RelV : V → Value → Prop
  | .non, u => u = Value.none
  | .bl b, u => u = Value.bool b
  | .int i, u => ∃ t, u = Value.int i t
  | .str x, u => ∃ t, u = Value.str x t
  | .byt b, u => ∃ t, u = Value.bytes b t
  | .flt b, u => ∃ t, u = Value.float b t
  | .ref a, u => u = Value.ref a
  | .ty n, u => u = Value.type n
abbrev Vals : List V → List Value → Prop := Paired RelV
theorem Vals.length {xs : List V} {us : List Value} (r : Vals xs us) : xs.length = us.length := Paired.length r
theorem Vals.get : ∀ {xs : List V} {us : List Value} {i : Nat} {x : V}, Vals xs us → xs[i]? = some x → ∃ u, us[i]? = some u ∧ RelV x u
  | _, _, _, _, .nil, e => by simp at e
  | _, _, 0, _, .cons r _, e => by simp at e; subst e; exact ⟨_, rfl, r⟩
  | _, _, i + 1, x, .cons _ t, e => by
    obtain ⟨u, h1, h2⟩ := Vals.get (i := i) (x := x) t (by simpa using e)
    exact ⟨u, by simpa using h1, h2⟩
theorem Vals.set {x : V} {u : Value} (r : RelV x u) : ∀ {xs : List V} {us : List Value} (i : Nat), Vals xs us → Vals (xs.set i x) (us.set i u)
  | _, _, _, .nil => .nil
  | _, _, 0, .cons _ t => .cons r t
  | _, _, i + 1, .cons q t => .cons q (Vals.set r i t)
theorem Vals.append : ∀ {xs ys : List V} {us ws : List Value}, Vals xs us → Vals ys ws → Vals (xs ++ ys) (us ++ ws)
  | _, _, _, _, .nil, s => s
  | _, _, _, _, .cons r t, s => .cons r (Vals.append t s)
theorem Vals.take : ∀ {xs : List V} {us : List Value} (n : Nat), Vals xs us → Vals (xs.take n) (us.take n)
  | _, _, 0, _ => .nil
  | _, _, _ + 1, .nil => .nil
  | _, _, n + 1, .cons r t => .cons r (Vals.take n t)
theorem Vals.drop : ∀ {xs : List V} {us : List Value} (n : Nat), Vals xs us → Vals (xs.drop n) (us.drop n)
  | _, _, 0, r => r
  | _, _, _ + 1, .nil => .nil
  | _, _, n + 1, .cons _ t => Vals.drop n t
theorem Vals.none_of : ∀ {xs : List V} {us : List Value} {i : Nat}, Vals xs us → xs[i]? = none → us[i]? = none := fun {xs us i} r e => by
  have h1 := r.length
  have h2 : xs.length ≤ i := List.getElem?_eq_none_iff.mp e
  exact List.getElem?_eq_none_iff.mpr (by omega)
def RelO : Option V → Option Value → Prop
  | some v, some u => RelV v u
  | none, none => True
  | _, _ => False
def KV {κ : Type} : List (κ × V) → List (κ × Value) → Prop := Paired fun (p : κ × V) (q : κ × Value) => p.1 = q.1 ∧ RelV p.2 q.2
def kV : Key → V
  | .inl i => .int i
  | .inr x => .str x
/-- what stands at a tracked address -/
inductive HO where
  /-- a list -/
  | lst (xs : List V)
  /-- a tuple (never changes) -/
  | tup (xs : List V)
  /-- a dict whose keys are ints and texts; one whose keys are tuples of ints and texts (the empty one is both) -/
  | dK (kvs : List (Key × V)) | dT (kvs : List (List Key × V))
  /-- a set of ints: its members, its size -/
  | set (S : Int → Bool) (n : Nat)
  /-- an instance of the class at C, its dict at dx, its attributes -/
  | ins (C dx : Addr) (fs : List (Str × V))
  /-- the dict of the instance at x -/
  | own (x : Addr)
  /-- the dict of an exception -/
  | xd (fs : List (Str × V))
  /-- a bound method, f of x -/
  | met (f x : Addr)
  /-- a range object lo, lo + 1, .. below hi -/
  | rng (lo hi : Int)
  /-- a thing that is known to the object (the script; a dict while a loop walks it): read, never written while it is so -/
  | frz (o : Obj) (u : HO)
  /-- a code object's table -/
  | tbl (ps : Array Value)
  /-- any other thing, by what is true of its one object (a def of one's own: SetO a S n := HO.ext fun h => ..) -/
  | ext (φ : Heap → Prop)
abbrev Hp := Addr → Option HO
def upd (H : Hp) (a : Addr) (o : HO) : Hp := fun b => if b = a then some o else H b
theorem upd_same {H : Hp} {a : Addr} {o : HO} : upd H a o a = some o := by unfold upd; rw [if_pos rfl]
theorem upd_ne {H : Hp} {a b : Addr} {o : HO} (h : b ≠ a) : upd H a o b = H b := by unfold upd; rw [if_neg h]
theorem ne_of {H : Hp} {a b : Addr} {o u : HO} (h : H a = some o) (h' : H b = some u) (d : o ≠ u) : a ≠ b := by
  intro e; subst e; rw [h] at h'; exact d (Option.some.inj h')
theorem ne_of_none {H : Hp} {a b : Addr} {o : HO} (h : H a = some o) (h' : H b = none) : a ≠ b := by
  intro e; subst e; rw [h] at h'; cases h'
section
variable (P : Program) (w : World)
def ObjOk (H : Hp) (h : Heap) (a : Addr) : HO → Prop
  | .lst xs => xs.length ≤ sizeLine ∧ ∃ (its : List Value) (n : Nat), Vals xs its ∧ h.get? a = some { cls := .type "list", data := .seq its.toArray n }
  | .tup xs => xs.length ≤ sizeLine ∧ ∃ its : List Value, Vals xs its ∧ IsTup h a its.toArray
  | .dK kvs => kvs.length ≤ sizeLine ∧ (a == sysModules) = false ∧ ∃ vs, KV kvs vs ∧ h.DictOf (mixKind P w) a vs
  | .dT kvs => kvs.length ≤ sizeLine ∧ (a == sysModules) = false ∧ ∃ xs : List (List Key × Addr × Value),
      Paired (fun (p : List Key × V) (q : List Key × Addr × Value) => p.1 = q.1 ∧ H q.2.1 = some (.tup (p.1.map kV)) ∧ RelV p.2 q.2.2) kvs xs ∧
      ∃ o es ep, h.get? a = some o ∧ o.ExactDict ∧ o.data = .dict es ep ∧ es.toList = xs.map (entryOfKey (tupleKind (mixKind P w))) ∧ (xs.map (·.1)).Nodup
  | .set S n => h.SetOf (intKind P w) a S n
  | .ins C dx fs => H dx = some (.own a) ∧ fs.length ≤ 1000 ∧ dx ≠ a ∧ h.get? a = some (PySem.W.instObj C dx) ∧
      ∃ mA, h.Ns1 dx mA ∧ (∀ f, RelO (fs.lookup f) (mA f)) ∧ PySem.Within mA (fs.map (·.1))
  | .own _ => ∃ o, h.get? a = some o
  | .xd fs => ∃ mA, h.Ns1 a mA ∧ ∀ f, RelO (fs.lookup f) (mA f)
  | .rng lo hi => ∃ t u v, h.get? a = some { cls := .type "range", data := .fields #[.int lo t, .int hi u, .int 1 v] }
  | .frz o u => h.get? a = some o ∧ ObjOk H h a u
  | .tbl ps => h.get? a = some { cls := .none, data := .fields ps }
  | .met f x => h.get? a = some (PySem.W.methodObj (.ref f) (.ref x))
  | .ext φ => φ h ∧ (∃ o, h.get? a = some o) ∧ ∀ h1 h2 : Heap, φ h1 → (∀ o, h1.get? a = some o → h2.get? a = some o) → φ h2
def HOk (H : Hp) (h : Heap) : Prop := ∀ a o, H a = some o → ObjOk P w H h a o
end
section
variable {P : Program} {w : World} {H H' : Hp} {h h' : Heap} {a : Addr} {o : HO}
theorem ObjOk.lt (x : ObjOk P w H h a o) : a < h.objs.size := by
  cases o with
  | lst xs => obtain ⟨_, _, _, _, e⟩ := x; exact Heap.lt_size e
  | tup xs => obtain ⟨_, _, _, p⟩ := x; exact p.lt
  | dK kvs => obtain ⟨_, _, _, _, o, _, _, e, _⟩ := x; exact Heap.lt_size e
  | dT kvs => obtain ⟨_, _, _, _, o, _, _, e, _⟩ := x; exact Heap.lt_size e
  | set S n => obtain ⟨o, _, _, _, e, _⟩ := x; exact Heap.lt_size e
  | ins C dx fs => obtain ⟨_, _, _, e, _⟩ := x; exact Heap.lt_size e
  | own y => obtain ⟨_, e⟩ := x; exact Heap.lt_size e
  | xd fs => obtain ⟨_, ⟨_, _, _, e, _⟩, _⟩ := x; exact Heap.lt_size e
  | rng lo hi => obtain ⟨_, _, _, e⟩ := x; exact Heap.lt_size e
  | frz ob u => obtain ⟨e, _⟩ := x; exact Heap.lt_size e
  | tbl ps => exact Heap.lt_size (show h.get? a = some _ from x)
  | met f y => exact Heap.lt_size (show h.get? a = some _ from x)
  | ext φ => obtain ⟨_, ⟨_, e⟩, _⟩ := x; exact Heap.lt_size e
theorem Paired.mapP {α β : Type} {F G : α → β → Prop} : ∀ {l₁ : List α} {l₂ : List β}, Paired F l₁ l₂ → (∀ a b, F a b → G a b) → Paired G l₁ l₂
  | _, _, .nil, _ => .nil
  | _, _, .cons r t, f => .cons (f _ _ r) (Paired.mapP t f)
theorem ObjOk.stay (x : ObjOk P w H h a o) (k : ∀ b u, (b = a ∨ H b = some (.own a)) → h.get? b = some u → h'.get? b = some u)
    (ho : ∀ b, H b = some (.own a) → H' b = some (.own a)) (ht : ∀ b xs, H b = some (.tup xs) → H' b = some (.tup xs)) : ObjOk P w H' h' a o := by
  induction o with
  | lst xs => obtain ⟨z, its, n, r, e⟩ := x; exact ⟨z, its, n, r, k _ _ (.inl rfl) e⟩
  | tup xs => obtain ⟨z, its, r, ob, e, c⟩ := x; exact ⟨z, its, r, ob, k _ _ (.inl rfl) e, c⟩
  | dK kvs => obtain ⟨z, y, vs, r, ob, es, ep, e, c⟩ := x; exact ⟨z, y, vs, r, ob, es, ep, k _ _ (.inl rfl) e, c⟩
  | dT kvs =>
    obtain ⟨z, y, xs, r, ob, es, ep, e, c⟩ := x
    exact ⟨z, y, xs, Paired.mapP r fun p q z => ⟨z.1, ht _ _ z.2.1, z.2.2⟩, ob, es, ep, k _ _ (.inl rfl) e, c⟩
  | set S n => obtain ⟨ob, es, ep, t, e, c⟩ := x; exact ⟨ob, es, ep, t, k _ _ (.inl rfl) e, c⟩
  | ins C dx fs =>
    obtain ⟨d, z, ne, e, mA, ⟨od, es, ep, e2, c⟩, r⟩ := x
    exact ⟨ho _ d, z, ne, k _ _ (.inl rfl) e, mA, ⟨od, es, ep, k _ _ (.inr d) e2, c⟩, r⟩
  | own y => obtain ⟨ob, e⟩ := x; exact ⟨ob, k _ _ (.inl rfl) e⟩
  | xd fs => obtain ⟨mA, ⟨od, es, ep, e, c⟩, r⟩ := x; exact ⟨mA, ⟨od, es, ep, k _ _ (.inl rfl) e, c⟩, r⟩
  | rng lo hi => obtain ⟨t, u, v, e⟩ := x; exact ⟨t, u, v, k _ _ (.inl rfl) e⟩
  | frz ob u ih => obtain ⟨e, q⟩ := x; exact ⟨k _ _ (.inl rfl) e, ih q⟩
  | tbl ps =>
    have e : h.get? a = some { cls := .none, data := .fields ps } := x
    show h'.get? a = some { cls := .none, data := .fields ps }
    exact k a _ (.inl rfl) e
  | met f y =>
    have e : h.get? a = some (PySem.W.methodObj (.ref f) (.ref y)) := x
    show h'.get? a = some (PySem.W.methodObj (.ref f) (.ref y))
    exact k a _ (.inl rfl) e
  | ext φ => obtain ⟨p, ⟨o, e⟩, st⟩ := x; exact ⟨st _ _ p fun o q => k _ _ (.inl rfl) q, ⟨o, k _ _ (.inl rfl) e⟩, st⟩
theorem HOk.lt (x : HOk P w H h) (e : H a = some o) : a < h.objs.size := (x a o e).lt
theorem HOk.fresh (x : HOk P w H h) (e : h.objs.size ≤ a) : H a = none := by
  cases q : H a with
  | none => rfl
  | some u => exact absurd (Nat.lt_of_lt_of_le (x.lt q) e) (Nat.lt_irrefl _)
theorem HOk.kept (x : HOk P w H h) (k : ∀ b u, h.get? b = some u → h'.get? b = some u) : HOk P w H h' := fun a o e =>
  (x a o e).stay (fun b u _ q => k b u q) (fun _ q => q) fun _ _ q => q
theorem HOk.laid (x : HOk P w H h) (k : ∀ b u, h.get? b = some u → h'.get? b = some u) (hp : h.objs.size ≤ a) (new : ObjOk P w (upd H a o) h' a o) : HOk P w (upd H a o) h' := fun b u e => by
  have hn := x.fresh hp
  by_cases hb : b = a
  · subst hb; rw [upd_same] at e; cases e; exact new
  · rw [upd_ne hb] at e
    exact (x b u e).stay (fun c v _ q => k c v q) (fun c q => by rw [upd_ne (ne_of_none q hn)]; exact q) fun c xs q => by rw [upd_ne (ne_of_none q hn)]; exact q
end
def Rd (H : Hp) (a : Addr) (u : HO) : Prop := H a = some u ∨ ∃ o, H a = some (.frz o u)
theorem Rd.of {H : Hp} {a : Addr} {u : HO} (h : H a = some u) : Rd H a u := .inl h
theorem Rd.ok {P : Program} {w : World} {H : Hp} {h : Heap} {a : Addr} {u : HO} (r : Rd H a u) (x : HOk P w H h) : ObjOk P w H h a u := by
  rcases r with r | ⟨o, r⟩
  · exact x a u r
  · obtain ⟨_, q⟩ := x a _ r
    exact q
def Mut : Option HO → Prop
  | some (.lst _) => True
  | some (.dK _) => True
  | some (.dT _) => True
  | some (.set _ _) => True
  | some (.ins _ _ _) => True
  | some (.ext _) => True
  | _ => False
section
variable {P : Program} {w : World} {H : Hp} {h h' : Heap} {x e : Addr} {o' : HO}
theorem HOk.write (ok : HOk P w H h) (mu : Mut (H x)) (he : e = x ∨ H e = some (.own x)) (k : ∀ b u, b ≠ e → h.get? b = some u → h'.get? b = some u) (heo : ∃ u, h'.get? e = some u)
    (new : ObjOk P w (upd H x o') h' x o') : HOk P w (upd H x o') h' := fun b u q => by
  have nown : ∀ c y, H c = some (.own y) → c ≠ x := fun c y r z => by subst z; rw [r] at mu; exact mu
  have ntup : ∀ c xs, H c = some (.tup xs) → c ≠ x := fun c xs r z => by subst z; rw [r] at mu; exact mu
  by_cases hb : b = x
  · subst hb; rw [upd_same] at q; cases q; exact new
  · rw [upd_ne hb] at q
    by_cases hbe : b = e
    · have q' : H b = some (.own x) := by
        rcases he with z | z
        · exact absurd (hbe.trans z) hb
        · rw [hbe]; exact z
      rw [q] at q'; cases q'
      obtain ⟨v, hv⟩ := heo
      exact ⟨v, by rw [hbe]; exact hv⟩
    · refine (ok b u q).stay (fun c v hc r => k c v ?_ r) (fun c r => by rw [upd_ne (nown c b r)]; exact r) fun c xs r => by rw [upd_ne (ntup c xs r)]; exact r
      rcases hc with rfl | hc
      · exact hbe
      · rintro rfl
        rcases he with z | z
        · exact nown c b hc z
        · rw [hc] at z; cases z; exact hb rfl
end
structure Un (fs ex : List Addr) (H H' : Hp) (h h' : Heap) : Prop where
  keep : ∀ b o, h.get? b = some o → H b = none → b ∉ fs → b ∉ ex → h'.get? b = some o
  slot : ∀ b o, h.get? b = some o → H b = none → b ∈ fs → b ∉ ex → ∃ sl, h'.get? b = some { o with slots := sl }
  free : ∀ b o, h.get? b = some o → H b = none → b ∉ ex → H' b = none
  there : ∀ b o, h.get? b = some o → b ∉ ex → ∃ o', h'.get? b = some o'
  tups : ∀ b xs, H b = some (.tup xs) → H' b = some (.tup xs)
  frzs : ∀ b o u, H b = some (.frz o u) → H' b = some (.frz o u)
  tbls : ∀ b ps, H b = some (.tbl ps) → ∃ more, H' b = some (.tbl (ps ++ more))
section
variable {fs fs' ex ex' : List Addr} {H H1 H2 : Hp} {h h1 h2 h' : Heap} {a x e : Addr} {o : HO}
theorem Un.any (u : Un fs ex H H1 h h1) {b : Addr} {ob : Obj} (q : h.get? b = some ob) (n : H b = none) (hx : b ∉ ex) : ∃ sl, h1.get? b = some { ob with slots := sl } := by
  by_cases hb : b ∈ fs
  · exact u.slot b ob q n hb hx
  · exact ⟨ob.slots, u.keep b ob q n hb hx⟩
theorem Un.trans (a : Un fs ex H H1 h h1) (b : Un fs ex H1 H2 h1 h2) : Un fs ex H H2 h h2 where
  keep := fun c ob q n hc hx => b.keep c ob (a.keep c ob q n hc hx) (a.free c ob q n hx) hc hx
  slot := fun c ob q n hc hx => by
    obtain ⟨sl, e1⟩ := a.slot c ob q n hc hx
    obtain ⟨sl', e2⟩ := b.slot c _ e1 (a.free c ob q n hx) hc hx
    exact ⟨sl', e2⟩
  free := fun c ob q n hx => by
    obtain ⟨o', e1⟩ := a.there c ob q hx
    exact b.free c o' e1 (a.free c ob q n hx) hx
  there := fun c ob q hx => by
    obtain ⟨o', e1⟩ := a.there c ob q hx
    exact b.there c o' e1 hx
  tups := fun c xs q => b.tups c xs (a.tups c xs q)
  frzs := fun c ob xs q => b.frzs c ob xs (a.frzs c ob xs q)
  tbls := fun c ps q => by
    obtain ⟨m1, e1⟩ := a.tbls c ps q
    obtain ⟨m2, e2⟩ := b.tbls c _ e1
    exact ⟨m1 ++ m2, by rw [e2, Array.append_assoc]⟩
theorem Un.kept (k : ∀ b u, h.get? b = some u → h'.get? b = some u) : Un fs ex H H h h' :=
  ⟨fun b ob q _ _ _ => k b ob q, fun b ob q _ _ _ => ⟨ob.slots, k b ob q⟩, fun _ _ _ n _ => n, fun b ob q _ => ⟨ob, k b ob q⟩, fun _ _ q => q, fun _ _ _ q => q, fun _ ps q => ⟨#[], by rw [q]; simp⟩⟩
theorem Un.refl : Un fs ex H H h h := Un.kept fun _ _ q => q
theorem Un.laid (k : ∀ b u, h.get? b = some u → h'.get? b = some u) (hp : h.objs.size ≤ a) (hn : H a = none) : Un fs ex H (upd H a o) h h' where
  keep := fun b u q _ _ _ => k b u q
  slot := fun b u q _ _ _ => ⟨u.slots, k b u q⟩
  free := fun b u q n _ => by rw [upd_ne (Nat.ne_of_lt (Nat.lt_of_lt_of_le (Heap.lt_size q) hp))]; exact n
  there := fun b u q _ => ⟨u, k b u q⟩
  tups := fun b xs q => by rw [upd_ne (ne_of_none q hn)]; exact q
  frzs := fun b u xs q => by rw [upd_ne (ne_of_none q hn)]; exact q
  tbls := fun b ps q => ⟨#[], by rw [upd_ne (ne_of_none q hn), q]; simp⟩
theorem Un.write (mu : Mut (H x)) (he : e = x ∨ H e = some (.own x)) (k : ∀ b u, b ≠ e → h.get? b = some u → h'.get? b = some u) (heo : ∃ u, h'.get? e = some u) : Un fs ex H (upd H x o) h h' := by
  have hx : ∀ b, H b = none → b ≠ x := fun b n z => by subst z; rw [n] at mu; exact mu
  have hb : ∀ b, H b = none → b ≠ e := fun b n z => by
    subst z
    rcases he with r | r
    · exact hx b n r
    · rw [n] at r; cases r
  have hm : ∀ b u, H b = some u → ¬ Mut (some u) → b ≠ x := fun b u q nm z => by subst z; rw [q] at mu; exact nm mu
  refine ⟨fun b u q n _ _ => k b u (hb b n) q, fun b u q n _ _ => ⟨u.slots, k b u (hb b n) q⟩, fun b u q n _ => by rw [upd_ne (hx b n)]; exact n, fun b u q _ => ?_,
    fun b xs q => by rw [upd_ne (hm b _ q fun z => z)]; exact q, fun b u xs q => by rw [upd_ne (hm b _ q fun z => z)]; exact q, fun b ps q => ⟨#[], by rw [upd_ne (hm b _ q fun z => z), q]; simp⟩⟩
  by_cases hbe : b = e
  · subst hbe; exact heo
  · exact ⟨u, k b u hbe q⟩
theorem Un.mono (u : Un fs ex H H1 h h1) (hs : ∀ b ∈ fs, b ∈ fs') (hx : ∀ b ∈ ex, b ∈ ex') : Un fs' ex' H H1 h h1 :=
  ⟨fun b ob q n hb he => u.keep b ob q n (fun z => hb (hs b z)) fun z => he (hx b z), fun _ _ q n _ he => u.any q n fun z => he (hx _ z), fun b ob q n he => u.free b ob q n fun z => he (hx b z), fun b ob q he => u.there b ob q fun z => he (hx b z), u.tups, u.frzs, u.tbls⟩
end
def trk (h : Heap) (H : Hp) : List Addr := (List.range h.objs.size).filter fun a => (H a).isSome
def hidT (h : Heap) (H : Hp) : Heap := PySem.W.hideAll h (trk h H)
theorem hidT_size (h : Heap) (H : Hp) : (hidT h H).objs.size = h.objs.size := PySem.W.hideAll_size _ _
theorem hidT_get {h : Heap} {H : Hp} {b : Addr} {o : Obj} (e : h.get? b = some o) (n : H b = none) : (hidT h H).get? b = some o :=
  PySem.W.hideAll_get _ e fun hm => by
    have q : (H b).isSome = true := (List.mem_filter.mp hm).2
    rw [n] at q; simp at q
theorem of_hidT {h : Heap} {H : Hp} {b : Addr} {o : Obj} (e : (hidT h H).get? b = some o) : h.get? b = some o ∧ H b = none := by
  have e' : h.get? b = some o := PySem.W.of_hideAll (trk h H) e
  refine ⟨e', ?_⟩
  cases q : H b with
  | none => rfl
  | some x =>
    have hm : b ∈ trk h H := List.mem_filter.mpr ⟨List.mem_range.mpr (Heap.lt_size e'), by simp [q]⟩
    have z : (hidT h H).get? b = none := PySem.W.hideAll_none (trk h H) hm
    rw [z] at e; cases e
def allNews (g h : Heap) (L : Addr) : List (Addr × Obj) := (List.range h.objs.size).filterMap fun a => if a = L ∨ (g.get? a).isSome = true then none else (h.get? a).map fun o => (a, o)
def rest (g h : Heap) (L d : Addr) : List (Addr × Obj) := (allNews g h L).filter fun p => decide (p.1 ≠ d)
end L2
namespace L2
open PySem PySem.Spec PyProof.Rows
/-- the module's facts, over the base: the heap at the law's entry without what is tracked there -/
structure Mod (K : PySem.W.Frag) (mg : Str → Option Value) (base : Heap) : Prop where
  kin : K.In base
  glob : base.Ns mainGlobals mg
  blt : ∃ mb, base.Ns builtinsNs mb ∧ ∀ x : Str, x ≠ "__name__" → mb x = bootBuiltins x
  nolimit : base.NoLimit
/-- the context: a def's body (or a comprehension's block) running. base: fixed through the whole law; s₀, H₀: the entry; outer: the frames whose slots others may change (a def's callers); stack: all frames that run;
   ex: iterators that were made ahead of the entry and are walked here (a comprehension's); fn: the names whose cells were made at the entry (a def: all; a comprehension's block: its own); calm: not within an except suite; pn: pins that every state bears; xe: what is wanted of an exception that leaves the code -/
structure Cx where
  prog : Program
  w : World
  K : PySem.W.Frag
  mg : Str → Option Value
  base : Heap
  A : Around
  N : List Str
  s₀ : Shared
  H₀ : Hp
  env : Env
  outer : List Env
  stack : List Env
  ex : List Addr
  fn : Str → Bool
  calm : Bool
  pn : List (Addr × Obj)
  xe : Value → Shared → Prop
def frs (l : List Env) : List Addr := l.filterMap (·.frame)
abbrev Cx.fs (X : Cx) : List Addr := frs X.outer
def Vis (sc : Scope) (x : Str) : Prop := sc.names.lookup x = some .local ∨ sc.names.lookup x = some .cell ∨ sc.names.lookup x = some .free
def Loc (sc : Scope) (x : Str) : Prop := sc.names.lookup x = some .local ∨ sc.names.lookup x = some .cell
def Look (env : Env) (h : Heap) (m : Str → Option Value) (x : Str) (u : Value) : Prop :=
  (env.kindOf x = some .local ∧ m x = some u) ∨ ((env.kindOf x = some .cell ∨ env.kindOf x = some .free) ∧ ∃ c, env.cells.lookup x = some c ∧ h.IsCell c (some u))
structure Cx.Ok (X : Cx) : Prop where
  mod : Mod X.K X.mg X.base
  kind : X.env.scope.kind = .function
  glob : X.env.globals = mainGlobals
  blt : X.env.builtins = builtinsNs
  above : X.s₀.heap.objs.size ≤ X.env.locals
  inj : ∀ x y c, X.env.cells.lookup x = some c → X.env.cells.lookup y = some c → x = y
  has : ∀ x, (X.env.kindOf x = some .cell ∨ X.env.kindOf x = some .free) → ∃ c, X.env.cells.lookup x = some c
  cab : ∀ x c, X.fn x = true → X.env.cells.lookup x = some c → X.s₀.heap.objs.size ≤ c
  hd : X.calm = true → X.A.handled = none
  frames : X.A.frames = some X.stack
  stk : X.stack = X.outer ∨ (X.stack = X.env :: X.outer ∧ X.env.frame = some X.env.locals)
  exf : ∀ b ∈ X.ex, b ≠ X.env.locals ∧ ∀ x c, X.env.cells.lookup x = some c → c ≠ b
  bs : ∀ b o, X.base.get? b = some o → X.s₀.heap.get? b = some o ∧ X.H₀ b = none
  bsz : X.base.objs.size ≤ X.s₀.heap.objs.size
  noex : ∀ b o, X.base.get? b = some o → b ∉ X.ex
  exfs : ∀ b ∈ X.ex, b ∉ X.fs
  funs : X.s₀.heap.FunFrames X.base X.outer
  frf : ∀ b ∈ X.fs, X.H₀ b = none
structure Inv (X : Cx) (pins : List (Addr × Obj)) (σ : List (Option V)) (H : Hp) (s : Shared) : Prop where
  ok : X.Ok
  os : s.os = X.s₀.os
  bare : AllBare s.gens
  base : Un X.fs X.ex X.H₀ H X.s₀.heap s.heap
  loc : ∃ m, s.heap.Ns X.env.locals m ∧ ∀ (i : Nat) (x : Str) (v : V), X.N[i]? = some x → σ[i]? = some (some v) → Vis X.env.scope x → ∃ u, RelV v u ∧ Look X.env s.heap m x u
  cell : ∀ x c, X.env.cells.lookup x = some c → ∃ v, s.heap.IsCell c v
  free : H X.env.locals = none
  freeC : ∀ x c, X.env.cells.lookup x = some c → H c = none
  pin : ∀ p ∈ X.pn ++ pins, s.heap.get? p.1 = some p.2 ∧ H p.1 = none ∧ p.1 ≠ X.env.locals ∧ p.1 ∉ X.fs ∧ ∀ v, p.2.data ≠ .cell v
  hok : HOk X.prog X.w H s.heap
  len : σ.length = X.N.length
section
variable {X : Cx} {pins : List (Addr × Obj)} {σ : List (Option V)} {H H' : Hp} {s : Shared} {h' : Heap}
theorem Cx.Ok.nofr (ok : X.Ok) {b : Addr} {o : Obj} (e : X.base.get? b = some o) : b ∉ X.fs := fun hb => by
  have := (ok.funs.mem hb).1
  rw [e] at this; cases this
theorem Inv.bs (I : Inv X pins σ H s) : ∀ b o, X.base.get? b = some o → s.heap.get? b = some o ∧ H b = none := fun b o e =>
  ⟨I.base.keep b o (I.ok.bs b o e).1 (I.ok.bs b o e).2 (I.ok.nofr e) (I.ok.noex b o e), I.base.free b o (I.ok.bs b o e).1 (I.ok.bs b o e).2 (I.ok.noex b o e)⟩
theorem Inv.bk (I : Inv X pins σ H s) : ∀ b o, X.base.get? b = some o → s.heap.get? b = some o := fun b o e => (I.bs b o e).1
theorem Inv.mod (I : Inv X pins σ H s) : Mod X.K X.mg X.base := I.ok.mod
theorem Inv.kIn (I : Inv X pins σ H s) : X.K.In s.heap := I.ok.mod.kin.keeps I.bk
theorem Inv.nolimit (I : Inv X pins σ H s) : s.heap.NoLimit := I.ok.mod.nolimit.keeps I.bk
theorem Inv.fr (I : Inv X pins σ H s) : ∃ m, Fr X.base X.env.locals s.heap m :=
  let ⟨m, hn, _⟩ := I.loc
  ⟨m, hn, I.bk, Nat.le_trans I.ok.bsz I.ok.above⟩
theorem Inv.lt (I : Inv X pins σ H s) : X.env.locals < s.heap.objs.size := let ⟨_, hn, _⟩ := I.loc; hn.lt
theorem Inv.sz (I : Inv X pins σ H s) : X.s₀.heap.objs.size ≤ s.heap.objs.size := Nat.le_trans I.ok.above (Nat.le_of_lt I.lt)
theorem Inv.nofs (I : Inv X pins σ H s) {a : Addr} (h : s.heap.objs.size ≤ a) : a ∉ X.fs := fun hb => by
  obtain ⟨_, o, ho, _⟩ := I.ok.funs.mem hb
  exact absurd (Nat.lt_of_lt_of_le (Heap.lt_size ho) (Nat.le_trans I.sz h)) (Nat.lt_irrefl _)
theorem Inv.cne (I : Inv X pins σ H s) : ∀ x c, X.env.cells.lookup x = some c → c ≠ X.env.locals := fun x c e z => by
  obtain ⟨v, o, ho, hd⟩ := I.cell x c e
  obtain ⟨m, ⟨o', es, ep, ho', hd', _⟩, _⟩ := I.loc
  rw [z, ho'] at ho; cases ho; rw [hd'] at hd; cases hd
theorem Inv.funs (I : Inv X pins σ H s) : s.heap.FunFrames X.base X.outer := by
  have all : ∀ (l : List Env), (∀ b ∈ frs l, b ∈ X.fs) → X.s₀.heap.FunFrames X.base l → s.heap.FunFrames X.base l := by
    intro l
    induction l with
    | nil => intro _ _; trivial
    | cons env r ih =>
      intro hs hl
      obtain ⟨hk, ⟨L, o, hf, hn, ho, hd⟩, hr⟩ := hl
      have hL : L ∈ X.fs := hs L (by unfold frs; rw [List.filterMap_cons, hf]; exact List.mem_cons_self)
      obtain ⟨sl, e⟩ := I.base.slot L o ho (I.ok.frf L hL) hL fun z => I.ok.exfs L z hL
      exact ⟨hk, ⟨L, _, hf, hn, e, hd⟩, ih (fun b hb => hs b (by unfold frs; rw [List.filterMap_cons, hf]; exact List.mem_cons_of_mem _ hb)) hr⟩
  exact all X.outer (fun _ hb => hb) I.ok.funs
theorem Inv.stack (I : Inv X pins σ H s) : s.heap.FunFrames X.base X.stack := by
  rcases I.ok.stk with e | ⟨e, hf⟩
  · rw [e]; exact I.funs
  · rw [e]
    obtain ⟨m, hn, _⟩ := I.loc
    refine .cons (by rw [I.ok.kind]; decide) hf hn ?_ I.funs
    exact Heap.get?_none_of_le (Nat.le_trans I.ok.bsz I.ok.above)
theorem Inv.stkSub (I : Inv X pins σ H s) : ∀ b ∈ frs X.stack, b ∈ X.env.locals :: X.fs := fun b hb => by
  rcases I.ok.stk with e | ⟨e, hf⟩
  · rw [e] at hb; exact List.mem_cons_of_mem _ hb
  · rw [e] at hb
    unfold frs at hb
    rw [List.filterMap_cons, hf] at hb
    exact hb
theorem Inv.stkFree (I : Inv X pins σ H s) : ∀ b ∈ frs X.stack, H b = none := fun b hb => by
  rcases List.mem_cons.mp (I.stkSub b hb) with e | hb
  · rw [e]; exact I.free
  · obtain ⟨_, o, ho, _⟩ := I.ok.funs.mem hb
    exact I.base.free b o ho (I.ok.frf b hb) fun z => I.ok.exfs b z hb
theorem Inv.step {g' : Array GenState} {t' : Nat} {d' : Drawn} {ch : List Addr} (I : Inv X pins σ H s)
    (hch : ∀ b ∈ ch, (b ∈ X.ex ∨ X.s₀.heap.objs.size ≤ b) ∧ b ≠ X.env.locals ∧ (∀ x c, X.env.cells.lookup x = some c → c ≠ b) ∧ ∀ p ∈ X.pn ++ pins, p.1 ≠ b)
    (keep : ∀ b o, b ≠ X.env.locals → b ∉ X.fs → b ∉ ch → s.heap.get? b = some o → H b = none → h'.get? b = some o)
    (slot : ∀ b o, b ≠ X.env.locals → b ∈ X.fs → b ∉ ch → s.heap.get? b = some o → H b = none → ∃ sl, h'.get? b = some { o with slots := sl }) (free : ∀ b o, b ∉ ch → s.heap.get? b = some o → H b = none → H' b = none)
    (there : ∀ b o, b ∉ ch → s.heap.get? b = some o → ∃ o', h'.get? b = some o')
    (tups : ∀ b xs, H b = some (.tup xs) → H' b = some (.tup xs)) (frzs : ∀ b o u, H b = some (.frz o u) → H' b = some (.frz o u)) (tbls : ∀ b ps, H b = some (.tbl ps) → ∃ more, H' b = some (.tbl (ps ++ more)))
    (ns : ∀ m, s.heap.Ns X.env.locals m → h'.Ns X.env.locals m) (hok : HOk X.prog X.w H' h') (hg : AllBare g') :
    Inv X pins σ H' { s with heap := h', gens := g', drawn := d', toks := t' } := by
  have neL : ∀ b o, X.s₀.heap.get? b = some o → b ≠ X.env.locals := fun b o e => Nat.ne_of_lt (Nat.lt_of_lt_of_le (Heap.lt_size e) I.ok.above)
  have neC : ∀ b o, X.s₀.heap.get? b = some o → b ∉ X.ex → b ∉ ch := fun b o e hx hb => by
    rcases (hch b hb).1 with z | z
    · exact hx z
    · exact absurd (Nat.lt_of_lt_of_le (Heap.lt_size e) z) (Nat.lt_irrefl _)
  have cellK : ∀ x c, X.env.cells.lookup x = some c → ∀ v, s.heap.IsCell c v → h'.IsCell c v := fun x c e v ⟨o, ho, hd⟩ => by
    have nch : c ∉ ch := fun z => (hch c z).2.2.1 x c e rfl
    by_cases hc : c ∈ X.fs
    · obtain ⟨sl, q⟩ := slot c o (I.cne x c e) hc nch ho (I.freeC x c e)
      exact ⟨_, q, hd⟩
    · exact ⟨o, keep c o (I.cne x c e) hc nch ho (I.freeC x c e), hd⟩
  refine ⟨I.ok, I.os, hg, ⟨fun b o e n hb hx => ?_, fun b o e n hb hx => ?_, fun b o e n hx => ?_, fun b o e hx => ?_, fun b xs e => tups b xs (I.base.tups b xs e), fun b o xs e => frzs b o xs (I.base.frzs b o xs e), fun b ps e => ?_⟩, ?_, fun x c e => ?_, ?_, fun x c e => ?_, fun p hp => ?_, hok, I.len⟩
  · exact keep b o (neL b o e) hb (neC b o e hx) (I.base.keep b o e n hb hx) (I.base.free b o e n hx)
  · obtain ⟨sl, e1⟩ := I.base.slot b o e n hb hx
    obtain ⟨sl', e2⟩ := slot b _ (neL b o e) hb (neC b o e hx) e1 (I.base.free b o e n hx)
    exact ⟨sl', e2⟩
  · obtain ⟨o', e1⟩ := I.base.there b o e hx
    exact free b o' (neC b o e hx) e1 (I.base.free b o e n hx)
  · obtain ⟨o', e1⟩ := I.base.there b o e hx
    exact there b o' (neC b o e hx) e1
  · obtain ⟨m1, e1⟩ := I.base.tbls b ps e
    obtain ⟨m2, e2⟩ := tbls b _ e1
    exact ⟨m1 ++ m2, by rw [e2, Array.append_assoc]⟩
  · obtain ⟨m, hn, hl⟩ := I.loc
    refine ⟨m, ns m hn, fun i x v e1 e2 e3 => ?_⟩
    obtain ⟨u, r, l⟩ := hl i x v e1 e2 e3
    refine ⟨u, r, ?_⟩
    rcases l with l | ⟨k, c, e, z⟩
    · exact .inl l
    · exact .inr ⟨k, c, e, cellK x c e _ z⟩
  · obtain ⟨v, z⟩ := I.cell x c e
    exact ⟨v, cellK x c e v z⟩
  · obtain ⟨m, ⟨o, _, _, ho, _⟩, _⟩ := I.loc
    exact free _ o (fun z => (hch _ z).2.1 rfl) ho I.free
  · obtain ⟨v, o, ho, hd⟩ := I.cell x c e
    exact free c o (fun z => (hch c z).2.2.1 x c e rfl) ho (I.freeC x c e)
  · obtain ⟨e, n, ne, nf, d⟩ := I.pin p hp
    have nch : p.1 ∉ ch := fun z => (hch p.1 z).2.2.2 p hp rfl
    exact ⟨keep p.1 p.2 ne nf nch e n, free p.1 p.2 nch e n, ne, nf, d⟩
theorem Inv.un {t' : Nat} (I : Inv X pins σ H s) (u : Un X.fs [] H H' s.heap h') (hok : HOk X.prog X.w H' h') : Inv X pins σ H' { s with heap := h', toks := t' } := by
  obtain ⟨m, ⟨o, es, ep, ho, r⟩, _⟩ := id I.loc
  obtain ⟨sl, hL⟩ := u.any ho I.free (by simp)
  exact I.step (g' := s.gens) (d' := s.drawn) (ch := []) (fun _ z => nomatch z) (fun b o _ hb _ e n => u.keep b o e n hb (by simp)) (fun b o _ hb _ e n => u.slot b o e n hb (by simp)) (fun b o _ e n => u.free b o e n (by simp)) (fun b o _ e => u.there b o e (by simp)) u.tups u.frzs u.tbls (fun m' hm => by
    obtain ⟨o', es', ep', ho', r'⟩ := hm
    rw [ho] at ho'; cases ho'
    exact ⟨_, es', ep', hL, r'⟩) hok I.bare
theorem Inv.call {g' : Array GenState} {t' : Nat} {d' : Drawn} {ch : List Addr} (I : Inv X pins σ H s) (u : Un (frs X.stack) ch H H' s.heap h') (hok : HOk X.prog X.w H' h') (hg : AllBare g')
    (hch : ∀ b ∈ ch, (b ∈ X.ex ∨ X.s₀.heap.objs.size ≤ b) ∧ b ≠ X.env.locals ∧ (∀ x c, X.env.cells.lookup x = some c → c ≠ b) ∧ ∀ p ∈ X.pn ++ pins, p.1 ≠ b) :
    Inv X pins σ H' { s with heap := h', gens := g', drawn := d', toks := t' } := by
  obtain ⟨m, ⟨o, es, ep, ho, r⟩, _⟩ := id I.loc
  obtain ⟨sl, hL⟩ := u.any ho I.free fun z => (hch _ z).2.1 rfl
  exact I.step (ch := ch) hch (fun b o hL hb hc e n => u.keep b o e n (fun z => (List.mem_cons.mp (I.stkSub b z)).elim hL hb) hc) (fun b o _ _ hc e n => u.any e n hc) (fun b o hc e n => u.free b o e n hc) (fun b o hc e => u.there b o e hc) u.tups u.frzs u.tbls (fun m' hm => by
    obtain ⟨o', es', ep', ho', r'⟩ := hm
    rw [ho] at ho'; cases ho'
    exact ⟨_, es', ep', hL, r'⟩) hok hg
theorem Inv.turned {t' : Nat} {it : Addr} (I : Inv X pins σ H s) (k : ∀ b o, b ≠ it → s.heap.get? b = some o → h'.get? b = some o) (hn : H it = none) (hL : it ≠ X.env.locals)
    (h1 : it ∈ X.ex ∨ X.s₀.heap.objs.size ≤ it) (h2 : ∀ x c, X.env.cells.lookup x = some c → c ≠ it) (h3 : ∀ p ∈ X.pn ++ pins, p.1 ≠ it) : Inv X pins σ H { s with heap := h', toks := t' } := by
  have nit : ∀ b u, H b = some u → b ≠ it := fun b u e z => by rw [z, hn] at e; cases e
  refine I.step (g' := s.gens) (d' := s.drawn) (ch := [it]) (fun b hb => ?_) (fun b o _ _ hc e _ => k b o (fun z => hc (by simp [z])) e) (fun b o _ _ hc e _ => ⟨o.slots, k b o (fun z => hc (by simp [z])) e⟩) (fun _ _ _ _ n => n)
    (fun b o hc e => ⟨o, k b o (fun z => hc (by simp [z])) e⟩) (fun _ _ e => e) (fun _ _ _ e => e) (fun b ps e => ⟨#[], by rw [e]; simp⟩) (fun m hm => ?_) (fun b u e => ?_) I.bare
  · have e : b = it := by simpa using hb
    subst e
    exact ⟨h1, hL, h2, h3⟩
  · obtain ⟨o, es, ep, ho, r⟩ := hm
    exact ⟨o, es, ep, k _ o (Ne.symm hL) ho, r⟩
  · refine (I.hok b u e).stay (fun c v hc q => k c v ?_ q) (fun _ q => q) fun _ _ q => q
    rcases hc with z | z
    · rw [z]; exact nit b u e
    · exact nit c _ z
theorem Inv.tok (I : Inv X pins σ H s) (t : Nat) : Inv X pins σ H { s with toks := t } := I.un (h' := s.heap) (t' := t) Un.refl I.hok
theorem Inv.kept {t' : Nat} (I : Inv X pins σ H s) (k : ∀ b u, s.heap.get? b = some u → h'.get? b = some u) : Inv X pins σ H { s with heap := h', toks := t' } := I.un (Un.kept k) (I.hok.kept k)
theorem Inv.laid {a : Addr} {o : HO} {t' : Nat} (I : Inv X pins σ H s) (k : ∀ b u, s.heap.get? b = some u → h'.get? b = some u) (hp : s.heap.objs.size ≤ a) (new : ObjOk X.prog X.w (upd H a o) h' a o) :
    Inv X pins σ (upd H a o) { s with heap := h', toks := t' } := I.un (Un.laid k hp (I.hok.fresh hp)) (I.hok.laid k hp new)
theorem Inv.write {x e : Addr} {o : HO} {t' : Nat} (I : Inv X pins σ H s) (mu : Mut (H x)) (he : e = x ∨ H e = some (.own x)) (k : ∀ b u, b ≠ e → s.heap.get? b = some u → h'.get? b = some u) (heo : ∃ u, h'.get? e = some u)
    (new : ObjOk X.prog X.w (upd H x o) h' x o) : Inv X pins σ (upd H x o) { s with heap := h', toks := t' } := I.un (Un.write mu he k heo) (I.hok.write mu he k heo new)
theorem Inv.pins_of {pins' : List (Addr × Obj)} (I : Inv X pins σ H s) (h : ∀ p ∈ pins', s.heap.get? p.1 = some p.2 ∧ H p.1 = none ∧ p.1 ≠ X.env.locals ∧ p.1 ∉ X.fs ∧ ∀ v, p.2.data ≠ .cell v) : Inv X pins' σ H s :=
  ⟨I.ok, I.os, I.bare, I.base, I.loc, I.cell, I.free, I.freeC, fun p hp => (List.mem_append.mp hp).elim (fun z => I.pin p (List.mem_append_left _ z)) (h p), I.hok, I.len⟩
theorem nodup_ix {N : List Str} (hN : N.Nodup) {i j : Nat} {x : Str} (a : N[i]? = some x) (b : N[j]? = some x) : i = j := by
  obtain ⟨h1, e1⟩ := List.getElem?_eq_some_iff.mp a
  obtain ⟨h2, e2⟩ := List.getElem?_eq_some_iff.mp b
  exact (List.getElem_inj hN).mp (e1.trans e2.symm)
theorem store_ok2 {M : Model} {A : Around} {E : Value → Shared → Prop} {i : Nat} {x : Str} {v : V} {u : Value} {Q : Unit → Shared → Prop} (I : Inv X pins σ H s) (hN : X.N.Nodup) (hi : X.N[i]? = some x) (hx : Loc X.env.scope x) (r : RelV v u)
    (h : ∀ s', Inv X pins (σ.set i (some v)) H s' → (∃ a, Heap.SameBut a s.heap s'.heap ∧ (a = X.env.locals ∨ X.env.cells.lookup x = some a)) → Q () s') (hf : X.fn x = true ∨ X.env.scope.names.lookup x = some .local := by first | exact .inl rfl | exact .inr rfl | assumption) : wpAny M A (storeName X.env x u) Q E s := by
  obtain ⟨m, hn, hl⟩ := id I.loc
  have hcls : (X.env.scope.kind == .class || (X.env.scope.kind == .module && X.env.locals != X.env.globals)) = false := by rw [I.ok.kind]; rfl
  have hiσ : i < σ.length := by rw [I.len]; exact (List.getElem?_eq_some_iff.mp hi).1
  have cne := I.cne
  have tracked : ∀ {a : Addr} {h' : Heap}, (∃ o, s.heap.get? a = some o ∧ H a = none) → Heap.SameBut a s.heap h' → HOk X.prog X.w H h' := fun {a h'} ha hs b ob e => by
    obtain ⟨_, _, hfree⟩ := ha
    refine (I.hok b ob e).stay (fun c w' hc q => (hs.2 c ?_).trans q) (fun _ q => q) fun _ _ q => q
    rintro rfl
    rcases hc with rfl | hc
    · rw [hfree] at e; cases e
    · rw [hfree] at hc; cases hc
  rcases hx with hk | hk
  · refine wpAny_storeName_local hk hn (fun h' hn' hs => ?_) hcls
    obtain ⟨oL, _, _, hoL, _⟩ := id hn
    refine h _ ⟨I.ok, I.os, I.bare, ⟨fun b o e n hb hx => ?_, fun b o e n hb hx => ?_, I.base.free, fun b o e hx => ?_, I.base.tups, I.base.frzs, I.base.tbls⟩, ⟨_, hn', fun j y v' e1 e2 e3 => ?_⟩, fun y c e => ?_, I.free, I.freeC, fun p hp => ?_, tracked ⟨oL, hoL, I.free⟩ hs, by simpa using I.len⟩ ⟨_, hs, .inl rfl⟩
    · exact (hs.2 b (Nat.ne_of_lt (Nat.lt_of_lt_of_le (Heap.lt_size e) I.ok.above))).trans (I.base.keep b o e n hb hx)
    · obtain ⟨sl, e1⟩ := I.base.slot b o e n hb hx
      exact ⟨sl, (hs.2 b (Nat.ne_of_lt (Nat.lt_of_lt_of_le (Heap.lt_size e) I.ok.above))).trans e1⟩
    · obtain ⟨o', e1⟩ := I.base.there b o e hx
      exact ⟨o', (hs.2 b (Nat.ne_of_lt (Nat.lt_of_lt_of_le (Heap.lt_size e) I.ok.above))).trans e1⟩
    · by_cases hj : j = i
      · subst hj
        rw [hi] at e1; cases e1
        rw [List.getElem?_set_self hiσ] at e2
        cases e2
        exact ⟨u, r, .inl ⟨hk, by simp⟩⟩
      · rw [List.getElem?_set_ne (Ne.symm hj)] at e2
        obtain ⟨u', r', q⟩ := hl j y v' e1 e2 e3
        refine ⟨u', r', ?_⟩
        rcases q with ⟨k, e⟩ | ⟨k, c, e, z⟩
        · refine .inl ⟨k, ?_⟩
          have : y ≠ x := fun e => hj (nodup_ix hN e1 (e ▸ hi))
          simp [this, e]
        · exact .inr ⟨k, c, e, z.sameBut hs (cne y c e)⟩
    · obtain ⟨w', z⟩ := I.cell y c e
      exact ⟨w', z.sameBut hs (cne y c e)⟩
    · obtain ⟨e, n, ne, nf, d⟩ := I.pin p hp
      exact ⟨(hs.2 p.1 ne).trans e, n, ne, nf, d⟩
  · have hfn : X.fn x = true := by
      rcases hf with z | z
      · exact z
      · rw [z] at hk; cases hk
    obtain ⟨c, hc⟩ := I.ok.has x (.inl hk)
    obtain ⟨w', z⟩ := I.cell x c hc
    refine wpAny_storeName_cell I.ok.kind hk hc z (fun h' hc' hs => ?_)
    obtain ⟨oc, hoc, hocd⟩ := id z
    refine h { s with heap := h' } ⟨I.ok, I.os, I.bare, ⟨fun b o e n hb hx => ?_, fun b o e n hb hx => ?_, I.base.free, fun b o e hx => ?_, I.base.tups, I.base.frzs, I.base.tbls⟩, ⟨m, hn.sameBut hs (Ne.symm (cne x c hc)), fun j y v' e1 e2 e3 => ?_⟩, fun y c' e => ?_, I.free, I.freeC, fun p hp => ?_, tracked ⟨oc, hoc, I.freeC x c hc⟩ hs, by simpa using I.len⟩ ⟨c, hs, .inr hc⟩
    · exact (hs.2 b (Nat.ne_of_lt (Nat.lt_of_lt_of_le (Heap.lt_size e) (I.ok.cab x c hfn hc)))).trans (I.base.keep b o e n hb hx)
    · obtain ⟨sl, e1⟩ := I.base.slot b o e n hb hx
      exact ⟨sl, (hs.2 b (Nat.ne_of_lt (Nat.lt_of_lt_of_le (Heap.lt_size e) (I.ok.cab x c hfn hc)))).trans e1⟩
    · obtain ⟨o', e1⟩ := I.base.there b o e hx
      exact ⟨o', (hs.2 b (Nat.ne_of_lt (Nat.lt_of_lt_of_le (Heap.lt_size e) (I.ok.cab x c hfn hc)))).trans e1⟩
    · by_cases hj : j = i
      · subst hj
        rw [hi] at e1; cases e1
        rw [List.getElem?_set_self hiσ] at e2
        cases e2
        exact ⟨u, r, .inr ⟨.inl hk, c, hc, hc'⟩⟩
      · rw [List.getElem?_set_ne (Ne.symm hj)] at e2
        obtain ⟨u', r', q⟩ := hl j y v' e1 e2 e3
        refine ⟨u', r', ?_⟩
        rcases q with q | ⟨k, c', e, z'⟩
        · exact .inl q
        · refine .inr ⟨k, c', e, z'.sameBut hs ?_⟩
          rintro rfl
          exact hj (nodup_ix hN e1 (I.ok.inj _ _ _ e hc ▸ hi))
    · by_cases hcc : c' = c
      · subst hcc; exact ⟨_, hc'⟩
      · obtain ⟨w2, z2⟩ := I.cell y c' e
        exact ⟨w2, z2.sameBut hs hcc⟩
    · obtain ⟨e, n, ne, nf, d⟩ := I.pin p hp
      refine ⟨(hs.2 p.1 ?_).trans e, n, ne, nf, d⟩
      intro q
      rw [q, hoc] at e
      have q' : oc = p.2 := Option.some.inj e
      exact d w' (by rw [← q']; exact hocd)
theorem store_ok {M : Model} {A : Around} {E : Value → Shared → Prop} {i : Nat} {x : Str} {v : V} {u : Value} {Q : Unit → Shared → Prop} (I : Inv X pins σ H s) (hN : X.N.Nodup) (hi : X.N[i]? = some x) (hx : Loc X.env.scope x) (r : RelV v u)
    (h : ∀ s', Inv X pins (σ.set i (some v)) H s' → Q () s') (hf : X.fn x = true ∨ X.env.scope.names.lookup x = some .local := by first | exact .inl rfl | exact .inr rfl | assumption) : wpAny M A (storeName X.env x u) Q E s :=
  store_ok2 I hN hi hx r (fun s' I' _ => h s' I') hf
theorem Inv.call' {s' : Shared} {ch : List Addr} (I : Inv X pins σ H s) (ho : s'.os = s.os) (u : Un (frs X.stack) ch H H' s.heap s'.heap) (hok : HOk X.prog X.w H' s'.heap) (hg : AllBare s'.gens)
    (hch : ∀ b ∈ ch, (b ∈ X.ex ∨ X.s₀.heap.objs.size ≤ b) ∧ b ≠ X.env.locals ∧ (∀ x c, X.env.cells.lookup x = some c → c ≠ b) ∧ ∀ p ∈ X.pn ++ pins, p.1 ≠ b) : Inv X pins σ H' s' := by
  obtain ⟨h', g', d', t', o'⟩ := s'
  have e : o' = s.os := ho
  subst e
  exact I.call (g' := g') (t' := t') (d' := d') u hok hg hch
end
abbrev XK := Value → Option Addr → Hp → Prop
abbrev St := List (Option V)
abbrev VK := V → Hp → Prop
abbrev TE := St → Hp → VK → Prop
abbrev TT := St → Hp → (Bool → Hp → Prop) → Prop
abbrev TA := St → Hp → (List V → Hp → Prop) → Prop
/-- what is wanted behind a statement -/
structure Ends where
  nx : St → Hp → Prop
  rt : VK
  bk : St → Hp → Prop := fun _ _ => False
  ct : St → Hp → Prop := fun _ _ => False
abbrev TS := Ends → St → Hp → Prop
def EP (X : Cx) (pins : List (Addr × Obj)) (σ : St) (Q : VK) (u : Value) (s' : Shared) : Prop := ∃ v H', Inv X pins σ H' s' ∧ RelV v u ∧ Q v H'
def TP (X : Cx) (pins : List (Addr × Obj)) (σ : St) (Q : Bool → Hp → Prop) (b : Bool) (s' : Shared) : Prop := ∃ H', Inv X pins σ H' s' ∧ Q b H'
def AP (X : Cx) (pins : List (Addr × Obj)) (σ : St) (Q : List V → Hp → Prop) (us : List Value) (s' : Shared) : Prop := ∃ vs H', Inv X pins σ H' s' ∧ Vals vs us ∧ Q vs H'
def SP (X : Cx) (pins : List (Addr × Obj)) (D : Ends) (f : Flow) (s' : Shared) : Prop :=
  match f with
  | .next => ∃ σ' H', Inv X pins σ' H' s' ∧ D.nx σ' H'
  | .brk => ∃ σ' H', Inv X pins σ' H' s' ∧ D.bk σ' H'
  | .cont => ∃ σ' H', Inv X pins σ' H' s' ∧ D.ct σ' H'
  | .ret u => ∃ v σ' H', Inv X pins σ' H' s' ∧ RelV v u ∧ D.rt v H'
def PE (X : Cx) (e : Expr) (t : TE) : Prop :=
  ∀ (pins : List (Addr × Obj)) (s : Shared) (σ : St) (H : Hp) (Q : VK), Inv X pins σ H s → t σ H Q → wpAny (model X.prog X.w) X.A (eval e X.env) (EP X pins σ Q) X.xe s
def PT (X : Cx) (e : Expr) (t : TT) : Prop :=
  ∀ (pins : List (Addr × Obj)) (s : Shared) (σ : St) (H : Hp) (Q : Bool → Hp → Prop), Inv X pins σ H s → t σ H Q → wpAny (model X.prog X.w) X.A (isTrue e X.env (eval e X.env)) (TP X pins σ Q) X.xe s
def PW (X : Cx) (e : Expr) (t : TT) : Prop :=
  ∀ (whole : Sem Value) (pins : List (Addr × Obj)) (s : Shared) (σ : St) (H : Hp) (Q : Bool → Hp → Prop), Inv X pins σ H s → t σ H Q → wpAny (model X.prog X.w) X.A (isTrue e X.env whole) (TP X pins σ Q) X.xe s
theorem PW.pt {X : Cx} {e : Expr} {t : TT} (h : PW X e t) : PT X e t := h _
def PA (X : Cx) (es : List Expr) (t : TA) : Prop :=
  ∀ (pos : Pos) (pins : List (Addr × Obj)) (s : Shared) (σ : St) (H : Hp) (Q : List V → Hp → Prop), Inv X pins σ H s → t σ H Q → wpAny (model X.prog X.w) X.A (spliced (backTo pos (starEach es X.env))) (AP X pins σ Q) X.xe s
def PS (X : Cx) (st : Stmt) (t : TS) : Prop :=
  ∀ (pins : List (Addr × Obj)) (s : Shared) (σ : St) (H : Hp) (D : Ends), Inv X pins σ H s → t D σ H → wpAny (model X.prog X.w) X.A (exec st X.env) (SP X pins D) X.xe s
def PSs (X : Cx) (st : List Stmt) (t : TS) : Prop :=
  ∀ (pins : List (Addr × Obj)) (s : Shared) (σ : St) (H : Hp) (D : Ends), Inv X pins σ H s → t D σ H → wpAny (model X.prog X.w) X.A (execs st X.env) (SP X pins D) X.xe s
theorem thn {α : Type} {t : Sem α} {Q Q' : α → Shared → Prop} {M : Model} {A : Around} {E : Value → Shared → Prop} {s : Shared} (h : wpAny M A t Q E s) (hQ : ∀ a s, Q a s → Q' a s) : wpAny M A t Q' E s := wpAny_mono h hQ fun _ _ x => x
end L2
namespace L2
open PySem PySem.Spec PyProof.Rows
section
variable {X : Cx}
def tVar (i : Nat) : TE := fun σ H Q => ∃ v, σ[i]? = some (some v) ∧ Q v H
def tC (v : V) : TE := fun _ H Q => Q v H
theorem pe_var {i : Nat} {x : Str} {pos : Pos} (hN : X.N[i]? = some x) (hv : Vis X.env.scope x) (hd : (x == ("__debug__" : Str)) = false := by decide) (hcd : (x == ("__classdict__" : Str)) = false := by decide) : PE X (.Name x pos) (tVar i) := by
  intro pins s σ H Q I h
  obtain ⟨v, e, h⟩ := h
  obtain ⟨m, hn, hl⟩ := I.loc
  obtain ⟨u, r, l⟩ := hl i x v hN e hv
  have fin : EP X pins σ Q u s := ⟨v, H, I, r, h⟩
  rcases l with ⟨hk, hm⟩ | ⟨hk, c, hc, hcell⟩
  · exact wpAny_Name (wpAny_loadName_local I.ok.kind hk hn hm fin) hd
  · rcases hk with hk | hk
    · exact wpAny_Name (wpAny_loadName_cell I.ok.kind hk hc hcell fin) hd
    · exact wpAny_Name (wpAny_loadName_free I.ok.kind hk hc hcell fin hcd) hd
theorem pe_int {i j pos} : PE X (.Constant (.int i) j pos) (tC (.int i)) := fun _ _ _ H _ I h => wpAny_Constant_int ⟨.int i, H, I.tok _, ⟨_, rfl⟩, h⟩
theorem pe_bl {b j pos} : PE X (.Constant (.bool b) j pos) (tC (.bl b)) := fun _ _ _ H _ I h => Constant_bool ⟨.bl b, H, I, rfl, h⟩
theorem pe_non {j pos} : PE X (.Constant .none j pos) (tC .non) := fun _ _ _ H _ I h => Constant_none ⟨.non, H, I, rfl, h⟩
theorem pe_str {x j pos} : PE X (.Constant (.str x) j pos) (tC (.str x)) := fun _ _ _ H _ I h => Calls.Constant_str ⟨.str x, H, I.tok _, ⟨_, rfl⟩, h⟩
def Gl (X : Cx) (x : Str) : Prop := X.env.kindOf x = some .globalImplicit
theorem ld_glob {E : Value → Shared → Prop} {pins : List (Addr × Obj)} {s : Shared} {σ : St} {H : Hp} {x : Str} {u : Value} {pos : Pos} {Q : Value → Shared → Prop} (I : Inv X pins σ H s) (hg : Gl X x) (hm : X.mg x = some u) (h : Q u s)
    (hd : (x == ("__debug__" : Str)) = false := by decide) : wpAny (model X.prog X.w) X.A (eval (.Name x pos) X.env) Q E s :=
  Calls.Name_function_global I.ok.kind hg (Calls.loadGlobal_global (by rw [I.ok.glob]; exact I.mod.glob.keeps I.bk) hm h) hd
theorem ld_blt {E : Value → Shared → Prop} {pins : List (Addr × Obj)} {s : Shared} {σ : St} {H : Hp} {x : Str} {u : Value} {pos : Pos} {Q : Value → Shared → Prop} (I : Inv X pins σ H s) (hg : Gl X x) (hm : X.mg x = none) (hv : bootBuiltins x = some u) (h : Q u s)
    (hn : x ≠ "__name__" := by decide) (hd : (x == ("__debug__" : Str)) = false := by decide) : wpAny (model X.prog X.w) X.A (eval (.Name x pos) X.env) Q E s := by
  obtain ⟨mb, h1, h2⟩ := I.mod.blt
  exact Calls.Name_function_global I.ok.kind hg (Calls.loadGlobal_builtin (by rw [I.ok.glob]; exact I.mod.glob.keeps I.bk) hm (by rw [I.ok.blt]; exact h1.keeps I.bk) ((h2 x hn).trans hv) h) hd
theorem pe_glob {x : Str} {v : V} {u : Value} {pos : Pos} (hg : Gl X x) (hm : X.mg x = some u) (r : RelV v u) (hd : (x == ("__debug__" : Str)) = false := by decide) : PE X (.Name x pos) (tC v) :=
  fun _ _ _ H _ I h => ld_glob I hg hm ⟨v, H, I, r, h⟩ hd
theorem pe_bltn {x : Str} {v : V} {u : Value} {pos : Pos} (hg : Gl X x) (hm : X.mg x = none) (hv : bootBuiltins x = some u) (r : RelV v u) (hn : x ≠ "__name__" := by decide) (hd : (x == ("__debug__" : Str)) = false := by decide) : PE X (.Name x pos) (tC v) :=
  fun _ _ _ H _ I h => ld_blt I hg hm hv ⟨v, H, I, r, h⟩ hn hd
variable {a b : Expr} {ta tb : TE} {pos : Pos}
def PC (X : Cx) (op : CmpOp) (a b : Expr) (t : TE) : Prop :=
  ∀ (pins : List (Addr × Obj)) (s : Shared) (σ : St) (H : Hp) (Q : VK), Inv X pins σ H s → t σ H Q →
    wpAny (model X.prog X.w) X.A (eval a X.env) (fun v s₁ => wpAny (model X.prog X.w) X.A (eval b X.env) (fun u s₂ => wpAny (model X.prog X.w) X.A (compareOp op v u) (EP X pins σ Q) X.xe s₂) X.xe s₁) X.xe s
theorem nobehind (b : Expr) {op : CmpOp} (h : op ≠ .In) (h2 : op ≠ .NotIn) : behindInMarks op b = false := by
  have e1 : (op == CmpOp.In) = false := by cases op <;> first | rfl | exact absurd rfl h
  have e2 : (op == CmpOp.NotIn) = false := by cases op <;> first | rfl | exact absurd rfl h2
  cases b <;> simp [behindInMarks, e1, e2]
def tNotN (ta : TE) : TE := fun σ H Q => ta σ H fun x H1 => Q (.bl (!decide (x = .non))) H1
theorem RelV.none_iff {x : V} {v : Value} (r : RelV x v) : (v == Value.none) = decide (x = .non) := by
  cases x with
  | non => cases r; rfl
  | bl _ => cases r; rfl
  | int _ => obtain ⟨t, rfl⟩ := r; rfl
  | str _ => obtain ⟨t, rfl⟩ := r; rfl
  | byt _ => obtain ⟨t, rfl⟩ := r; rfl
  | flt _ => obtain ⟨t, rfl⟩ := r; rfl
  | ref _ => cases r; rfl
  | ty _ => cases r; rfl
theorem pc_notN {j pos'} (ha : PE X a ta) : PC X .IsNot a (.Constant .none j pos') (tNotN ta) := by
  intro pins s σ H Q I h
  refine thn (ha pins s σ H _ I h) fun v s1 ⟨x, H1, I1, r1, q1⟩ => ?_
  exact Constant_none (isnot_none_gen ⟨.bl _, H1, I1, by rw [r1.none_iff]; rfl, q1⟩)
def tB (t : TE) : TT := fun σ H Q => t σ H fun x H1 => ∃ c, x = .bl c ∧ Q c H1
theorem pe_cmp {op : CmpOp} {t : TE} (h : PC X op a b t) (h1 : behindInMarks op b = false := by first | exact nobehind _ (by decide) (by decide) | rfl) : PE X (.Compare a [op] [b] pos) t := fun pins s σ H Q I hw => wpAny_Compare1 (h pins s σ H Q I hw) h1
theorem pt_cmp {op : CmpOp} {t : TE} (h : PC X op a b t) (h1 : behindInMarks op b = false := by first | exact nobehind _ (by decide) (by decide) | rfl) : PT X (.Compare a [op] [b] pos) (tB t) := by
  intro pins s σ H Q I hw
  refine wpAny_isTrue_Compare1 (thn (h pins s σ H _ I hw) fun v s1 h1 => thn h1 fun u s2 h2 => thn h2 fun c s3 ⟨x, H1, I1, r1, q1⟩ => ?_) h1
  obtain ⟨d, rfl, q⟩ := q1
  cases r1
  exact wpAny_truthy_bool ⟨H1, I1, q⟩
theorem pt_val {e : Expr} {t : TE} (h : PE X e t) (he : ∀ whole, isTrue e X.env whole = (do let v ← whole; standAt e.pos; holding [v] (truthy v)) := by intro _; rfl) : PT X e (tB t) := by
  intro pins s σ H Q I hw
  refine isTrue_plain (thn (h pins s σ H _ I hw) fun v s1 ⟨x, H1, I1, r1, q1⟩ => ?_) (he _)
  obtain ⟨d, rfl, q⟩ := q1
  cases r1
  exact wpAny_truthy_bool ⟨H1, I1, q⟩
variable {tA tB' : TT} {rest : List Expr}
def tAnd (t u : TT) : TT := fun σ H Q => t σ H fun c H1 => if c = true then u σ H1 Q else Q false H1
def tOr (t u : TT) : TT := fun σ H Q => t σ H fun c H1 => if c = true then Q true H1 else u σ H1 Q
def tNot (t : TT) : TT := fun σ H Q => t σ H fun c H1 => Q (!c) H1
theorem pw_and1 (ha : PT X a tA) : PW X (.BoolOp .And [a] pos) tA := by
  intro wh pins s σ H Q I h
  refine isTrue_and (thn (ha pins s σ H Q I h) fun c s1 e => ?_)
  cases c with
  | true => exact isTrue_and_nil e
  | false => exact e
theorem pw_or1 (ha : PT X a tA) : PW X (.BoolOp .Or [a] pos) tA := by
  intro wh pins s σ H Q I h
  refine isTrue_or (thn (ha pins s σ H Q I h) fun c s1 e => ?_)
  cases c with
  | false => exact isTrue_or_nil e
  | true => exact e
theorem pw_and (ha : PT X a tA) (hb : PW X (.BoolOp .And (b :: rest) pos) tB') : PW X (.BoolOp .And (a :: b :: rest) pos) (tAnd tA tB') := by
  intro wh pins s σ H Q I h
  refine isTrue_and (thn (ha pins s σ H _ I h) fun c s1 ⟨H1, I1, q1⟩ => ?_)
  cases c with
  | true => exact hb wh pins s1 σ H1 Q I1 q1
  | false => exact ⟨H1, I1, q1⟩
theorem pw_or (ha : PT X a tA) (hb : PW X (.BoolOp .Or (b :: rest) pos) tB') : PW X (.BoolOp .Or (a :: b :: rest) pos) (tOr tA tB') := by
  intro wh pins s σ H Q I h
  refine isTrue_or (thn (ha pins s σ H _ I h) fun c s1 ⟨H1, I1, q1⟩ => ?_)
  cases c with
  | true => exact ⟨H1, I1, q1⟩
  | false => exact hb wh pins s1 σ H1 Q I1 q1
theorem pt_not (ha : PT X a tA) : PT X (.UnaryOp .Not a pos) (tNot tA) := by
  intro pins s σ H Q I h
  exact isTrue_not (ha pins s σ H (fun c H1 => Q (!c) H1) I h)
def tAndV (ta tb : TE) : TE := fun σ H Q => ta σ H fun x H1 => ∃ c, x = .bl c ∧ if c = true then tb σ H1 Q else Q (.bl false) H1
def tNotV (ta : TE) : TE := fun σ H Q => ta σ H fun x H1 => ∃ c, x = .bl c ∧ Q (.bl (!c)) H1
theorem pe_one {op} {t : TE} (h : PE X a t) : PE X (.BoolOp op [a] pos) t := fun pins s σ H Q I hw => BoolOp_one (h pins s σ H Q I hw)
theorem pe_and (ha : PE X a ta) (hb : PE X (.BoolOp .And (b :: rest) pos) tb) : PE X (.BoolOp .And (a :: b :: rest) pos) (tAndV ta tb) := by
  intro pins s σ H Q I h
  refine BoolOp_and (thn (ha pins s σ H _ I h) fun v s1 ⟨x, H1, I1, r1, q1⟩ => ?_)
  obtain ⟨c, rfl, q1⟩ := q1
  cases r1
  refine wpAny_truthy_bool ?_
  cases c with
  | true => exact hb pins s1 σ H1 Q I1 q1
  | false => exact ⟨.bl false, H1, I1, rfl, q1⟩
theorem pe_not (ha : PE X a ta) : PE X (.UnaryOp .Not a pos) (tNotV ta) := by
  intro pins s σ H Q I h
  refine UnaryOp_ (thn (ha pins s σ H _ I h) fun v s1 ⟨x, H1, I1, r1, q1⟩ => ?_)
  obtain ⟨c, rfl, q1⟩ := q1
  cases r1
  exact not_of (wpAny_truthy_bool ⟨.bl (!c), H1, I1, rfl, q1⟩)
def tIf (t : TT) (ta tb : TE) : TE := fun σ H Q => t σ H fun c H1 => if c = true then ta σ H1 Q else tb σ H1 Q
theorem pe_ifExp {c : Expr} (hc : PT X c tA) (ha : PE X a ta) (hb : PE X b tb) : PE X (.IfExp c a b pos) (tIf tA ta tb) := by
  intro pins s σ H Q I h
  refine wpAny_IfExp (thn (hc pins s σ H _ I h) fun d s1 ⟨H1, I1, q1⟩ => ?_)
  cases d with
  | true => exact ha pins s1 σ H1 Q I1 q1
  | false => exact hb pins s1 σ H1 Q I1 q1
end
end L2
namespace L2
open PySem PySem.Spec PyProof.Rows
def SqL (K : PySem.W.Frag) (H : Hp) (a : Addr) (xs : List V) : Prop :=
  Rd H a (.lst xs) ∨
    ∃ (o : Obj) (its : Array Value) (n : Nat), K.lookup a = some o ∧ o.cls = .type "list" ∧ o.dict = none ∧ o.data = .seq its n ∧ its.size ≤ sizeLine ∧ Vals xs its.toList
def SqT (K : PySem.W.Frag) (H : Hp) (a : Addr) (xs : List V) : Prop :=
  Rd H a (.tup xs) ∨
    ∃ (o : Obj) (its : Array Value) (n : Nat), K.lookup a = some o ∧ o.cls = .type "tuple" ∧ o.data = .seq its n ∧ its.size ≤ sizeLine ∧ Vals xs its.toList
def absV : Value → Option V
  | .none => some .non
  | .bool b => some (.bl b)
  | .int i _ => some (.int i)
  | .str x _ => some (.str x)
  | .bytes b _ => some (.byt b)
  | .float b _ => some (.flt b)
  | .ref a => some (.ref a)
  | .type n => some (.ty n)
  | _ => none
theorem RelV.abs {x : V} {u : Value} (r : RelV x u) : absV u = some x := by
  cases x with
  | non => cases r; rfl
  | bl _ => cases r; rfl
  | int _ => obtain ⟨t, rfl⟩ := r; rfl
  | str _ => obtain ⟨t, rfl⟩ := r; rfl
  | byt _ => obtain ⟨t, rfl⟩ := r; rfl
  | flt _ => obtain ⟨t, rfl⟩ := r; rfl
  | ref _ => cases r; rfl
  | ty _ => cases r; rfl
theorem RelV.inj {x y : V} {u : Value} (r : RelV x u) (q : RelV y u) : x = y := Option.some.inj (r.abs.symm.trans q.abs)
theorem Vals.inj : ∀ {xs ys : List V} {us : List Value}, Vals xs us → Vals ys us → xs = ys
  | _, _, _, .nil, .nil => rfl
  | _, _, _, .cons r t, .cons r' t' => by rw [r.inj r', Vals.inj t t']
section
variable {X : Cx} {pins : List (Addr × Obj)} {σ : St} {H : Hp} {s : Shared} {a : Addr} {xs ys : List V}
theorem SqL.of {K : PySem.W.Frag} (h : H a = some (.lst xs)) : SqL K H a xs := .inl (.inl h)
theorem SqT.of {K : PySem.W.Frag} (h : H a = some (.tup xs)) : SqT K H a xs := .inl (.inl h)
theorem Inv.list (I : Inv X pins σ H s) (h : SqL X.K H a xs) : ∃ its : List Value, Vals xs its ∧ PlainL s.heap a its.toArray ∧ xs.length ≤ sizeLine := by
  rcases h with h | ⟨o, its, n, hk, hc, hd, hs, hz, r⟩
  · obtain ⟨z, its, n, r, e⟩ := h.ok I.hok
    exact ⟨its, r, ⟨_, n, e, rfl, rfl, rfl⟩, z⟩
  · refine ⟨its.toList, r, ⟨o, n, I.kIn a o hk, hc, hd, by simpa using hs⟩, ?_⟩
    have e := r.length
    simp only [Array.length_toList] at e
    omega
theorem Inv.tuple (I : Inv X pins σ H s) (h : SqT X.K H a xs) : ∃ its : List Value, Vals xs its ∧ IsTup s.heap a its.toArray ∧ xs.length ≤ sizeLine := by
  rcases h with h | ⟨o, its, n, hk, hc, hs, hz, r⟩
  · obtain ⟨z, its, r, p⟩ := h.ok I.hok
    exact ⟨its, r, p, z⟩
  · refine ⟨its.toList, r, ⟨o, I.kIn a o hk, hc, n, by simpa using hs⟩, ?_⟩
    have e := r.length
    simp only [Array.length_toList] at e
    omega
theorem Inv.list_inj (I : Inv X pins σ H s) (h : SqL X.K H a xs) (h' : SqL X.K H a ys) : xs = ys := by
  obtain ⟨its, r, ⟨o, n, e, _, _, d⟩, _⟩ := I.list h
  obtain ⟨its', r', ⟨o', n', e', _, _, d'⟩, _⟩ := I.list h'
  rw [e] at e'; cases e'
  rw [d] at d'
  injection d' with d1 _
  have : its = its' := by simpa using congrArg Array.toList d1
  subst this
  exact r.inj r'
end
abbrev Cx.wish (X : Cx) (E : Value → Shared → Prop) : Cx := { X with xe := E }
abbrev Cx.nox (X : Cx) : Cx := X.wish fun _ _ => False
theorem Cx.Ok.wish {X : Cx} (ok : X.Ok) (E : Value → Shared → Prop) : (X.wish E).Ok :=
  ⟨ok.mod, ok.kind, ok.glob, ok.blt, ok.above, ok.inj, ok.has, ok.cab, ok.hd, ok.frames, ok.stk, ok.exf, ok.bs, ok.bsz, ok.noex, ok.exfs, ok.funs, ok.frf⟩
theorem Cx.Ok.unwish {X : Cx} {E : Value → Shared → Prop} (ok : (X.wish E).Ok) : X.Ok :=
  ⟨ok.mod, ok.kind, ok.glob, ok.blt, ok.above, ok.inj, ok.has, ok.cab, ok.hd, ok.frames, ok.stk, ok.exf, ok.bs, ok.bsz, ok.noex, ok.exfs, ok.funs, ok.frf⟩
section
variable {X : Cx} {pins : List (Addr × Obj)} {σ : St} {H : Hp} {s : Shared} {E : Value → Shared → Prop}
theorem Inv.wish (I : Inv X pins σ H s) (E : Value → Shared → Prop) : Inv (X.wish E) pins σ H s := ⟨I.ok.wish E, I.os, I.bare, I.base, I.loc, I.cell, I.free, I.freeC, I.pin, I.hok, I.len⟩
theorem Inv.unwish (I : Inv (X.wish E) pins σ H s) : Inv X pins σ H s := ⟨I.ok.unwish, I.os, I.bare, I.base, I.loc, I.cell, I.free, I.freeC, I.pin, I.hok, I.len⟩
theorem SP.unwish {D : Ends} {f : Flow} {s' : Shared} (h : SP (X.wish E) pins D f s') : SP X pins D f s' := by
  cases f with
  | next => obtain ⟨σ', H', I, q⟩ := h; exact ⟨σ', H', I.unwish, q⟩
  | brk => obtain ⟨σ', H', I, q⟩ := h; exact ⟨σ', H', I.unwish, q⟩
  | cont => obtain ⟨σ', H', I, q⟩ := h; exact ⟨σ', H', I.unwish, q⟩
  | ret u => obtain ⟨v, σ', H', I, r, q⟩ := h; exact ⟨v, σ', H', I.unwish, r, q⟩
theorem PE.nox {e : Expr} {t : TE} (h : PE X.nox e t) : PE X e t := fun pins s σ H Q I hw =>
  wpAny_mono (h pins s σ H Q (I.wish _) hw) (fun _ _ ⟨v, H', I', r, q⟩ => ⟨v, H', I'.unwish, r, q⟩) fun _ _ z => False.elim z
theorem PT.nox {e : Expr} {t : TT} (h : PT X.nox e t) : PT X e t := fun pins s σ H Q I hw =>
  wpAny_mono (h pins s σ H Q (I.wish _) hw) (fun _ _ ⟨H', I', q⟩ => ⟨H', I'.unwish, q⟩) fun _ _ z => False.elim z
theorem PSs.nox {st : List Stmt} {t : TS} (h : PSs X.nox st t) : PSs X st t := fun pins s σ H D I hw =>
  wpAny_mono (h pins s σ H D (I.wish _) hw) (fun _ _ q => q.unwish) fun _ _ z => False.elim z
end
section
variable {X : Cx} {st : Stmt} {rest : List Stmt} {t u : TS} {e : Expr} {te : TE} {pos : Pos}
def tNext : TS := fun D σ H => D.nx σ H
def tSeq (t u : TS) : TS := fun D σ H => t { D with nx := u D } σ H
theorem pss_nil : PSs X [] tNext := fun _ _ σ H _ I h => wpAny_execs_nil ⟨σ, H, I, h⟩
theorem pss_cons (h1 : PS X st t) (h2 : PSs X rest u) : PSs X (st :: rest) (tSeq t u) := by
  intro pins s σ H D I h
  refine wpAny_execs_cons (thn (h1 pins s σ H { D with nx := u D } I h) fun f s1 q => ?_)
  cases f with
  | next =>
    obtain ⟨σ', H', I', q⟩ := q
    exact h2 pins s1 σ' H' D I' q
  | ret v => exact q
  | brk => exact q
  | cont => exact q
theorem pss_one (h1 : PS X st t) : PSs X [st] t := by
  intro pins s σ H D I h
  refine wpAny_execs_cons (thn (h1 pins s σ H D I h) fun f s1 q => ?_)
  cases f with
  | next => exact wpAny_execs_nil q
  | ret v => exact q
  | brk => exact q
  | cont => exact q
theorem Inv.quiet {pins : List (Addr × Obj)} {σ : St} {H : Hp} {s : Shared} (I : Inv X pins σ H s) : interactive X.env = false := by simp [interactive, I.ok.kind]
def tDrop (te : TE) : TS := fun D σ H => te σ H fun _ H1 => D.nx σ H1
theorem ps_expr (he : PE X e te) (hs : swapsWith e none pos.line X.env = pure false := by rfl) : PS X (.Expr e pos) (tDrop te) := by
  intro pins s σ H D I h
  exact wpAny_Expr_any (thn (he pins s σ H _ I h) fun v s1 ⟨x, H1, I1, r1, q1⟩ => ⟨σ, H1, I1, q1⟩) I.quiet hs
def tRet (te : TE) : TS := fun D σ H => te σ H D.rt
theorem ps_ret (he : PE X e te) : PS X (.Return (some e) pos) (tRet te) := by
  intro pins s σ H D I h
  exact wpAny_Return_some (thn (he pins s σ H _ I h) fun v s1 ⟨x, H1, I1, r1, q1⟩ => ⟨x, σ, H1, I1, r1, q1⟩)
def tIfS (c : TT) (t u : TS) : TS := fun D σ H => c σ H fun b H1 => if b = true then t D σ H1 else u D σ H1
theorem ps_if {c : Expr} {a b : List Stmt} {tc : TT} (hc : PT X c tc) (ha : PSs X a t) (hb : PSs X b u) : PS X (.If c a b pos) (tIfS tc t u) := by
  intro pins s σ H D I h
  refine wpAny_If (thn (hc pins s σ H _ I h) fun d s1 ⟨H1, I1, q1⟩ => ?_)
  cases d with
  | true => exact ha pins s1 σ H1 D I1 q1
  | false => exact hb pins s1 σ H1 D I1 q1
def tNever : TS := fun _ _ _ => False
theorem pss_never {sts : List Stmt} : PSs X sts tNever := fun _ _ _ _ _ _ h => h.elim
end
abbrev TG := V → St → Hp → (St → Hp → Prop) → Prop
abbrev TGs := List V → St → Hp → (St → Hp → Prop) → Prop
def PG (X : Cx) (target : Expr) (t : TG) : Prop :=
  ∀ (pins : List (Addr × Obj)) (s : Shared) (σ : St) (H : Hp) (v : V) (u : Value) (Q : St → Hp → Prop), Inv X pins σ H s → RelV v u → t v σ H Q →
    wpAny (model X.prog X.w) X.A (assign target X.env u) (fun _ s' => ∃ σ' H', Inv X pins σ' H' s' ∧ Q σ' H') X.xe s
def PGs (X : Cx) (ts : List Expr) (t : TGs) : Prop :=
  ∀ (pins : List (Addr × Obj)) (s : Shared) (σ : St) (H : Hp) (vs : List V) (us : List Value) (Q : St → Hp → Prop), Inv X pins σ H s → Vals vs us → t vs σ H Q →
    wpAny (model X.prog X.w) X.A (assignInOrder ((assignEach ts X.env).map (·.2)) us) (fun _ s' => ∃ σ' H', Inv X pins σ' H' s' ∧ Q σ' H') X.xe s
section
variable {X : Cx} {pos : Pos}
def gName (i : Nat) : TG := fun v σ H Q => Q (σ.set i (some v)) H
theorem pg_name {i : Nat} {x : Str} (hN : X.N.Nodup) (hi : X.N[i]? = some x) (hx : Loc X.env.scope x) (hf : X.fn x = true ∨ X.env.scope.names.lookup x = some .local := by first | exact .inl rfl | exact .inr rfl | assumption) : PG X (.Name x pos) (gName i) := by
  intro pins s σ H v u Q I r h
  exact wpAny_assign_Name (store_ok I hN hi hx r (fun s' I' => ⟨_, H, I', h⟩) hf)
def gNil : TGs := fun vs σ H Q => vs = [] ∧ Q σ H
def gCons (t : TG) (u : TGs) : TGs := fun vs σ H Q => ∃ v r, vs = v :: r ∧ t v σ H fun σ' H' => u r σ' H' Q
theorem pgs_nil : PGs X [] gNil := by
  intro pins s σ H vs us Q I r h
  obtain ⟨e, h⟩ := h
  subst e
  cases r
  exact assignInOrder_nil ⟨σ, H, I, h⟩
theorem pgs_cons {e : Expr} {es : List Expr} {t : TG} {u : TGs} (h1 : PG X e t) (h2 : PGs X es u)
    (hs : (assignEach (e :: es) X.env).map (·.2) = assign e X.env :: (assignEach es X.env).map (·.2) := by rfl) : PGs X (e :: es) (gCons t u) := by
  intro pins s σ H vs us Q I r h
  obtain ⟨v, vr, e1, h⟩ := h
  subst e1
  cases r with
  | cons r rr =>
    rw [hs]
    refine assignInOrder_cons (thn (h1 pins s σ H _ _ _ I r h) fun _ s1 ⟨σ1, H1, I1, q1⟩ => ?_)
    exact h2 pins s1 σ1 H1 _ _ Q I1 rr q1
def gTup (K : PySem.W.Frag) (n : Nat) (t : TGs) : TG := fun v σ H Q => ∃ a xs, v = .ref a ∧ SqT K H a xs ∧ xs.length = n ∧ t xs σ H Q
theorem pg_tup {es : List Expr} {k : Nat} {t : TGs} {n : Nat} (hc : X.calm = true) (h : PGs X es t)
    (hn : (assignEach es X.env).length = n := by rfl) (hst : (assignEach es X.env).findIdx? (·.1) = none := by rfl) : PG X (.Tuple es k pos) (gTup X.K n t) := by
  intro pins s σ H v u Q I r hw
  obtain ⟨a, xs, e1, hq, hl, hw⟩ := hw
  subst e1
  cases r
  obtain ⟨its, rv, ht, hz⟩ := I.tuple hq
  refine assign_Tuple_tuple (I.ok.hd hc) ht (by simp [hn, ← hl, rv.length]) hst fun h' hx => ?_
  have I1 : Inv X pins σ H { s with heap := h' } := I.kept (t' := s.toks) fun b o e => hx b o (Nat.ne_of_lt (Heap.lt_size e)) e
  exact h pins _ σ H xs _ Q I1 (by simpa using rv) hw
def tAsg (te : TE) (g : TG) : TS := fun D σ H => te σ H fun x H1 => g x σ H1 D.nx
theorem ps_set {i : Nat} {x : Str} {e : Expr} {te : TE} {pos' : Pos} (hN : X.N.Nodup) (hi : X.N[i]? = some x) (hx : Loc X.env.scope x) (he : PE X e te) (hs : swapsWith e (some (.Name x pos')) pos.line X.env = pure false := by rfl) (hf : X.fn x = true ∨ X.env.scope.names.lookup x = some .local := by first | exact .inl rfl | exact .inr rfl | assumption) :
    PS X (.Assign [.Name x pos'] e pos) (tAsg te (gName i)) := by
  intro pins s σ H D I h
  refine wpAny_Assign_Name (thn (he pins s σ H _ I h) fun v s1 ⟨y, H1, I1, r1, q1⟩ => ?_) hs
  exact store_ok I1 hN hi hx r1 (fun s2 I2 => ⟨_, H1, I2, q1⟩) hf
end
section
variable {X : Cx} {pos : Pos}
def tWhile (c : TT) (tb : TS) : TS := fun D σ H => ∃ W : Nat → St → Hp → Prop, (∃ m, W m σ H) ∧ ∀ m σ H, W m σ H →
  c σ H fun b H1 => if b = true then ∃ N : St → Hp → Prop, (∀ σ' H', N σ' H' → ∃ m', m' < m ∧ W m' σ' H') ∧ tb { D with nx := N, ct := N, bk := D.nx } σ H1 else D.nx σ H1
theorem ps_while {c : Expr} {body : List Stmt} {tc : TT} {tb : TS} (hp : PassesOwn (model X.prog X.w) X.A X.env X.xe) (hc : PT X c tc) (hb : PSs X body tb) : PS X (.While c body [] pos) (tWhile tc tb) := by
  intro pins s σ H D I h
  obtain ⟨W, ⟨m0, w0⟩, turn⟩ := h
  refine wpAny_While (codeAny_whileLoop (fun n s' => ∃ σ' H', Inv X pins σ' H' s' ∧ W n σ' H') ?_ m0 ⟨σ, H, I, w0⟩)
  rintro n s1 ⟨σ1, H1, I1, w1⟩
  refine wpAny_passesOwn hp (thn (hc pins s1 σ1 H1 _ I1 (turn n σ1 H1 w1)) fun b s2 ⟨H2, I2, q2⟩ => ?_)
  cases b with
  | true =>
    obtain ⟨N, hN, q2⟩ := q2
    rw [if_pos rfl]
    refine wpAny_passesOwn hp (thn (hb pins s2 σ1 H2 _ I2 q2) fun f s3 q3 => ?_)
    cases f with
    | next =>
      obtain ⟨σ3, H3, I3, n3⟩ := q3
      obtain ⟨m', hm, w3⟩ := hN σ3 H3 n3
      exact ⟨m', hm, σ3, H3, I3, w3⟩
    | cont =>
      obtain ⟨σ3, H3, I3, n3⟩ := q3
      obtain ⟨m', hm, w3⟩ := hN σ3 H3 n3
      exact ⟨m', hm, σ3, H3, I3, w3⟩
    | brk => exact q3
    | ret v => exact q3
  | false =>
    rw [if_neg Bool.false_ne_true]
    exact wpAny_execs_nil ⟨σ1, H2, I2, q2⟩
end
/-- at turn i: it yields x (the heap may grow), or it stops -/
structure It where
  go : Nat → Hp → Prop
  yld : Nat → Hp → V → Hp → Prop
  stop : Nat → Hp → Prop
def FpOk (X : Cx) (pins : List (Addr × Obj)) (H : Hp) (b : Addr) : Prop :=
  H b = none ∧ b ≠ X.env.locals ∧ b ∉ X.fs ∧ (b ∈ X.ex ∨ X.s₀.heap.objs.size ≤ b) ∧ (∀ x c, X.env.cells.lookup x = some c → c ≠ b) ∧ ∀ p ∈ X.pn ++ pins, p.1 ≠ b
theorem Inv.fpOk {X : Cx} {pins : List (Addr × Obj)} {σ : St} {H H' : Hp} {s : Shared} {b : Addr} (I : Inv X pins σ H s) (hb : s.heap.objs.size ≤ b) (hn : H' b = none) : FpOk X pins H' b := by
  refine ⟨hn, Nat.ne_of_gt (Nat.lt_of_lt_of_le I.lt hb), I.nofs hb, .inr (Nat.le_trans I.sz hb), fun x c e z => ?_, fun p hp z => ?_⟩
  · obtain ⟨v, q⟩ := I.cell x c e
    exact absurd (Nat.lt_of_lt_of_le q.lt (by rw [z]; exact hb)) (Nat.lt_irrefl _)
  · exact absurd (Nat.lt_of_lt_of_le (Heap.lt_size (I.pin p hp).1) (by rw [z]; exact hb)) (Nat.lt_irrefl _)
structure Turn (P : Program) (w : World) (K : PySem.W.Frag) (tg : Expr) (J : It) (fp : List Addr) (it : Addr) (tn : Nat → Heap → Prop) : Prop where
  mem : it ∈ fp
  obj : ∀ i h, tn i h → ∀ b ∈ fp, ∃ o, h.get? b = some o ∧ ∀ v, o.data ≠ .cell v
  keep : ∀ i h h', tn i h → (∀ b ∈ fp, ∀ o, h.get? b = some o → h'.get? b = some o) → tn i h'
  item : ∀ (X : Cx), X.prog = P → X.w = w → X.K = K → X.calm = true → ∀ (i : Nat) (pins : List (Addr × Obj)) (s : Shared) (σ : St) (H : Hp) (E : Value → Shared → Prop), Inv X pins σ H s → (∀ b ∈ fp, FpOk X pins H b) → tn i s.heap → J.go i H →
    wpAny (model P w) X.A (pyNext (.ref it)) (fun r s1 => ∃ u, r = some u ∧
      wpAny (model P w) X.A (letOwnedTupleGo tg (.ref it) u) (fun _ s2 => ∃ x H', Inv X pins σ H' s2 ∧ RelV x u ∧ J.yld i H x H' ∧ tn (i + 1) s2.heap ∧ ∀ b ∈ fp, H' b = none) E s1) E s
  done : ∀ (X : Cx), X.prog = P → X.w = w → X.K = K → X.calm = true → ∀ (i : Nat) (pins : List (Addr × Obj)) (s : Shared) (σ : St) (H : Hp) (E : Value → Shared → Prop), Inv X pins σ H s → (∀ b ∈ fp, FpOk X pins H b) → tn i s.heap → J.stop i H →
    wpAny (model P w) X.A (pyNext (.ref it)) (fun r s1 => r = none ∧ Inv X pins σ H s1) E s
  self : ∀ (A : Around) (i : Nat) (s : Shared) (Q : Value → Shared → Prop) (E : Value → Shared → Prop), tn i s.heap → Q (.ref it) s → wpAny (model P w) A (pyIter (.ref it)) Q E s
abbrev TI := St → Hp → (It → Hp → Prop) → Prop
def PIE (X : Cx) (pins : List (Addr × Obj)) (σ : St) (tg : Expr) (R : It → Hp → Prop) (itv : Value) (s2 : Shared) : Prop :=
  ∃ (it : Addr) (fp : List Addr) (tn : Nat → Heap → Prop) (J : It) (H' : Hp), itv = .ref it ∧ Inv X pins σ H' s2 ∧ Turn X.prog X.w X.K tg J fp it tn ∧ tn 0 s2.heap ∧ (∀ b ∈ fp, FpOk X pins H' b) ∧ R J H'
def PI (X : Cx) (tg iter : Expr) (wi : TI) : Prop :=
  ∀ (pins : List (Addr × Obj)) (s : Shared) (σ : St) (H : Hp) (R : It → Hp → Prop), Inv X pins σ H s → wi σ H R →
    wpAny (model X.prog X.w) X.A (eval iter X.env) (fun v s1 => wpAny (model X.prog X.w) X.A (pyIter v) (PIE X pins σ tg R) X.xe s1) X.xe s
theorem go_of {M : Model} {A : Around} {E : Value → Shared → Prop} {s : Shared} {tg : Expr} {it : Addr} {u : Value} {o : Obj} {n : String} {vs : Array Value} {Q : Unit → Shared → Prop} (ho : s.heap.get? it = some o) (hc : o.cls = .type n) (hd : o.data = .fields vs)
    (hn : ["enumerate", "zip", "dict_itemiterator", "dict_reverseitemiterator", "odict_iterator", "itertools.zip_longest", "itertools.pairwise"].contains n = false) (hQ : Q () s) : wpAny M A (letOwnedTupleGo tg (.ref it) u) Q E s := by
  unfold letOwnedTupleGo
  cases tg <;> first
    | exact wpAny_pure hQ
    | (cases u <;> first
        | exact wpAny_pure hQ
        | (refine wpAny_bind (wpAny_load ho ?_)
           rw [hc, hd]
           show wpAny M A (if (["enumerate", "zip", "dict_itemiterator", "dict_reverseitemiterator", "odict_iterator", "itertools.zip_longest", "itertools.pairwise"].contains n && vs[0]? == some (rawInt _)) = true then _ else _) Q E s
           rw [if_neg (by intro h; rw [hn, Bool.false_and] at h; cases h)]
           exact wpAny_pure hQ))
def Itl (K : PySem.W.Frag) (a : Addr) : It :=
  ⟨fun i H => ∃ xs x, SqL K H a xs ∧ xs[i]? = some x, fun i H x H' => H' = H ∧ ∀ xs, SqL K H a xs → xs[i]? = some x, fun i H => ∃ xs, SqL K H a xs ∧ xs.length ≤ i⟩
def Itr (lo : Int) (n : Nat) : It := ⟨fun i _ => i < n, fun i H x H' => H' = H ∧ x = .int (lo + i), fun i _ => n ≤ i⟩
theorem turn_list {P : Program} {w : World} {K : PySem.W.Frag} {tg : Expr} (a it : Addr) : Turn P w K tg (Itl K a) [it] it (fun i h => h.IsListIter it a i) where
  mem := by simp
  obj := fun i h st b hb => by
    have e : b = it := by simpa using hb
    subst e
    obtain ⟨o, e, c, d⟩ := st
    exact ⟨o, e, fun v z => by rw [d] at z; cases z⟩
  keep := fun i h h' st k => st.at fun o e => k it (by simp) o e
  item := by
    intro X hP hw hK hc i pins s σ H E I hf st hg
    subst hP hw hK
    obtain ⟨xs, x, hq, hx⟩ := hg
    obtain ⟨its, rv, p, hz⟩ := I.list hq
    obtain ⟨u, hu, ru⟩ := rv.get hx
    obtain ⟨f0, f1, f2, f3, f4, f5⟩ := hf it (by simp)
    refine wpAny_pyNext_list_item st p.isList (x := u) (by simpa using hu) fun h' st' sb => ?_
    have I1 : Inv X pins σ H { s with heap := h' } := I.turned (t' := s.toks) (fun b o hb e => (sb.2 b hb).trans e) f0 f1 f3 f4 f5
    obtain ⟨o, e, c, d⟩ := id st'
    exact ⟨u, rfl, go_of (s := { s with heap := h' }) e c d (by decide) ⟨x, H, I1, ru, ⟨rfl, fun ys hy => by rw [I.list_inj hy hq]; exact hx⟩, st', fun b hb => (hf b hb).1⟩⟩
  done := by
    intro X hP hw hK hc i pins s σ H E I hf st hg
    subst hP hw hK
    obtain ⟨xs, hq, hx⟩ := hg
    obtain ⟨its, rv, p, hz⟩ := I.list hq
    obtain ⟨f0, f1, f2, f3, f4, f5⟩ := hf it (by simp)
    have hl := rv.length
    exact wpAny_pyNext_list_end (I.ok.hd hc) st p.isList (by simp; omega) fun h' eb => ⟨rfl, I.turned (t' := s.toks) (fun b o hb e => eb b o hb e) f0 f1 f3 f4 f5⟩
  self := fun _ _ _ _ _ st h => wpAny_pyIter_listiter st h
theorem turn_range {P : Program} {w : World} {K : PySem.W.Frag} {tg : Expr} (it : Addr) (lo : Int) (n : Nat) : Turn P w K tg (Itr lo n) [it] it (fun i h => IsRangeIter h it (lo + (i : Nat) * 1) ((n : Int) - (i : Nat)) 1) where
  mem := by simp
  obj := fun i h st b hb => by
    have e : b = it := by simpa using hb
    subst e
    exact ⟨_, st, fun v z => by
      have z' : Data.fields _ = Data.cell v := z
      cases z'⟩
  keep := fun i h h' st k => k it (by simp) _ st
  item := by
    intro X hP hw hK hc i pins s σ H E I hf st hg
    subst hP hw hK
    obtain ⟨f0, f1, f2, f3, f4, f5⟩ := hf it (by simp)
    have W := Walks.range (prog := X.prog) (w := X.w) (I.ok.hd hc) it lo 1 n
    refine W.item i s _ _ hg st fun v h' tk hv st' kk => ?_
    obtain ⟨t, rfl⟩ := hv
    have I1 : Inv X pins σ H { s with heap := h', toks := tk } := I.turned (fun b o hb e => kk b o (by simpa using hb) e) f0 f1 f3 f4 f5
    refine ⟨_, rfl, go_of (s := { s with heap := h', toks := tk }) (n := "range_iterator") st' rfl rfl (by decide) ⟨.int (lo + i), H, I1, ⟨t, ?_⟩, ⟨rfl, rfl⟩, st', fun b hb => (hf b hb).1⟩⟩
    rw [Int.mul_one]
  done := by
    intro X hP hw hK hc i pins s σ H E I hf st hg
    subst hP hw hK
    obtain ⟨f0, f1, f2, f3, f4, f5⟩ := hf it (by simp)
    exact wpAny_pyNext_range_end (I.ok.hd hc) st (by have : n ≤ i := hg; omega) fun h' eb => ⟨rfl, I.turned (t' := s.toks) (fun b o hb e => eb b o hb e) f0 f1 f3 f4 f5⟩
  self := fun _ _ _ _ _ st h => wpAny_pyIter_rangeiter st h
end L2
namespace L2
open PySem PySem.Spec PyProof.Rows
section
variable {X : Cx} {tg : Expr}
def iList (K : PySem.W.Frag) (tl : TE) : TI := fun σ H R => tl σ H fun x H1 => ∃ a, x = .ref a ∧ (∃ xs, SqL K H1 a xs) ∧ R (Itl K a) H1
theorem pi_list {l : Expr} {tl : TE} (hl : PE X l tl) : PI X tg l (iList X.K tl) := by
  intro pins s σ H R I h
  refine thn (hl pins s σ H _ I h) fun v s1 ⟨x, H1, I1, r1, q1⟩ => ?_
  obtain ⟨a, e, ⟨xs, hq⟩, q⟩ := q1
  subst e
  cases r1
  obtain ⟨its, rv, p, hz⟩ := I1.list hq
  refine wpAny_pyIter_list p.isList ?_
  refine ⟨s1.heap.objs.size, [s1.heap.objs.size], _, _, H1, rfl, I1.kept (t' := s1.toks) fun b o e => Heap.get?_push_of_some _ e, turn_list a _, ⟨_, Heap.get?_push_size _ rfl, rfl, rfl⟩, fun b hb => ?_, q⟩
  have e : b = s1.heap.objs.size := by simpa using hb
  subst e
  exact I1.fpOk (Nat.le_refl _) (I1.hok.fresh (Nat.le_refl _))
theorem range_it {pins : List (Addr × Obj)} {σ : St} {H : Hp} {s : Shared} {R : It → Hp → Prop} {E : Value → Shared → Prop} {lo hi : Int} {t u v : Tok} {tk : Nat} (I : Inv X pins σ H s) (h1 : -(2 ^ 62) ≤ lo) (h2 : lo < 2 ^ 62) (h3 : -(2 ^ 62) ≤ hi) (h4 : hi < 2 ^ 62)
    (q : R (Itr lo (hi - lo).toNat) H) : wpAny (model X.prog X.w) X.A (pyIter (.ref s.heap.objs.size)) (PIE X pins σ tg R) E { s with heap := s.heap.push { cls := .type "range", data := .fields #[.int lo t, .int hi u, .int 1 v] }, toks := tk } := by
  refine wpAny_pyIter_range (IsRange.new ..) (small_one h1 h2 h3 h4) ?_
  have I1 : Inv X pins σ H { s with heap := s.heap.push { cls := .type "range", data := .fields #[.int lo t, .int hi u, .int 1 v] }, toks := tk } := I.kept fun b o e => Heap.get?_push_of_some _ e
  refine ⟨(s.heap.push { cls := .type "range", data := .fields #[.int lo t, .int hi u, .int 1 v] }).objs.size, [(s.heap.push { cls := .type "range", data := .fields #[.int lo t, .int hi u, .int 1 v] }).objs.size], _, _, H, rfl,
    I1.kept (t' := tk) fun b o e => Heap.get?_push_of_some _ e, turn_range _ lo (hi - lo).toNat, ?_, fun b hb => ?_, q⟩
  · have e1 : lo + ((0 : Nat) : Int) * 1 = lo := by simp
    have e2 : (((hi - lo).toNat : Nat) : Int) - ((0 : Nat) : Int) = Builtin.Range.rangeSize lo hi 1 := by rw [rangeSize_one]; split <;> omega
    show IsRangeIter _ _ (lo + ((0 : Nat) : Int) * 1) ((((hi - lo).toNat : Nat) : Int) - ((0 : Nat) : Int)) 1
    rw [e1, e2]
    exact Heap.get?_push_size _ rfl
  · have e : b = (s.heap.push { cls := .type "range", data := .fields #[.int lo t, .int hi u, .int 1 v] }).objs.size := by simpa using hb
    subst e
    exact I1.fpOk (Nat.le_refl _) (I1.hok.fresh (Nat.le_refl _))
def iRng1 (ta : TA) : TI := fun σ H R => ta σ H fun vs H1 => ∃ j : Int, vs = [.int j] ∧ -(2 ^ 62) ≤ j ∧ j < 2 ^ 62 ∧ R (Itr 0 j.toNat) H1
theorem pi_range1 {a : Expr} {ta : TA} {p pos : Pos} (hg : Gl X "range") (hm : X.mg "range" = none) (ha : PA X [a] ta) (hs : starEach [a] X.env = [(false, eval a X.env)] := by rfl) : PI X tg (.Call (.Name "range" p) [a] [] pos) (iRng1 ta) := by
  intro pins s σ H R I h
  refine Call_ (ld_blt I hg hm boot_range (PyProof.Rows.callWith_type1 (thn (ha pos pins s σ H _ I h) fun us s1 ⟨vs, H1, I1, r1, q1⟩ => ?_) hs rfl))
  obtain ⟨j, e, q1, q2, q⟩ := q1
  subst e
  cases r1 with
  | cons r rr =>
    cases rr
    obtain ⟨t, rfl⟩ := r
    exact call_range_1 (range_it I1 (by omega) (by omega) q1 q2 (by simpa using q))
def tFor (wi : TI) (g : TG) (tb : TS) : TS := fun D σ H => wi σ H fun J H1 => ∃ W : Nat → Nat → St → Hp → Prop, (∃ m, W 0 m σ H1) ∧ ∀ i m σ H, W i m σ H →
  (J.stop i H ∧ D.nx σ H) ∨ (J.go i H ∧ ∃ N : St → Hp → Prop, (∀ σ' H', N σ' H' → ∃ m', m' < m ∧ W (i + 1) m' σ' H') ∧ ∀ x H', J.yld i H x H' → g x σ H' fun σ2 H2 => tb { D with nx := N, ct := N, bk := D.nx } σ2 H2)
def pinsAt (fp : List Addr) (h : Heap) : List (Addr × Obj) := fp.filterMap fun b => (h.get? b).map fun o => (b, o)
theorem mem_pinsAt {fp : List Addr} {h : Heap} {b : Addr} {o : Obj} (hb : b ∈ fp) (e : h.get? b = some o) : (b, o) ∈ pinsAt fp h := List.mem_filterMap.mpr ⟨b, hb, by rw [e]; rfl⟩
theorem of_pinsAt {fp : List Addr} {h : Heap} {p : Addr × Obj} (hp : p ∈ pinsAt fp h) : p.1 ∈ fp ∧ h.get? p.1 = some p.2 := by
  obtain ⟨b, hb, e⟩ := List.mem_filterMap.mp hp
  cases q : h.get? b with
  | none => rw [q] at e; cases e
  | some o =>
    rw [q] at e
    have e' : (b, o) = p := Option.some.inj e
    subst e'
    exact ⟨hb, q⟩
theorem Inv.pinned {pins : List (Addr × Obj)} {σ : St} {H : Hp} {s : Shared} {fp : List Addr} (I : Inv X pins σ H s) (hf : ∀ b ∈ fp, FpOk X pins H b) (ho : ∀ b ∈ fp, ∃ o, s.heap.get? b = some o ∧ ∀ v, o.data ≠ .cell v) : Inv X (pins ++ pinsAt fp s.heap) σ H s :=
  I.pins_of fun p hp => (List.mem_append.mp hp).elim (fun z => I.pin p (List.mem_append_right _ z)) fun z => by
    obtain ⟨hb, e⟩ := of_pinsAt z
    obtain ⟨f0, f1, f2, _⟩ := hf p.1 hb
    obtain ⟨o, e', d⟩ := ho p.1 hb
    rw [e] at e'; cases e'
    exact ⟨e, f0, f1, f2, d⟩
theorem Inv.unpinned {pins pl : List (Addr × Obj)} {σ : St} {H : Hp} {s : Shared} (I : Inv X (pins ++ pl) σ H s) : Inv X pins σ H s := I.pins_of fun p hp => I.pin p (List.mem_append_right _ (List.mem_append_left _ hp))
theorem ps_for {iter : Expr} {body : List Stmt} {wi : TI} {g : TG} {tb : TS} {pos : Pos} (hp : PassesOwn (model X.prog X.w) X.A X.env X.xe) (hc : X.calm = true) (hi : PI X tg iter wi) (hg : PG X tg g) (hb : PSs X body tb)
    (hs : ∀ x, foldedSetIterable iter X.env x = pure x := by intro _; rfl) : PS X (.For tg iter body [] pos) (tFor wi g tb) := by
  intro pins s σ H D I h
  refine wpAny_For (thn (hi pins s σ H _ I h) fun v s1 h1 => thn h1 fun itv s2 h2 => ?_) hs
  obtain ⟨it, fp, tn, J, H2, e, I2, T, st2, f2, W, ⟨m0, w0⟩, turn⟩ := h2
  subst e
  -- what stays true of the iterator's objects through the loop
  have stat : ∀ {H' : Hp}, (∀ b ∈ fp, H' b = none) → ∀ b ∈ fp, FpOk X pins H' b := fun hn b hb => ⟨hn b hb, (f2 b hb).2⟩
  refine codeAny_forLoop_any (fun n s' => ∃ i σ' H', Inv X pins σ' H' s' ∧ tn i s'.heap ∧ (∀ b ∈ fp, H' b = none) ∧ W i n σ' H') ?_ m0 ⟨0, σ, H2, I2, st2, fun b hb => (f2 b hb).1, w0⟩
  rintro n s3 ⟨i, σ3, H3, I3, st3, fr3, w3⟩
  rcases turn i n σ3 H3 w3 with ⟨stop, qn⟩ | ⟨go, N, hN, step⟩
  · refine wpAny_passesOwn hp (thn (T.done X rfl rfl rfl hc i pins s3 σ3 H3 X.xe I3 (stat fr3) st3 stop) fun r s4 ⟨hr, I4⟩ => ?_)
    subst hr
    exact wpAny_execs_nil ⟨σ3, H3, I4, qn⟩
  · refine wpAny_passesOwn hp (thn (T.item X rfl rfl rfl hc i pins s3 σ3 H3 X.xe I3 (stat fr3) st3 go) fun r s4 ⟨u, hr, h4⟩ => ?_)
    subst hr
    refine wpAny_passesOwn hp (thn h4 fun _ s5 ⟨x, H5, I5, r5, y5, st5, fr5⟩ => ?_)
    have I5' := I5.pinned (stat fr5) (T.obj _ _ st5)
    refine wpAny_passesOwn hp (thn (hg _ s5 σ3 H5 x u _ I5' r5 (step x H5 y5)) fun _ s6 ⟨σ6, H6, I6, q6⟩ => ?_)
    refine wpAny_passesOwn hp (thn (hb _ s6 σ6 H6 _ I6 q6) fun f s7 q7 => ?_)
    have again : ∀ {σ7 : St} {H7 : Hp}, Inv X (pins ++ pinsAt fp s5.heap) σ7 H7 s7 → N σ7 H7 → ∃ m, m < n ∧ ∃ i σ' H', Inv X pins σ' H' s7 ∧ tn i s7.heap ∧ (∀ b ∈ fp, H' b = none) ∧ W i m σ' H' := fun {σ7 H7} I7 n7 => by
      obtain ⟨m', hm, w7⟩ := hN σ7 H7 n7
      refine ⟨m', hm, i + 1, σ7, H7, I7.unpinned, T.keep _ _ _ st5 fun b hb o e => (I7.pin (b, o) (List.mem_append_right _ (List.mem_append_right _ (mem_pinsAt hb e)))).1, fun b hb => ?_, w7⟩
      obtain ⟨o, e, d⟩ := T.obj _ _ st5 b hb
      exact (I7.pin (b, o) (List.mem_append_right _ (List.mem_append_right _ (mem_pinsAt hb e)))).2.1
    cases f with
    | next => obtain ⟨σ7, H7, I7, n7⟩ := q7; exact again I7 n7
    | cont => obtain ⟨σ7, H7, I7, n7⟩ := q7; exact again I7 n7
    | brk => obtain ⟨σ7, H7, I7, q7⟩ := q7; exact ⟨σ7, H7, I7.unpinned, q7⟩
    | ret v => obtain ⟨x7, σ7, H7, I7, r7, q7⟩ := q7; exact ⟨x7, σ7, H7, I7.unpinned, r7, q7⟩
end
theorem for_list {K : PySem.W.Frag} {a : Addr} {xs : List V} {g : TG} {tb : TS} {D : Ends} {σ : St} {H : Hp} (Pv : Nat → St → Hp → Prop) (h0 : Pv 0 σ H) (hl : ∀ i σ H, i ≤ xs.length → Pv i σ H → SqL K H a xs)
    (hs : ∀ i x σ H, xs[i]? = some x → Pv i σ H → g x σ H fun σ2 H2 => tb { D with nx := Pv (i + 1), ct := Pv (i + 1), bk := D.nx } σ2 H2) (hd : ∀ σ H, Pv xs.length σ H → D.nx σ H) :
    ∃ W : Nat → Nat → St → Hp → Prop, (∃ m, W 0 m σ H) ∧ ∀ i m σ H, W i m σ H →
      ((Itl K a).stop i H ∧ D.nx σ H) ∨ ((Itl K a).go i H ∧ ∃ N : St → Hp → Prop, (∀ σ' H', N σ' H' → ∃ m', m' < m ∧ W (i + 1) m' σ' H') ∧ ∀ x H', (Itl K a).yld i H x H' → g x σ H' fun σ2 H2 => tb { D with nx := N, ct := N, bk := D.nx } σ2 H2) := by
  refine ⟨fun i m σ H => m = xs.length - i ∧ i ≤ xs.length ∧ Pv i σ H, ⟨xs.length, by simp, Nat.zero_le _, h0⟩, ?_⟩
  rintro i m σ H ⟨rfl, hi, p⟩
  have q := hl i σ H hi p
  by_cases hlt : i < xs.length
  · refine .inr ⟨⟨xs, xs[i], q, by simp [hlt]⟩, Pv (i + 1), fun σ' H' p' => ⟨xs.length - (i + 1), by omega, rfl, hlt, p'⟩, fun x H' y => ?_⟩
    obtain ⟨e, y⟩ := y
    subst e
    exact hs i x σ _ (y xs q) p
  · have e : i = xs.length := by omega
    subst e
    exact .inl ⟨⟨xs, q, Nat.le_refl _⟩, hd σ H p⟩
theorem for_range {lo : Int} {n : Nat} {g : TG} {tb : TS} {D : Ends} {σ : St} {H : Hp} (Pv : Nat → St → Hp → Prop) (h0 : Pv 0 σ H)
    (hs : ∀ i σ H, i < n → Pv i σ H → g (.int (lo + i)) σ H fun σ2 H2 => tb { D with nx := Pv (i + 1), ct := Pv (i + 1), bk := D.nx } σ2 H2) (hd : ∀ σ H, Pv n σ H → D.nx σ H) :
    ∃ W : Nat → Nat → St → Hp → Prop, (∃ m, W 0 m σ H) ∧ ∀ i m σ H, W i m σ H →
      ((Itr lo n).stop i H ∧ D.nx σ H) ∨ ((Itr lo n).go i H ∧ ∃ N : St → Hp → Prop, (∀ σ' H', N σ' H' → ∃ m', m' < m ∧ W (i + 1) m' σ' H') ∧ ∀ x H', (Itr lo n).yld i H x H' → g x σ H' fun σ2 H2 => tb { D with nx := N, ct := N, bk := D.nx } σ2 H2) := by
  refine ⟨fun i m σ H => m = n - i ∧ i ≤ n ∧ Pv i σ H, ⟨n, by simp, Nat.zero_le _, h0⟩, ?_⟩
  rintro i m σ H ⟨rfl, hi, p⟩
  by_cases hlt : i < n
  · refine .inr ⟨hlt, Pv (i + 1), fun σ' H' p' => ⟨n - (i + 1), by omega, rfl, hlt, p'⟩, fun x H' y => ?_⟩
    obtain ⟨e, y⟩ := y
    subst e y
    exact hs i σ _ hlt p
  · have e : i = n := by omega
    subst e
    exact .inl ⟨Nat.le_refl _, hd σ H p⟩
end L2
namespace L2
open PySem PySem.Spec PyProof.Rows
abbrev R2 := V → V → Hp → VK → Prop
def OpR (X : Cx) (f : Value → Value → Sem Value) (r : R2) : Prop :=
  ∀ (pins : List (Addr × Obj)) (s : Shared) (σ : St) (H : Hp) (x y : V) (v u : Value) (Q : VK), Inv X pins σ H s → RelV x v → RelV y u → r x y H Q →
    wpAny (model X.prog X.w) X.A (f v u) (EP X pins σ Q) X.xe s
def UnR (X : Cx) (f : Value → Sem Value) (r : V → Hp → VK → Prop) : Prop :=
  ∀ (pins : List (Addr × Obj)) (s : Shared) (σ : St) (H : Hp) (x : V) (v : Value) (Q : VK), Inv X pins σ H s → RelV x v → r x H Q →
    wpAny (model X.prog X.w) X.A (f v) (EP X pins σ Q) X.xe s
def CallR (X : Cx) (f : Value) (r : List V → Hp → VK → Prop) : Prop :=
  ∀ (pins : List (Addr × Obj)) (s : Shared) (σ : St) (H : Hp) (xs : List V) (us : List Value) (Q : VK), Inv X pins σ H s → Vals xs us → r xs H Q →
    wpAny (model X.prog X.w) X.A (call f us) (EP X pins σ Q) X.xe s
def TruR (X : Cx) (r : V → Hp → (Bool → Hp → Prop) → Prop) : Prop :=
  ∀ (pins : List (Addr × Obj)) (s : Shared) (σ : St) (H : Hp) (x : V) (v : Value) (Q : Bool → Hp → Prop), Inv X pins σ H s → RelV x v → r x H Q →
    wpAny (model X.prog X.w) X.A (truthy v) (TP X pins σ Q) X.xe s
def tOp (r : R2) (ta tb : TE) : TE := fun σ H Q => ta σ H fun x H1 => tb σ H1 fun y H2 => r x y H2 Q
def tUn (r : V → Hp → VK → Prop) (ta : TE) : TE := fun σ H Q => ta σ H fun x H1 => r x H1 Q
def rI (C : Int → Int → Prop) (g : Int → Int → V) : R2 := fun x y H Q => ∃ i j, x = .int i ∧ y = .int j ∧ C i j ∧ Q (g i j) H
def rI0 (g : Int → Int → V) : R2 := fun x y H Q => ∃ i j, x = .int i ∧ y = .int j ∧ Q (g i j) H
def rU (g : Int → V) : V → Hp → VK → Prop := fun x H Q => ∃ i, x = .int i ∧ Q (g i) H
section
variable {X : Cx} {a b c : Expr} {ta tb tc : TE} {pos : Pos}
theorem binT (ha : PE X a ta) (hb : PE X b tb) {pins : List (Addr × Obj)} {s : Shared} {σ : St} {H : Hp} {R : V → V → Hp → Prop} (I : Inv X pins σ H s)
    (h : ta σ H fun x H1 => tb σ H1 fun y H2 => R x y H2) {Q : Value → Shared → Prop} {f : Value → Value → Sem Value}
    (hf : ∀ v u s2 x y H2, Inv X pins σ H2 s2 → RelV x v → RelV y u → R x y H2 → wpAny (model X.prog X.w) X.A (f v u) Q X.xe s2) :
    wpAny (model X.prog X.w) X.A (eval a X.env) (fun v s₁ => wpAny (model X.prog X.w) X.A (eval b X.env) (fun u s₂ => wpAny (model X.prog X.w) X.A (f v u) Q X.xe s₂) X.xe s₁) X.xe s := by
  refine thn (ha pins s σ H _ I h) fun v s1 ⟨x, H1, I1, r1, q1⟩ => ?_
  refine thn (hb pins s1 σ H1 _ I1 q1) fun u s2 ⟨y, H2, I2, r2, q2⟩ => ?_
  exact hf v u s2 x y H2 I2 r1 r2 q2
theorem pe_op {op : Operator} {r : R2} (ho : OpR X (binaryOp op) r) (ha : PE X a ta) (hb : PE X b tb) : PE X (.BinOp a op b pos) (tOp r ta tb) := by
  intro pins s σ H Q I h
  exact wpAny_BinOp (binT ha hb I h fun v u s2 x y H2 I2 rx ry q => ho pins s2 σ H2 x y v u Q I2 rx ry q)
theorem pe_un {op : UnaryOp} {r : V → Hp → VK → Prop} (ho : UnR X (unaryOp op) r) (ha : PE X a ta) : PE X (.UnaryOp op a pos) (tUn r ta) := by
  intro pins s σ H Q I h
  exact UnaryOp_ (thn (ha pins s σ H _ I h) fun v s1 ⟨x, H1, I1, r1, q1⟩ => ho pins s1 σ H1 x v Q I1 r1 q1)
theorem opI {f : Value → Value → Sem Value} {C : Int → Int → Prop} {g : Int → Int → Int}
    (rule : ∀ (i j : Int) (t u : Tok) (s : Shared) (Q : Value → Shared → Prop) (E : Value → Shared → Prop), C i j → Q (.int (g i j) s.toks) { s with toks := s.toks + 1 } → wpAny (model X.prog X.w) X.A (f (.int i t) (.int j u)) Q E s) :
    OpR X f (rI C fun i j => .int (g i j)) := by
  intro pins s σ H x y v u Q I rx ry h
  obtain ⟨i, j, rfl, rfl, hc, q⟩ := h
  obtain ⟨t, rfl⟩ := rx
  obtain ⟨t', rfl⟩ := ry
  exact rule i j t t' s _ _ hc ⟨.int (g i j), H, I.tok _, ⟨_, rfl⟩, q⟩
theorem opI0 {f : Value → Value → Sem Value} {g : Int → Int → Int}
    (rule : ∀ (i j : Int) (t u : Tok) (s : Shared) (Q : Value → Shared → Prop) (E : Value → Shared → Prop), Q (.int (g i j) s.toks) { s with toks := s.toks + 1 } → wpAny (model X.prog X.w) X.A (f (.int i t) (.int j u)) Q E s) :
    OpR X f (rI0 fun i j => .int (g i j)) := by
  intro pins s σ H x y v u Q I rx ry h
  obtain ⟨i, j, rfl, rfl, q⟩ := h
  obtain ⟨t, rfl⟩ := rx
  obtain ⟨t', rfl⟩ := ry
  exact rule i j t t' s _ _ ⟨.int (g i j), H, I.tok _, ⟨_, rfl⟩, q⟩
theorem opB0 {f : Value → Value → Sem Value} {g : Int → Int → Bool}
    (rule : ∀ (i j : Int) (t u : Tok) (s : Shared) (Q : Value → Shared → Prop) (E : Value → Shared → Prop), Q (.bool (g i j)) s → wpAny (model X.prog X.w) X.A (f (.int i t) (.int j u)) Q E s) :
    OpR X f (rI0 fun i j => .bl (g i j)) := by
  intro pins s σ H x y v u Q I rx ry h
  obtain ⟨i, j, rfl, rfl, q⟩ := h
  obtain ⟨t, rfl⟩ := rx
  obtain ⟨t', rfl⟩ := ry
  exact rule i j t t' s _ _ ⟨.bl (g i j), H, I, rfl, q⟩
def CDiv (i j : Int) : Prop := 0 < j ∧ j < 1073741824
def CPow (i j : Int) : Prop := 0 ≤ j ∧ j ≤ 1000000 ∧ i.natAbs < 2 ^ 64
def CMul (i j : Int) : Prop := (-(2 ^ 64) < i ∧ i < 2 ^ 64) ∨ (-(2 ^ 64) < j ∧ j < 2 ^ 64)
theorem CMul.ok {i j : Int} (h : CMul i j) : IntMulOk i j := by
  rcases h with ⟨h1, h2⟩ | ⟨h1, h2⟩
  · exact .of_left (intBits_le_64 h1 h2)
  · exact .of_right (intBits_le_64 h1 h2)
theorem op_add : OpR X (binaryOp .Add) (rI0 fun i j => .int (i + j)) := opI0 fun _ _ _ _ _ _ _ q => add_int q
theorem op_sub : OpR X (binaryOp .Sub) (rI0 fun i j => .int (i - j)) := opI0 fun _ _ _ _ _ _ _ q => sub_int q
theorem op_fdiv : OpR X (binaryOp .FloorDiv) (rI CDiv fun i j => .int (i / j)) := opI fun i j _ _ _ _ _ hc q => by
  have h1 : (0 : Int) < j := hc.1
  have h2 : j < 1073741824 := hc.2
  exact floordiv_int (by omega) (by rw [Int.fdiv_eq_ediv_of_nonneg i (by omega)]; exact q) (.inl (PyProof.noPylong_small (by omega)))
theorem op_mod : OpR X (binaryOp .Mod) (rI (fun _ j => 0 < j) fun i j => .int (i % j)) := opI fun i j _ _ _ _ _ hc q => by
  have h1 : (0 : Int) < j := hc
  exact mod_int' (by omega) (by rw [Int.fmod_eq_emod_of_nonneg i (by omega)]; exact q)
theorem op_pow : OpR X (binaryOp .Pow) (rI CPow fun i j => .int (i ^ j.toNat)) := opI fun _ _ _ _ _ _ _ hc q => pow_int_small hc.1 hc.2.1 hc.2.2 q
theorem unI {f : Value → Sem Value} {g : Int → Int}
    (rule : ∀ (i : Int) (t : Tok) (s : Shared) (Q : Value → Shared → Prop) (E : Value → Shared → Prop), Q (.int (g i) s.toks) { s with toks := s.toks + 1 } → wpAny (model X.prog X.w) X.A (f (.int i t)) Q E s) :
    UnR X f (rU fun i => .int (g i)) := by
  intro pins s σ H x v Q I rx h
  obtain ⟨i, rfl, q⟩ := h
  obtain ⟨t, rfl⟩ := rx
  exact rule i t s _ _ ⟨.int (g i), H, I.tok _, ⟨_, rfl⟩, q⟩
theorem un_neg : UnR X (unaryOp .USub) (rU fun i => .int (-i)) := unI fun _ _ _ _ _ q => neg_int q
end
def scal : V → V → Bool
  | .non, .non => true | .non, .int _ => true | .int _, .non => true | .non, .bl _ => true | .bl _, .non => true | .non, .str _ => true | .str _, .non => true
  | .int _, .int _ => true | .bl _, .bl _ => true | .str _, .str _ => true | .byt _, .byt _ => true
  | .int _, .str _ => true | .str _, .int _ => true | .bl _, .str _ => true | .str _, .bl _ => true
  | _, _ => false
def rEq : R2 := fun x y H Q => scal x y = true ∧ Q (.bl (decide (x = y))) H
def rNe : R2 := fun x y H Q => scal x y = true ∧ Q (.bl (!decide (x = y))) H
theorem dec_int {i j : Int} : decide (V.int i = V.int j) = (i == j) := by
  rw [Bool.eq_iff_iff]
  simp
theorem dec_bl {i j : Bool} : decide (V.bl i = V.bl j) = (i == j) := by
  rw [Bool.eq_iff_iff]
  simp
theorem dec_str {i j : Str} : decide (V.str i = V.str j) = (i == j) := by
  rw [Bool.eq_iff_iff]
  simp
theorem dec_byt {i j : Array UInt8} : decide (V.byt i = V.byt j) = (i.toList == j.toList) := by
  rw [Bool.eq_iff_iff]
  cases i
  cases j
  simp
section
variable {X : Cx} {a b c : Expr} {ta tb tc : TE} {pos : Pos}
theorem fin_bl {pins : List (Addr × Obj)} {σ : St} {H : Hp} {s : Shared} {Q : VK} {k k' : Bool} (I : Inv X pins σ H s) (q : Q (.bl k) H) (e : k = k') : EP X pins σ Q (.bool k') s := by
  subst e
  exact ⟨.bl k, H, I, rfl, q⟩
theorem op_eq : OpR X (compareOp .Eq) rEq := by
  intro pins s σ H x y v u Q I rx ry h
  obtain ⟨hs, q⟩ := h
  cases x with
  | non =>
    cases rx
    cases y with
    | non => cases ry; exact PySem.EqNone.eq_none_none (fin_bl I q (by simp))
    | bl j => cases ry; exact PySem.EqNone.eq_none_bool (fin_bl I q (by simp))
    | int j => obtain ⟨t', rfl⟩ := ry; exact PySem.EqNone.eq_none_int (fin_bl I q (by simp))
    | str j => obtain ⟨t', rfl⟩ := ry; exact PySem.EqNone.eq_none_str (fin_bl I q (by simp))
    | _ => exact absurd (show false = true from hs) Bool.false_ne_true
  | bl i =>
    cases rx
    cases y with
    | non => cases ry; exact PySem.EqNone.eq_bool_none (fin_bl I q (by simp))
    | bl j => cases ry; exact eq_bool (fin_bl I q dec_bl)
    | str j => obtain ⟨t', rfl⟩ := ry; exact PySem.EqMixed.eq_bool_str (fin_bl I q (by simp))
    | _ => exact absurd (show false = true from hs) Bool.false_ne_true
  | int i =>
    obtain ⟨t, rfl⟩ := rx
    cases y with
    | non => cases ry; exact PySem.EqNone.eq_int_none (fin_bl I q (by simp))
    | int j => obtain ⟨t', rfl⟩ := ry; exact eq_int (fin_bl I q dec_int)
    | str j => obtain ⟨t', rfl⟩ := ry; exact PySem.EqMixed.eq_int_str (fin_bl I q (by simp))
    | _ => exact absurd (show false = true from hs) Bool.false_ne_true
  | str i =>
    obtain ⟨t, rfl⟩ := rx
    cases y with
    | non => cases ry; exact PySem.EqNone.eq_str_none (fin_bl I q (by simp))
    | bl j => cases ry; exact PySem.EqMixed.eq_str_bool (fin_bl I q (by simp))
    | int j => obtain ⟨t', rfl⟩ := ry; exact PySem.EqMixed.eq_str_int (fin_bl I q (by simp))
    | str j => obtain ⟨t', rfl⟩ := ry; exact eq_str (fin_bl I q dec_str)
    | _ => exact absurd (show false = true from hs) Bool.false_ne_true
  | byt i =>
    obtain ⟨t, rfl⟩ := rx
    cases y with
    | byt j => obtain ⟨t', rfl⟩ := ry; exact PySem.W.eq_bytes (fin_bl I q dec_byt)
    | _ => exact absurd (show false = true from hs) Bool.false_ne_true
  | _ => cases y <;> exact absurd (show false = true from hs) Bool.false_ne_true
theorem op_ne : OpR X (compareOp .NotEq) rNe := by
  intro pins s σ H x y v u Q I rx ry h
  obtain ⟨hs, q⟩ := h
  cases x with
  | non =>
    cases rx
    cases y with
    | non => cases ry; exact PySem.EqNone.ne_none_none (fin_bl I q (by simp))
    | bl j => cases ry; exact PySem.EqNone.ne_none_bool (fin_bl I q (by simp))
    | int j => obtain ⟨t', rfl⟩ := ry; exact PySem.EqNone.ne_none_int (fin_bl I q (by simp))
    | str j => obtain ⟨t', rfl⟩ := ry; exact PySem.EqNone.ne_none_str (fin_bl I q (by simp))
    | _ => exact absurd (show false = true from hs) Bool.false_ne_true
  | bl i =>
    cases rx
    cases y with
    | non => cases ry; exact PySem.EqNone.ne_bool_none (fin_bl I q (by simp))
    | bl j => cases ry; exact ne_bool (fin_bl I q (congrArg not dec_bl))
    | str j => obtain ⟨t', rfl⟩ := ry; exact PySem.EqMixed.ne_bool_str (fin_bl I q (by simp))
    | _ => exact absurd (show false = true from hs) Bool.false_ne_true
  | int i =>
    obtain ⟨t, rfl⟩ := rx
    cases y with
    | non => cases ry; exact PySem.EqNone.ne_int_none (fin_bl I q (by simp))
    | int j => obtain ⟨t', rfl⟩ := ry; exact ne_int (fin_bl I q (congrArg not dec_int))
    | str j => obtain ⟨t', rfl⟩ := ry; exact PySem.EqMixed.ne_int_str (fin_bl I q (by simp))
    | _ => exact absurd (show false = true from hs) Bool.false_ne_true
  | str i =>
    obtain ⟨t, rfl⟩ := rx
    cases y with
    | non => cases ry; exact PySem.EqNone.ne_str_none (fin_bl I q (by simp))
    | bl j => cases ry; exact PySem.EqMixed.ne_str_bool (fin_bl I q (by simp))
    | int j => obtain ⟨t', rfl⟩ := ry; exact PySem.EqMixed.ne_str_int (fin_bl I q (by simp))
    | str j => obtain ⟨t', rfl⟩ := ry; exact ne_str (fin_bl I q (congrArg not dec_str))
    | _ => exact absurd (show false = true from hs) Bool.false_ne_true
  | byt i =>
    obtain ⟨t, rfl⟩ := rx
    cases y with
    | byt j => obtain ⟨t', rfl⟩ := ry; exact PySem.W.ne_bytes (fin_bl I q (congrArg not dec_byt))
    | _ => exact absurd (show false = true from hs) Bool.false_ne_true
  | _ => cases y <;> exact absurd (show false = true from hs) Bool.false_ne_true
theorem op_lt : OpR X (compareOp .Lt) (rI0 fun i j => .bl (decide (i < j))) := opB0 fun _ _ _ _ _ _ _ q => lt_int q
theorem op_le : OpR X (compareOp .LtE) (rI0 fun i j => .bl (decide (i ≤ j))) := opB0 fun _ _ _ _ _ _ _ q => le_int q
theorem op_gt : OpR X (compareOp .Gt) (rI0 fun i j => .bl (decide (j < i))) := opB0 fun _ _ _ _ _ _ _ q => gt_int q
theorem OpR.or {f : Value → Value → Sem Value} {r r' : R2} (h : OpR X f r) (h' : OpR X f r') : OpR X f (fun x y H Q => r x y H Q ∨ r' x y H Q) := by
  intro pins s σ H x y v u Q I rx ry q
  rcases q with q | q
  · exact h pins s σ H x y v u Q I rx ry q
  · exact h' pins s σ H x y v u Q I rx ry q
theorem nomark (b : Expr) {op : CmpOp} (h : op ≠ .In := by decide) (h2 : op ≠ .NotIn := by decide) : behindInMarks op b = false := by
  have e1 : (op == CmpOp.In) = false := by cases op <;> first | rfl | exact absurd rfl h
  have e2 : (op == CmpOp.NotIn) = false := by cases op <;> first | rfl | exact absurd rfl h2
  cases b <;> simp [behindInMarks, e1, e2]
theorem pe_cmpR {op : CmpOp} {r : R2} (ho : OpR X (compareOp op) r) (ha : PE X a ta) (hb : PE X b tb) (hm : behindInMarks op b = false) : PE X (.Compare a [op] [b] pos) (tOp r ta tb) := by
  intro pins s σ H Q I h
  exact wpAny_Compare1 (binT ha hb I h fun v u s2 x y H2 I2 rx ry q => ho pins s2 σ H2 x y v u Q I2 rx ry q) hm
def tTest (t : TE) : TT := fun σ H Q => t σ H fun x H' => ∃ k, x = .bl k ∧ Q k H'
theorem pt_cmpR {op : CmpOp} {r : R2} (ho : OpR X (compareOp op) r) (ha : PE X a ta) (hb : PE X b tb) (hm : behindInMarks op b = false) : PT X (.Compare a [op] [b] pos) (tTest (tOp r ta tb)) := by
  intro pins s σ H Q I h
  refine wpAny_isTrue_Compare1 (thn (ha pins s σ H _ I h) fun v s1 ⟨x, H1, I1, r1, q1⟩ => thn (hb pins s1 σ H1 _ I1 q1) fun u s2 ⟨y, H2, I2, r2, q2⟩ =>
    thn (ho pins s2 σ H2 x y v u _ I2 r1 r2 q2) fun c s3 ⟨z, H3, I3, r3, k, e, q3⟩ => ?_) hm
  subst e
  cases r3
  exact wpAny_truthy_bool ⟨H3, I3, q3⟩
def tChain (r r' : R2) (ta tb tc : TE) : TE := fun σ H Q => ta σ H fun x H1 => tb σ H1 fun y H2 => r x y H2 fun z H3 => ∃ k, z = .bl k ∧
  (if k = true then tc σ H3 fun w' H4 => r' y w' H4 Q else Q (.bl false) H3)
theorem pe_chain {op op' : CmpOp} {r r' : R2} (ho : OpR X (compareOp op) r) (ho' : OpR X (compareOp op') r') (ha : PE X a ta) (hb : PE X b tb) (hc : PE X c tc)
    (hm : lastMarks [op, op'] [b, c] = false := by with_unfolding_all rfl) : PE X (.Compare a [op, op'] [b, c] pos) (tChain r r' ta tb tc) := by
  intro pins s σ H Q I h
  refine Compare_chain (thn (ha pins s σ H _ I h) fun v s1 ⟨x, H1, I1, r1, q1⟩ => chain_link (thn (hb pins s1 σ H1 _ I1 q1) fun u s2 ⟨y, H2, I2, r2, q2⟩ =>
    thn (ho pins s2 σ H2 x y v u _ I2 r1 r2 q2) fun d s3 ⟨z, H3, I3, r3, k, e, q3⟩ => ?_)) hm
  subst e
  cases r3
  refine wpAny_truthy_bool ?_
  cases k with
  | false => exact ite_ff ⟨.bl false, H3, I3, rfl, q3⟩
  | true => exact ite_tt (chain_last (thn (hc pins s3 σ H3 _ I3 q3) fun w' s4 ⟨z', H4, I4, r4, q4⟩ => ho' pins s4 σ H4 y z' u w' Q I4 r2 r4 q4))
def TruV (K : PySem.W.Frag) (x : V) (H : Hp) (k : Bool) : Prop :=
  match x with
  | .non => k = false
  | .bl b => k = b
  | .int i => k = (i != 0)
  | .str y => y.length ≤ sizeLine ∧ k = ((y.length : Int) != 0)
  | .byt y => y.size ≤ sizeLine ∧ k = ((y.size : Int) != 0)
  | .ref p => (∃ xs, SqL K H p xs ∧ k = !xs.isEmpty) ∨ (∃ xs, SqT K H p xs ∧ k = !xs.isEmpty) ∨ ∃ kvs, H p = some (.dK kvs) ∧ k = !kvs.isEmpty
  | _ => False
theorem isEmpty_kv {κ : Type} {kvs : List (κ × V)} {vs : List (κ × Value)} (r : KV kvs vs) : (!vs.isEmpty) = !kvs.isEmpty := by
  cases r <;> rfl
theorem isEmpty_of {xs : List V} {its : List Value} (r : Vals xs its) : (!its.toArray.isEmpty) = !xs.isEmpty := by
  cases r <;> simp
theorem line63 : (sizeLine : Nat) < 2 ^ 63 := by rw [sizeLine_eq]; decide
theorem tru_ok : TruR X (fun x H Q => ∃ k, TruV X.K x H k ∧ Q k H) := by
  intro pins s σ H x v Q I rx h
  obtain ⟨k, e, q⟩ := h
  have hl := line63
  have hs : sizeLine = 16777216 := sizeLine_eq
  cases x with
  | non =>
    cases rx
    have e' : k = false := e
    subst e'
    exact truthy_none ⟨H, I, q⟩
  | bl b =>
    cases rx
    have e' : k = b := e
    subst e'
    exact wpAny_truthy_bool ⟨H, I, q⟩
  | int i =>
    obtain ⟨t, rfl⟩ := rx
    have e' : k = (i != 0) := e
    subst e'
    exact PySem.P.truthy_int ⟨H, I, q⟩
  | str y =>
    obtain ⟨t, rfl⟩ := rx
    obtain ⟨hy, e'⟩ : y.length ≤ sizeLine ∧ k = ((y.length : Int) != 0) := e
    subst e'
    exact PySem.P.truthy_str (by omega) ⟨H, I.tok _, q⟩
  | byt y =>
    obtain ⟨t, rfl⟩ := rx
    obtain ⟨hy, e'⟩ : y.size ≤ sizeLine ∧ k = ((y.size : Int) != 0) := e
    subst e'
    exact PySem.W.truthy_bytes (by omega) ⟨H, I.tok _, q⟩
  | ref p =>
    cases rx
    have e' : (∃ xs, SqL X.K H p xs ∧ k = !xs.isEmpty) ∨ (∃ xs, SqT X.K H p xs ∧ k = !xs.isEmpty) ∨ ∃ kvs, H p = some (.dK kvs) ∧ k = !kvs.isEmpty := e
    rcases e' with ⟨xs, hx, e'⟩ | ⟨xs, hx, e'⟩ | ⟨kvs, hx, e'⟩
    · subst e'
      obtain ⟨its, r, pl, hz⟩ := I.list hx
      have hlen := r.length
      exact wpAny_truthy_list pl.isList (by simp only [List.size_toArray]; omega) ⟨H, I.tok _, by rw [isEmpty_of r]; exact q⟩
    · subst e'
      obtain ⟨its, r, pl, hz⟩ := I.tuple hx
      have hlen := r.length
      exact truthy_tuple pl (by simp only [List.size_toArray]; omega) ⟨H, I.tok _, by rw [isEmpty_of r]; exact q⟩
    · subst e'
      obtain ⟨hz, hS, vs, r, m⟩ : kvs.length ≤ sizeLine ∧ (p == sysModules) = false ∧ ∃ vs, KV kvs vs ∧ s.heap.DictOf (mixKind X.prog X.w) p vs := I.hok p _ hx
      have hlen : kvs.length = vs.length := Paired.length r
      exact wpAny_truthy_dict hS m (by omega) ⟨H, I.tok _, by rw [isEmpty_kv r]; exact q⟩
  | _ => exact (show False from e).elim
theorem pt_truth (ha : PE X a ta) (he : ∀ whole, isTrue a X.env whole = (do let v ← whole; standAt a.pos; holding [v] (truthy v))) :
    PT X a (fun σ H Q => ta σ H fun x H' => ∃ k, TruV X.K x H' k ∧ Q k H') := by
  intro pins s σ H Q I h
  exact isTrue_plain (thn (ha pins s σ H _ I h) fun v s1 ⟨x, H1, I1, r1, q1⟩ => tru_ok pins s1 σ H1 x v Q I1 r1 q1) (he _)
theorem vals1 {x : V} {us : List Value} (r : Vals [x] us) : ∃ u, us = [u] ∧ RelV x u := by
  cases r with
  | cons r1 r2 => cases r2; exact ⟨_, rfl, r1⟩
theorem vals2 {x y : V} {us : List Value} (r : Vals [x, y] us) : ∃ u w', us = [u, w'] ∧ RelV x u ∧ RelV y w' := by
  cases r with
  | cons r1 r2 =>
    cases r2 with
    | cons r3 r4 => cases r4; exact ⟨_, _, rfl, r1, r3⟩
theorem call_max2 (hc : X.calm = true) : CallR X (.builtin "max") (fun xs H Q => ∃ i j, xs = [.int i, .int j] ∧ Q (.int (if j > i then j else i)) H) := by
  intro pins s σ H xs us Q I r h
  obtain ⟨i, j, rfl, q⟩ := h
  obtain ⟨u, w', rfl, ⟨t, rfl⟩, ⟨t', rfl⟩⟩ := vals2 r
  refine max_two_ints (I.ok.hd hc) fun h' tk k => ⟨_, H, I.kept k, ?_, q⟩
  by_cases hj : j > i
  · rw [if_pos hj, if_pos hj]; exact ⟨_, rfl⟩
  · rw [if_neg hj, if_neg hj]; exact ⟨_, rfl⟩
end
end L2
namespace L2
open PySem PySem.Spec PyProof.Rows
structure ObjM (h : Heap) (x dx C : Addr) (mA : Str → Option Value) : Prop where
  obj : h.get? x = some (PySem.W.instObj C dx)
  ns : h.Ns1 dx mA
  ne : dx ≠ x
theorem lookIn_ns {h : Heap} {dx : Addr} {mA : Str → Option Value} (n : h.Ns1 dx mA) : ∃ od, h.get? dx = some od ∧ ∀ name, PySem.W.lookIn name od = some (mA name) := by
  obtain ⟨o, es, ep, ho, hd, hk, _, hm⟩ := n
  refine ⟨o, ho, fun name => ?_⟩
  have e := hm name
  unfold nsFind findBy at e
  rw [← Array.find?_toList] at e
  unfold PySem.W.lookIn
  rw [hd]
  dsimp only
  split
  · rename_i y q
    rw [q] at e
    exact congrArg some e
  · rename_i q
    rw [q] at e
    have a : es.toList.any (·.refKey) = false := by
      rw [List.any_eq_false]
      intro y hy
      obtain ⟨z, t, hkey⟩ := hk y (Array.mem_toList_iff.mp hy)
      simp [DictEntry.refKey, hkey]
    have a' : ¬ es.toList.any (·.refKey) = true := by rw [a]; exact Bool.false_ne_true
    rw [if_neg a']
    exact congrArg some e
theorem ObjM.look {h : Heap} {x dx C : Addr} {mA : Str → Option Value} (I : ObjM h x dx C mA) : ∃ od, PySem.W.InstAt h x (PySem.W.instObj C dx) C (some od) ∧ ∀ name, PySem.W.lookIn name od = some (mA name) :=
  let ⟨od, ho, hl⟩ := lookIn_ns I.ns
  ⟨od, ⟨I.obj, rfl, rfl, ho⟩, hl⟩
section
variable {prog : Program} {w : World} {A : Around} {E : Value → Shared → Prop} {s : Shared} {K : PySem.W.Frag} {x dx C f : Addr} {mA : Str → Option Value} {name : Str} {v : Value}
theorem get_map {expr : Bool} {Q : Value → Shared → Prop} (X : K.In s.heap) (I : ObjM s.heap x dx C mA) (hg : PySem.W.plainGet K C name = true) (hh : PySem.W.hasDictIn K C = true)
    (ha : PySem.W.findIn K (.ref C) name = some none) (hv : mA name = some v) (hv' : PySem.W.handedIn v = true) (h : Q v { s with toks := s.toks + 1 }) :
    wpAny (model prog w) A (getAttr (.ref x) name expr) Q E s := by
  obtain ⟨od, J, hl⟩ := I.look
  exact PySem.W.get_value X J (PySem.W.plainGet_of hg).1 (PySem.W.findObj_own hh ha rfl (by rw [hl, hv])) hv' h
theorem get_meth {pl : Sem Bool} {Q : Value × List Value → Shared → Prop} (X : K.In s.heap) (I : ObjM s.heap x dx C mA) (hg : PySem.W.plainGet K C name = true)
    (hf : PySem.W.findIn K (.ref C) name = some (some (.ref f))) (ht : PySem.W.isFn K (.ref f) = true) (hv : mA name = none) (h : Q (.ref f, [.ref x]) s) :
    wpAny (model prog w) A (getMethod (.ref x) name pl) Q E s := by
  obtain ⟨od, J, hl⟩ := I.look
  exact PySem.W.method_fn X J (PySem.W.plainGet_of hg).1 (PySem.W.plainGet_of hg).2 hf (beq_iff_eq.mp ht) (by show (PySem.W.lookIn name od).map (·.isSome) = some false; rw [hl, hv]; rfl) h
theorem set_map {ns : List Str} {Q : Unit → Shared → Prop} (X : K.In s.heap) (I : ObjM s.heap x dx C mA)
    (hs : PySem.W.findIn K (.ref C) "__setattr__" = some (some (.builtin "object.__setattr__"))) (hp : PySem.W.plainOver K C = true) (ht : PySem.W.takerIn K C name = some none) (hh : PySem.W.hasDictIn K C = true)
    (hw : PySem.Within mA ns) (hsz : ns.length ≤ sizeLine)
    (h : ∀ h', ObjM h' x dx C (fun y => if y = name then some v else mA y) → Heap.SameBut dx s.heap h' → Q () { s with heap := h', toks := s.toks + 2 }) :
    wpAny (model prog w) A (setAttr (.ref x) name v) Q E s := by
  obtain ⟨od, J, hl⟩ := I.look
  refine PySem.W.set_plain X J hs (PySem.W.osa_open (s := { s with toks := s.toks + 1 }) (r := none) X J hp ht fun b => ?_)
  obtain ⟨cd, hc, hd'⟩ := PySem.W.any_some hh
  have hx : s.heap.get? x = some ⟨.ref C, some dx, .plain, #[]⟩ := I.obj
  refine wpAny_bind (wpAny_pure (wpAny_bind (wpAny_bind (wpAny_loadPart hx (wpAny_bind (PySem.W.Looks.here (s := { s with toks := s.toks + 1 }) (PySem.W.looks_clsIn X hc) ?_))))))
  rw [hd']
  refine wpAny_pure (a := some dx) (wpAny_bind (wpAny_pure (wpAny_bind ?_)))
  refine wpAny_nsSet1 (s := { s with toks := s.toks + 1 }) I.ns fun h' hn2 hs2 => ?_
  obtain ⟨oD, esD, epD, hoD, hdD, hcD⟩ := hn2.count (PySem.Within.cons name v hw)
  refine wpAny_bind (wpAny_lookBehind hoD (by rw [hdD]; exact pastItsLine_dict (Nat.le_trans hcD (by rw [List.length_cons]; omega))) ?_)
  exact wpAny_pure (h _ ⟨(hs2.2 _ (Ne.symm I.ne)).trans I.obj, hn2, I.ne⟩ hs2)
theorem make_map {R : Result → Shared → Prop} {vs : List Value} {kw : List (Str × Value)} (X : K.In s.heap) (hm : PySem.W.makesIn K C = true)
    (hi : PySem.W.findIn K (.ref C) "__init__" = some (some (.ref f))) (hf : PySem.W.typeIn K (.ref f) = some (.type "function"))
    (h : codeAny (model prog w) (A.under (.builtin "type.__call__" ⟨.ref C :: vs, kw⟩)) (.call (.ref f) ⟨.ref (s.heap.objs.size + 1) :: vs, kw⟩) (PySem.W.InitBack (s.heap.objs.size + 1) R)
      { s with heap := (s.heap.push PySem.W.emptyDict).push (PySem.W.instObj C s.heap.objs.size) }) :
    codeAny (model prog w) A (.call (.ref C) ⟨vs, kw⟩) R s := by
  obtain ⟨hh, g, d, t, os⟩ := s
  exact PySem.W.make_core (PySem.W.makes_of X hm) (PySem.W.looks_findIn X hi) (fun self => PySem.W.bind_fn X self hf) (.inl rfl) h
end
def putF (f : Str) (v : V) : List (Str × V) → List (Str × V)
  | [] => [(f, v)]
  | (g, x) :: r => if g = f then (g, v) :: r else (g, x) :: putF f v r
theorem lookup_putF (f g : Str) (v : V) : ∀ fs : List (Str × V), (putF f v fs).lookup g = if g = f then some v else fs.lookup g
  | [] => by
    show List.lookup g [(f, v)] = _
    by_cases h : g = f
    · have hb : (g == f) = true := beq_iff_eq.mpr h
      simp only [List.lookup, hb, if_pos h]
    · have hb : (g == f) = false := beq_eq_false_iff_ne.mpr h
      simp only [List.lookup, hb, if_neg h]
  | (k, x) :: r => by
    have ih := lookup_putF f g v r
    rw [show putF f v ((k, x) :: r) = (if k = f then (k, v) :: r else (k, x) :: putF f v r) from rfl]
    by_cases hk : k = f
    · rw [if_pos hk]
      by_cases h : g = k
      · have hb : (g == k) = true := beq_iff_eq.mpr h
        simp only [List.lookup, hb, if_pos (h.trans hk)]
      · have hb : (g == k) = false := beq_eq_false_iff_ne.mpr h
        simp only [List.lookup, hb, if_neg (fun e : g = f => h (e.trans hk.symm))]
    · rw [if_neg hk]
      by_cases h : g = k
      · have hb : (g == k) = true := beq_iff_eq.mpr h
        simp only [List.lookup, hb, if_neg (fun e : g = f => hk (h.symm.trans e))]
      · have hb : (g == k) = false := beq_eq_false_iff_ne.mpr h
        simp only [List.lookup, hb]
        exact ih
theorem keys_putF (f : Str) (v : V) : ∀ fs : List (Str × V), f ∈ (putF f v fs).map (·.1) ∧ ∀ g, g ∈ fs.map (·.1) → g ∈ (putF f v fs).map (·.1)
  | [] => ⟨by simp [putF], fun g h => by simp at h⟩
  | (k, x) :: r => by
    obtain ⟨i1, i2⟩ := keys_putF f v r
    rw [show putF f v ((k, x) :: r) = (if k = f then (k, v) :: r else (k, x) :: putF f v r) from rfl]
    by_cases hk : k = f
    · rw [if_pos hk]
      subst hk
      exact ⟨by simp, fun g h => by simpa using h⟩
    · rw [if_neg hk]
      refine ⟨?_, fun g h => ?_⟩
      · rw [List.map_cons]
        exact List.mem_cons_of_mem _ i1
      · rw [List.map_cons] at h ⊢
        rcases List.mem_cons.mp h with e | e
        · exact List.mem_cons.mpr (.inl e)
        · exact List.mem_cons_of_mem _ (i2 g e)
theorem length_putF (f : Str) (v : V) : ∀ fs : List (Str × V), (putF f v fs).length ≤ fs.length + 1
  | [] => by simp [putF]
  | (k, x) :: r => by
    have ih := length_putF f v r
    rw [show putF f v ((k, x) :: r) = (if k = f then (k, v) :: r else (k, x) :: putF f v r) from rfl]
    by_cases hk : k = f
    · rw [if_pos hk, List.length_cons, List.length_cons]; omega
    · rw [if_neg hk, List.length_cons, List.length_cons]; omega
theorem RelO.some_of {v : V} {o : Option Value} (r : RelO (some v) o) : ∃ u, o = some u ∧ RelV v u := by
  cases o with
  | none => exact (show False from r).elim
  | some u => exact ⟨u, rfl, r⟩
theorem RelO.none_of {o : Option Value} (r : RelO none o) : o = none := by
  cases o with
  | none => rfl
  | some u => exact (show False from r).elim
theorem handed_of {v : V} {u : Value} (r : RelV v u) : PySem.W.handedIn u = true := by
  cases v with
  | non => cases (show u = Value.none from r); rfl
  | bl b => cases (show u = Value.bool b from r); rfl
  | int i => obtain ⟨t, e⟩ := (show ∃ t, u = Value.int i t from r); cases e; rfl
  | str x => obtain ⟨t, e⟩ := (show ∃ t, u = Value.str x t from r); cases e; rfl
  | byt b => obtain ⟨t, e⟩ := (show ∃ t, u = Value.bytes b t from r); cases e; rfl
  | flt b => obtain ⟨t, e⟩ := (show ∃ t, u = Value.float b t from r); cases e; rfl
  | ref a => cases (show u = Value.ref a from r); rfl
  | ty n => cases (show u = Value.type n from r); rfl
section
variable {P : Program} {w : World} {H H' : Hp} {h h' : Heap} {a C dx : Addr} {fs fs' : List (Str × V)}
theorem ins_get (hok : HOk P w H h) (e : H a = some (.ins C dx fs)) : ∃ mA, ObjM h a dx C mA ∧ (∀ f, RelO (fs.lookup f) (mA f)) ∧ PySem.Within mA (fs.map (·.1)) ∧ fs.length ≤ 1000 ∧ H dx = some (.own a) := by
  obtain ⟨d, z, ne, ob, mA, n, r, q⟩ := (show ObjOk P w H h a (.ins C dx fs) from hok a _ e)
  exact ⟨mA, ⟨ob, n, ne⟩, r, q, z, d⟩
end
structure Cls (K : PySem.W.Frag) (C : Addr) : Prop where
  pg : PySem.W.plainGet K C Str.empty = true
  hd : PySem.W.hasDictIn K C = true
  po : PySem.W.plainOver K C = true
  sa : PySem.W.findIn K (.ref C) "__setattr__" = some (some (.builtin "object.__setattr__"))
theorem Cls.get {K : PySem.W.Frag} {C : Addr} (c : Cls K C) (f : Str) : PySem.W.plainGet K C f = true := c.pg
def NoAttr (K : PySem.W.Frag) (C : Addr) (f : Str) : Prop := PySem.W.findIn K (.ref C) f = some none
theorem NoAttr.taker {K : PySem.W.Frag} {C : Addr} {f : Str} (n : NoAttr K C f) : PySem.W.takerIn K C f = some none := by
  unfold PySem.W.takerIn
  rw [show PySem.W.findIn K (.ref C) f = some none from n]
  rfl
/-- a constant of the class -/
structure Con (K : PySem.W.Frag) (C : Addr) (f : Str) (v : V) (u : Value) : Prop where
  at_ : PySem.W.findIn K (.ref C) f = some (some u)
  rel : RelV v u
  get : PySem.W.specialIn K u "__get__" = some none
  cp : PySem.W.copiedNames.contains f = false
/-- a method: a plain def of the class or of one above it -/
structure Meth (K : PySem.W.Frag) (C : Addr) (m : Str) (f : Addr) : Prop where
  at_ : PySem.W.findIn K (.ref C) m = some (some (.ref f))
  fn : PySem.W.isFn K (.ref f) = true
  kp : PySem.W.keepIn K (.ref f) = true
section
variable {X : Cx} {pins : List (Addr × Obj)} {σ : St} {H : Hp} {s : Shared} {a C dx : Addr} {fs : List (Str × V)} {f : Str} {v : V} {A : Around} {E : Value → Shared → Prop}
theorem getattr_ok {b : Bool} {Q : Value → Shared → Prop} (I : Inv X pins σ H s) (e : H a = some (.ins C dx fs)) (c : Cls X.K C) (n : NoAttr X.K C f) (l : fs.lookup f = some v)
    (h : ∀ u s', Inv X pins σ H s' → RelV v u → Q u s') : wpAny (model X.prog X.w) A (getAttr (.ref a) f b) Q E s := by
  obtain ⟨mA, O, r, _, _, _⟩ := ins_get I.hok e
  obtain ⟨u, hu, ru⟩ := RelO.some_of (v := v) (o := mA f) (by rw [← l]; exact r f)
  exact get_map I.kIn O (c.get f) c.hd n hu (handed_of ru) (h u _ (I.tok _) ru)
theorem getmeth_ok {m : Str} {g : Addr} {pl : Sem Bool} {Q : Value × List Value → Shared → Prop} (I : Inv X pins σ H s) (e : H a = some (.ins C dx fs)) (c : Cls X.K C) (k : Meth X.K C m g) (l : fs.lookup m = none)
    (h : Q (.ref g, [.ref a]) s) : wpAny (model X.prog X.w) A (getMethod (.ref a) m pl) Q E s := by
  obtain ⟨mA, O, r, _, _, _⟩ := ins_get I.hok e
  have hn : mA m = none := RelO.none_of (by rw [← l]; exact r m)
  exact get_meth I.kIn O (c.get m) k.at_ k.fn hn h
theorem setattr_ok {y : V} {u : Value} {Q : Unit → Shared → Prop} (I : Inv X pins σ H s) (e : H a = some (.ins C dx fs)) (c : Cls X.K C) (n : NoAttr X.K C f) (hl : fs.length < 1000) (ry : RelV y u)
    (h : ∀ s', Inv X pins σ (upd H a (.ins C dx (putF f y fs))) s' → Q () s') : wpAny (model X.prog X.w) A (setAttr (.ref a) f u) Q E s := by
  obtain ⟨mA, O, r, wi, _, ho⟩ := ins_get I.hok e
  have hz : (fs.map (·.1)).length ≤ sizeLine := by rw [List.length_map, sizeLine_eq]; omega
  refine set_map I.kIn O c.sa c.po n.taker c.hd wi hz fun h' O' sb => h _ ?_
  have hd : ∃ o, h'.get? dx = some o := let ⟨o, _, _, e', _⟩ := O'.ns; ⟨o, e'⟩
  refine I.write (x := a) (e := dx) (by rw [e]; exact True.intro) (.inr ho) (fun b q hb z => (sb.2 b hb).trans z) hd ?_
  refine ⟨by rw [upd_ne O.ne]; exact ho, ?_, O.ne, O'.obj, _, O'.ns, fun g => ?_, fun g hg => ?_⟩
  · have := length_putF f y fs; omega
  · show RelO ((putF f y fs).lookup g) (if g = f then some u else mA g)
    rw [lookup_putF]
    by_cases q : g = f
    · rw [if_pos q, if_pos q]; exact ry
    · rw [if_neg q, if_neg q]; exact r g
  · by_cases q : g = f
    · rw [q]; exact (keys_putF f y fs).1
    · refine (keys_putF f y fs).2 g (wi g fun z => hg ?_)
      show (if g = f then some u else mA g) = none
      rw [if_neg q]; exact z
theorem Inv.made (I : Inv X pins σ H s) : Inv X pins σ (upd (upd H s.heap.objs.size (.own (s.heap.objs.size + 1))) (s.heap.objs.size + 1) (.ins C s.heap.objs.size []))
    { s with heap := (s.heap.push PySem.W.emptyDict).push (PySem.W.instObj C s.heap.objs.size) } := by
  have e1 : (s.heap.push PySem.W.emptyDict).get? s.heap.objs.size = some PySem.W.emptyDict := Heap.get?_push_size s.heap rfl
  have e2 : ((s.heap.push PySem.W.emptyDict).push (PySem.W.instObj C s.heap.objs.size)).get? (s.heap.objs.size + 1) = some (PySem.W.instObj C s.heap.objs.size) := by
    have := Heap.get?_push_size (s.heap.push PySem.W.emptyDict) (o := PySem.W.instObj C s.heap.objs.size) rfl
    rwa [Heap.size_push] at this
  have e3 : (s.heap.push PySem.W.emptyDict).Ns s.heap.objs.size (fun _ => none) := ⟨PySem.W.emptyDict, #[], _, e1, rfl, (fun e he => absurd he (by simp)), fun _ => rfl⟩
  have I1 := I.laid (a := s.heap.objs.size) (o := .own (s.heap.objs.size + 1)) (h' := s.heap.push PySem.W.emptyDict) (t' := s.toks) (fun b u q => Heap.get?_push_of_some _ q) (Nat.le_refl _) ⟨_, e1⟩
  refine I1.laid (a := s.heap.objs.size + 1) (o := .ins C s.heap.objs.size []) (t' := s.toks) (fun b u q => Heap.get?_push_of_some _ q) (Nat.le_of_eq (Heap.size_push _ _)) ?_
  have ne : s.heap.objs.size ≠ s.heap.objs.size + 1 := Nat.ne_of_lt (Nat.lt_succ_self _)
  refine ⟨by rw [upd_ne ne, upd_same], Nat.zero_le _, ne, e2, fun _ => none, (Heap.Ns1.of_empty e3).at fun o q => Heap.get?_push_of_some _ q, fun _ => True.intro, fun y hy => absurd rfl hy⟩
theorem attr_of {prog : Program} {w : World} {env : Env} {e : Expr} {f : Str} {pos : Pos} {s : Shared} {Q : Value → Shared → Prop} (hb : attributeBase e f env (eval e env) = eval e env)
    (h : wpAny (model prog w) A (eval e env) (fun o s₁ => wpAny (model prog w) A (getAttr o f true) Q E s₁) E s) : wpAny (model prog w) A (eval (.Attribute e f pos) env) Q E s :=
  Attribute_any_ h (by rw [arm_eval_Attribute, hb])
end
def tFld (K : PySem.W.Frag) (ta : TE) (f : Str) : TE := fun σ H Q => ta σ H fun x H1 => ∃ a C dx fs v, x = .ref a ∧ H1 a = some (.ins C dx fs) ∧ Cls K C ∧ NoAttr K C f ∧ fs.lookup f = some v ∧ Q v H1
def sFld (K : PySem.W.Frag) (ta tv : TE) (f : Str) : TS := fun D σ H => tv σ H fun y H1 => ta σ H1 fun x H2 => ∃ a C dx fs, x = .ref a ∧ H2 a = some (.ins C dx fs) ∧ Cls K C ∧ NoAttr K C f ∧ fs.length < 1000 ∧
  D.nx σ (upd H2 a (.ins C dx (putF f y fs)))
section
variable {X : Cx} {o e value : Expr} {f : Str} {pos pos' tpos : Pos} {ta tv : TE}
theorem pe_fld (he : PE X e ta) (hb : attributeBase e f X.env (eval e X.env) = eval e X.env) : PE X (.Attribute e f pos) (tFld X.K ta f) := by
  intro pins s σ H Q I h
  refine attr_of hb (thn (he pins s σ H _ I h) fun u s1 ⟨x, H1, I1, rx, a, C, dx, fs, v, ex, ea, c, n, l, q⟩ => ?_)
  subst ex
  obtain rfl : u = Value.ref a := rx
  exact getattr_ok I1 ea c n l fun u' s2 I2 ru => ⟨v, H1, I2, ru, q⟩
theorem ps_fld (ha : PE X o ta) (hv : PE X value tv) (hs : swapsWith value (some (.Attribute o f pos')) pos.line X.env = pure false) : PS X (.Assign [.Attribute o f pos'] value pos) (sFld X.K ta tv f) := by
  intro pins s σ H D I h
  refine plainObj_wpAny_Assign_Attribute (thn (hv pins s σ H _ I h) fun u s1 ⟨y, H1, I1, ry, q⟩ => thn (ha pins s1 σ H1 _ I1 q) fun ov s2 ⟨x, H2, I2, rx, a, C, dx, fs, ex, ea, c, n, l, q2⟩ => ?_) hs
  subst ex
  obtain rfl : ov = Value.ref a := rx
  exact setattr_ok I2 ea c n l ry fun s3 I3 => ⟨σ, _, I3, q2⟩
end
section
variable {X : Cx} {pins : List (Addr × Obj)} {σ : St} {H : Hp} {s : Shared} {A : Around} {E : Value → Shared → Prop} {Q : Value → Shared → Prop} {c : Value} {b : Bool}
/-- the type of a value, as the fragment's deciders take it; for an instance its class -/
inductive TyOf (K : PySem.W.Frag) (H : Hp) : V → Value → Prop where
  | non : TyOf K H .non (.type "NoneType")
  | bl (x : Bool) : TyOf K H (.bl x) (.type "bool")
  | int (i : Int) : TyOf K H (.int i) (.type "int")
  | str (x : Str) : TyOf K H (.str x) (.type "str")
  | flt (x : UInt64) : TyOf K H (.flt x) (.type "float")
  | lst {a : Addr} {xs : List V} (e : H a = some (.lst xs)) : TyOf K H (.ref a) (.type "list")
  | frz {a : Addr} {o : Obj} {xs : List V} (e : H a = some (.frz o (.lst xs))) : TyOf K H (.ref a) (.type "list")
  | tup {a : Addr} {xs : List V} (e : H a = some (.tup xs)) : TyOf K H (.ref a) (.type "tuple")
  | dK {a : Addr} {kvs : List (Key × V)} (e : H a = some (.dK kvs)) : TyOf K H (.ref a) (.type "dict")
  | dT {a : Addr} {kvs : List (List Key × V)} (e : H a = some (.dT kvs)) : TyOf K H (.ref a) (.type "dict")
  | ins {a C dx : Addr} {fs : List (Str × V)} (e : H a = some (.ins C dx fs)) (cl : Cls K C) (ha : PySem.W.findIn K (.ref C) "__class__" = some (some (.builtin "object.__class__")))
      (hn : PySem.W.specialIn K (.builtin "object.__class__") "__get__" = some (some (.builtin "getset_descriptor.__get__"))) (htk : PySem.W.takesIn K (.builtin "object.__class__") = some true)
      (hm : PySem.W.mroIn K C (.type "object") = some true) : TyOf K H (.ref a) (.ref C)
end
end L2
namespace L2
open PySem PySem.Spec PyProof.Rows
structure Room (k : Nat) (A : Around) : Prop where
  hd : A.handled = none
  dp : A.depth + 3 * k + 5 < recursionLimit
  un : A.units + 16 * k + 200 < cLine
theorem Room.mono {j k : Nat} {A : Around} (r : Room k A) (h : j ≤ k) : Room j A := ⟨r.hd, by have := r.dp; omega, by have := r.un; omega⟩
theorem Room.deeper {k : Nat} {A : Around} (r : Room (k + 1) A) (env : Env) : Room k (A.deeper env) :=
  ⟨r.hd, by have := r.dp; show A.depth + 1 + 3 * k + 5 < _; omega, by have := r.un; show A.units + 3 + 16 * k + 200 < _; omega⟩
theorem Room.in1 {k : Nat} {A : Around} (r : Room (k + 1) A) : Room k A.in1 :=
  ⟨r.hd, by have := r.dp; show A.depth + 3 * k + 5 < _; omega, by have := r.un; show A.units + 1 + 16 * k + 200 < _; omega⟩
theorem make_depth {A : Around} {C : Addr} {us : List Value} {kw : List (Str × Value)} : (A.under (.builtin "type.__call__" ⟨.ref C :: us, kw⟩)).depth = A.depth + 1 := by
  first | rfl | simp [Around.under, Code.weight, Code.isCreation, Code.isGuard, Code.isCaller, Code.frames, Code.isFrame, guardIds]
theorem make_units {A : Around} {C : Addr} {us : List Value} {kw : List (Str × Value)} : (A.under (.builtin "type.__call__" ⟨.ref C :: us, kw⟩)).units = A.units + 1 := by
  first | rfl | simp [Around.under, Code.cUnits, Code.frames, Code.isFrame]
theorem Room.make {k : Nat} {A : Around} (r : Room (k + 1) A) (C : Addr) (us : List Value) (kw : List (Str × Value)) : Room k (A.under (.builtin "type.__call__" ⟨.ref C :: us, kw⟩)) :=
  ⟨r.hd, by have := r.dp; rw [make_depth]; omega, by have := r.un; rw [make_units]; omega⟩
theorem Room.depth {k : Nat} {A : Around} (r : Room k A) : A.depth < recursionLimit := by have := r.dp; omega
theorem Room.units {k : Nat} {A : Around} (r : Room k A) : A.units + 64 < cLine := by have := r.un; omega
def tNil : TA := fun _ H Q => Q [] H
def tCons (ta : TE) (tr : TA) : TA := fun σ H Q => ta σ H fun x H1 => tr σ H1 fun xs H2 => Q (x :: xs) H2
section
variable {X : Cx} {e : Expr} {es : List Expr} {te : TE} {t : TA} {pos : Pos}
theorem pa_nil : PA X [] tNil := fun _ _ _ _ H Q I h => Calls.spliced_nil ⟨[], H, I, .nil, h⟩
theorem pa_cons (ha : PE X e te) (hr : PA X es t) (hs : starEach (e :: es) X.env = (false, eval e X.env) :: starEach es X.env := by rfl) : PA X (e :: es) (tCons te t) := by
  intro pos pins s σ H Q I h
  rw [hs]
  show wpAny _ _ (spliced ((false, eval e X.env) :: backTo pos (starEach es X.env))) _ _ s
  refine Calls.spliced_cons (thn (ha pins s σ H _ I h) fun u s1 ⟨x, H1, I1, r1, q1⟩ => ?_)
  exact thn (hr pos pins s1 σ H1 _ I1 q1) fun us s2 ⟨xs, H2, I2, r2, q2⟩ => ⟨x :: xs, H2, I2, .cons r1 r2, q2⟩
def tTup (t : TA) : TE := fun σ H Q => t σ H fun xs H1 => xs.length ≤ sizeLine ∧ ∀ p, H1 p = none → Q (.ref p) (upd H1 p (.tup xs))
def tLst (t : TA) : TE := fun σ H Q => t σ H fun xs H1 => xs.length ≤ sizeLine ∧ ∀ p, H1 p = none → Q (.ref p) (upd H1 p (.lst xs))
theorem pe_tup {x1} (h : PA X es t) : PE X (.Tuple es x1 pos) (tTup t) := by
  intro pins s σ H Q I hq
  refine wpAny_Tuple_spliced (thn (h pos pins s σ H _ I hq) fun us s1 ⟨xs, H1, I1, r, z, q⟩ => ⟨by rw [← r.length]; exact z, ?_⟩)
  have hf : H1 s1.heap.objs.size = none := I1.hok.fresh (Nat.le_refl _)
  refine ⟨.ref s1.heap.objs.size, upd H1 s1.heap.objs.size (.tup xs), I1.laid (t' := s1.toks) (fun b u e => Heap.get?_push_of_some _ e) (Nat.le_refl _) ?_, rfl, q _ hf⟩
  exact ⟨z, us, r, ⟨_, Heap.get?_push_size _ rfl, rfl, _, rfl⟩⟩
theorem pe_lst (h : PA X es t) : PE X (.List es pos) (tLst t) := by
  intro pins s σ H Q I hq
  refine wpAny_List_spliced (thn (h pos pins s σ H _ I hq) fun us s1 ⟨xs, H1, I1, r, z, q⟩ => ⟨by rw [← r.length]; exact z, ?_⟩)
  have hf : H1 s1.heap.objs.size = none := I1.hok.fresh (Nat.le_refl _)
  refine ⟨.ref s1.heap.objs.size, upd H1 s1.heap.objs.size (.lst xs), I1.laid (t' := s1.toks) (fun b u e => Heap.get?_push_of_some _ e) (Nat.le_refl _) ?_, rfl, q _ hf⟩
  exact ⟨z, us, 0, r, Heap.get?_push_size _ rfl⟩
end
abbrev Sp := List V → Hp → VK → XK → Prop
abbrev CXT := List Env → Hp → Shared → XK → Value → Shared → Prop
/-- the state at a call -/
structure Env0 (P : Program) (w : World) (K : PySem.W.Frag) (mg : Str → Option Value) (base : Heap) (A : Around) (outer : List Env) (s : Shared) (H : Hp) : Prop where
  frames : A.frames = some outer
  mod : Mod K mg base
  bs : ∀ b o, base.get? b = some o → s.heap.get? b = some o ∧ H b = none
  bsz : base.objs.size ≤ s.heap.objs.size
  funs : s.heap.FunFrames base outer
  frf : ∀ b ∈ frs outer, H b = none
  hok : HOk P w H s.heap
  bare : AllBare s.gens
def CE (outer : List Env) (P : Program) (w : World) (H : Hp) (s : Shared) (Q : VK) (u : Value) (s' : Shared) : Prop :=
  ∃ v H', s'.os = s.os ∧ AllBare s'.gens ∧ Un (frs outer) [] H H' s.heap s'.heap ∧ HOk P w H' s'.heap ∧ RelV v u ∧ Q v H'
def CR (CX : CXT) (outer : List Env) (P : Program) (w : World) (H : Hp) (s : Shared) (Q : VK) (E : XK) (r : Result) (s' : Shared) : Prop :=
  match r with
  | .ok (.ret u) => CE outer P w H s Q u s'
  | .ok _ => False
  | .error e => CX outer H s E e s'
structure FnOk (P : Program) (w : World) (K : PySem.W.Frag) (mg : Str → Option Value) (base : Heap) (CX : CXT) (k : Nat) (f : Addr) (fd : FuncData) (ps : List Str) (sp : Sp) : Prop where
  len : ∀ vs H Q E, sp vs H Q E → vs.length = ps.length
  run : ∀ (A : Around) (outer : List Env) (s : Shared) (H : Hp) (args : Args) (us : List Value) (vs : List V) (Q : VK) (E : XK), Room k A → Env0 P w K mg base A outer s H → BindsTo s fd args (ps.zip us) → Vals vs us → sp vs H Q E →
    codeAny (model P w) A (.call (.ref f) args) (CR CX outer P w H s Q E) s
theorem FnOk.mono {P : Program} {w : World} {K : PySem.W.Frag} {mg : Str → Option Value} {base : Heap} {CX : CXT} {j k : Nat} {f : Addr} {fd : FuncData} {ps : List Str} {sp : Sp} (F : FnOk P w K mg base CX j f fd ps sp) (h : j ≤ k) :
    FnOk P w K mg base CX k f fd ps sp := ⟨F.len, fun A outer s H args us vs Q E hr => F.run A outer s H args us vs Q E (hr.mono h)⟩
theorem FnOk.imp {P : Program} {w : World} {K : PySem.W.Frag} {mg : Str → Option Value} {base : Heap} {CX : CXT} {k : Nat} {f : Addr} {fd : FuncData} {ps : List Str} {sp sp' : Sp} (F : FnOk P w K mg base CX k f fd ps sp)
    (h : ∀ vs H Q E, sp' vs H Q E → sp vs H Q E) : FnOk P w K mg base CX k f fd ps sp' :=
  ⟨fun vs H Q E q => F.len vs H Q E (h _ _ _ _ q), fun A outer s H args us vs Q E hr he hb hv hs => F.run A outer s H args us vs Q E hr he hb hv (h _ _ _ _ hs)⟩
theorem Env0.make {P : Program} {w : World} {K : PySem.W.Frag} {mg : Str → Option Value} {base : Heap} {A : Around} {outer : List Env} {s : Shared} {H : Hp} (e : Env0 P w K mg base A outer s H) (C : Addr) (us : List Value) (kw : List (Str × Value)) :
    Env0 P w K mg base (A.under (.builtin "type.__call__" ⟨.ref C :: us, kw⟩)) outer s H := ⟨by first | exact e.frames | (simpa [Around.under, Code.envs, Code.isFrame, pushEnvs] using e.frames), e.mod, e.bs, e.bsz, e.funs, e.frf, e.hok, e.bare⟩
theorem Env0.in1 {P : Program} {w : World} {K : PySem.W.Frag} {mg : Str → Option Value} {base : Heap} {A : Around} {outer : List Env} {s : Shared} {H : Hp} (e : Env0 P w K mg base A outer s H) :
    Env0 P w K mg base A.in1 outer s H := ⟨e.frames, e.mod, e.bs, e.bsz, e.funs, e.frf, e.hok, e.bare⟩
section
variable {X : Cx} {pins : List (Addr × Obj)} {σ : St} {H : Hp} {s s' : Shared}
theorem Inv.env0 (I : Inv X pins σ H s) : Env0 X.prog X.w X.K X.mg X.base X.A X.stack s H :=
  ⟨I.ok.frames, I.ok.mod, I.bs, Nat.le_trans I.ok.bsz I.sz, I.stack, I.stkFree, I.hok, I.bare⟩
theorem Inv.after {Q : VK} {u : Value} (I : Inv X pins σ H s) (h : CE X.stack X.prog X.w H s Q u s') : EP X pins σ Q u s' := by
  obtain ⟨v, H', os, bare, un, hok, r, q⟩ := h
  obtain ⟨hh, g, d, t, os'⟩ := s'
  obtain rfl : os' = s.os := os
  exact ⟨v, H', I.call (h' := hh) (g' := g) (d' := d) (t' := t) (ch := []) un hok bare (fun b z => absurd z (by simp)), r, q⟩
end
def tCall (sp : Sp) (dvs : List V) (E : XK) (t : TA) : TE := fun σ H Q => t σ H fun vs H1 => sp (vs ++ dvs) H1 Q E
def tMeth (C : Addr) (m : Str) (sp : Sp) (dvs : List V) (E : XK) (ta : TE) (t : TA) : TE := fun σ H Q => ta σ H fun x H1 => ∃ a dx fs, x = .ref a ∧ H1 a = some (.ins C dx fs) ∧ fs.lookup m = none ∧
  t σ H1 fun vs H2 => sp (x :: (vs ++ dvs)) H2 Q E
def tMake (C : Addr) (sp : Sp) (dvs : List V) (E : XK) (t : TA) : TE := fun σ H Q => t σ H fun vs H1 => ∀ x dx, H1 x = none → H1 dx = none → dx ≠ x →
  sp (.ref x :: (vs ++ dvs)) (upd (upd H1 dx (.own x)) x (.ins C dx [])) (fun v H2 => v = .non ∧ Q (.ref x) H2) E
def Binds (K : PySem.W.Frag) (fd : FuncData) (ps : List Str) (ds : List Value) : Prop :=
  ∀ (s : Shared) (us : List Value), K.In s.heap → (us ++ ds).length = ps.length → BindsTo s fd ⟨us, []⟩ (ps.zip (us ++ ds))
theorem Binds.all {K : PySem.W.Frag} {fd : FuncData} {ps : List Str} (h : ∀ us : List Value, us.length = ps.length → bindArgs fd ⟨us, []⟩ = pure (ps.zip us)) : Binds K fd ps [] := fun s us _ hl => by
  rw [List.append_nil] at hl ⊢
  exact .of_eq (h us hl)
def Passes (CX : CXT) (X : Cx) (E : XK) : Prop := ∀ (pins : List (Addr × Obj)) (σ : St) (H : Hp) (s : Shared) (e : Value) (s' : Shared), Inv X pins σ H s → CX X.stack H s E e s' → X.xe e s'
section
variable {X : Cx} {CX : CXT} {k : Nat} {f C : Addr} {fd : FuncData} {ps : List Str} {sp : Sp} {dvs : List V} {ds : List Value} {E : XK} {x m : Str} {p pos apos : Pos} {e o : Expr} {es : List Expr} {ta : TE} {t : TA}
theorem run_fn {pins : List (Addr × Obj)} {σ : St} {H : Hp} {s : Shared} {Q : VK} {us : List Value} {vs : List V} (F : FnOk X.prog X.w X.K X.mg X.base CX k f fd ps sp) (hr : Room k X.A) (hb : Binds X.K fd ps ds) (hd : Vals dvs ds) (hx : Passes CX X E)
    (I : Inv X pins σ H s) (r : Vals vs us) (h : sp (vs ++ dvs) H Q E) : wpAny (model X.prog X.w) X.A (call (.ref f) us) (EP X pins σ Q) X.xe s := by
  have r2 : Vals (vs ++ dvs) (us ++ ds) := r.append hd
  have hl : (us ++ ds).length = ps.length := by rw [← r2.length]; exact F.len _ _ _ _ h
  refine wpAny_call (codeAny_mono (F.run X.A X.stack s H ⟨us, []⟩ (us ++ ds) (vs ++ dvs) Q E hr I.env0 (hb s us I.kIn hl) r2 h) fun r s' hq => ?_)
  cases r with
  | error e => exact hx pins σ H s e s' I hq
  | ok fl =>
    cases fl with
    | ret u => exact I.after hq
    | next => exact False.elim hq
    | brk => exact False.elim hq
    | cont => exact False.elim hq
theorem pe_call (F : FnOk X.prog X.w X.K X.mg X.base CX k f fd ps sp) (hr : Room k X.A) (hg : Gl X x) (hm : X.mg x = some (.ref f)) (hk : PySem.W.keepIn X.K (.ref f) = true) (hb : Binds X.K fd ps ds) (hd : Vals dvs ds) (hx : Passes CX X E)
    (ha : PA X (e :: es) t) (hdb : (x == ("__debug__" : Str)) = false := by decide) (he : starEach (e :: es) X.env = (false, eval e X.env) :: starEach es X.env := by rfl) (hpl : (backTo pos (starEach es X.env)).any (·.1) = false := by rfl) :
    PE X (.Call (.Name x p) (e :: es) [] pos) (tCall sp dvs E t) := by
  intro pins s σ H Q I h
  refine wpAny_Call_Name_kw (ld_glob I hg hm ?_ hdb)
  refine PySem.W.callWith_K (h₀ := X.base) I.ok.mod.kin hk (thn (ha pos pins s σ H _ I h) fun us s1 ⟨vs, H1, I1, r, q⟩ => ⟨I1.kIn, ?_⟩) he hpl
  exact run_fn F hr hb hd hx I1 r q
theorem pe_meth {pl : Sem Bool} (he : PE X o ta) (c : Cls X.K C) (hm : Meth X.K C m f) (F : FnOk X.prog X.w X.K X.mg X.base CX k f fd ps sp) (hr : Room k X.A) (hb : Binds X.K fd ps ds) (hd : Vals dvs ds) (hx : Passes CX X E) (ha : PA X (e :: es) t)
    (hst : starEach (e :: es) X.env = (false, eval e X.env) :: starEach es X.env := by rfl) (hpl : (backTo pos (starEach es X.env)).any (·.1) = false := by rfl)
    (ht : eval (.Call (.Attribute o m apos) (e :: es) [] pos) X.env = (do
      let ov ← eval o X.env
      standAt apos.atName
      let (f, first) ← holding [ov] (getMethod ov m pl)
      callWith pos f first (backTo pos (starEach (e :: es) X.env)) (backToKw pos (keywordEach [] X.env))) := by rfl) :
    PE X (.Call (.Attribute o m apos) (e :: es) [] pos) (tMeth C m sp dvs E ta t) := by
  intro pins s σ H Q I h
  refine PySem.W.methodCall_KW (pl := pl) (thn (he pins s σ H _ I h) fun u s1 ⟨x, H1, I1, rx, a, dx, fs, ex, ea, l, q⟩ => ?_) ht
  subst ex
  obtain rfl : u = Value.ref a := rx
  refine getmeth_ok I1 ea c hm l ?_
  refine PySem.W.callWith_K (first := [.ref a]) (h₀ := X.base) I.ok.mod.kin hm.kp (thn (ha pos pins s1 σ H1 _ I1 q) fun us s2 ⟨vs, H2, I2, r, q2⟩ => ⟨I2.kIn, ?_⟩) hst hpl
  exact run_fn (us := .ref a :: us) (vs := .ref a :: vs) F hr hb hd hx I2 (.cons rfl r) q2
theorem pe_meth0 {pl : Sem Bool} (he : PE X o ta) (c : Cls X.K C) (hm : Meth X.K C m f) (F : FnOk X.prog X.w X.K X.mg X.base CX k f fd ps sp) (hr : Room k X.A) (hb : Binds X.K fd ps ds) (hd : Vals dvs ds) (hx : Passes CX X E)
    (ht : eval (.Call (.Attribute o m apos) [] [] pos) X.env = (do
      let ov ← eval o X.env
      standAt apos.atName
      let (f, first) ← holding [ov] (getMethod ov m pl)
      callWith pos f first (backTo pos (starEach [] X.env)) (backToKw pos (keywordEach [] X.env))) := by rfl) :
    PE X (.Call (.Attribute o m apos) [] [] pos) (tMeth C m sp dvs E ta tNil) := by
  intro pins s σ H Q I h
  refine PySem.W.methodCall_KW (pl := pl) (thn (he pins s σ H _ I h) fun u s1 ⟨x, H1, I1, rx, a, dx, fs, ex, ea, l, q⟩ => ?_) ht
  subst ex
  obtain rfl : u = Value.ref a := rx
  refine getmeth_ok I1 ea c hm l ?_
  exact PySem.W.callWith_K0 (first := [.ref a]) I1.kIn hm.kp (run_fn (us := [.ref a]) (vs := [.ref a]) F hr hb hd hx I1 (.cons rfl .nil) q)
/-- what a class must have to be made -/
structure Mk (K : PySem.W.Frag) (C f : Addr) : Prop where
  makes : PySem.W.makesIn K C = true
  init : PySem.W.findIn K (.ref C) "__init__" = some (some (.ref f))
  fn : PySem.W.isFn K (.ref f) = true
  kp : PySem.W.keepIn K (.ref C) = true
theorem run_make {pins : List (Addr × Obj)} {σ : St} {H : Hp} {s : Shared} {Q : VK} {us : List Value} {vs : List V} (M : Mk X.K C f) (F : FnOk X.prog X.w X.K X.mg X.base CX k f fd ps sp) (hr : Room (k + 1) X.A) (hb : Binds X.K fd ps ds) (hd : Vals dvs ds)
    (hx : Passes CX X E) (I : Inv X pins σ H s) (r : Vals vs us)
    (h : ∀ x dx, H x = none → H dx = none → dx ≠ x → sp (.ref x :: (vs ++ dvs)) (upd (upd H dx (.own x)) x (.ins C dx [])) (fun v H2 => v = .non ∧ Q (.ref x) H2) E) :
    wpAny (model X.prog X.w) X.A (call (.ref C) us) (EP X pins σ Q) X.xe s := by
  have hq := h (s.heap.objs.size + 1) s.heap.objs.size (I.hok.fresh (Nat.le_succ _)) (I.hok.fresh (Nat.le_refl _)) (Nat.ne_of_lt (Nat.lt_succ_self _))
  have I2 := Inv.made (C := C) I
  have r2 : Vals (V.ref (s.heap.objs.size + 1) :: (vs ++ dvs)) (Value.ref (s.heap.objs.size + 1) :: (us ++ ds)) := .cons rfl (r.append hd)
  have hl : (Value.ref (s.heap.objs.size + 1) :: us ++ ds).length = ps.length := by
    have e := r2.length
    rw [F.len _ _ _ _ hq] at e
    exact e.symm
  refine wpAny_call (make_map (f := f) I.kIn M.makes M.init (beq_iff_eq.mp M.fn) (codeAny_mono (F.run _ X.stack _ _ ⟨Value.ref (s.heap.objs.size + 1) :: us, []⟩ (Value.ref (s.heap.objs.size + 1) :: (us ++ ds)) _ _ E (hr.make C us [])
    (I2.env0.make C us []) (hb _ (Value.ref (s.heap.objs.size + 1) :: us) I2.kIn hl) r2 hq) fun r s' hq' => ?_))
  cases r with
  | error e => exact hx pins σ _ _ e s' I2 hq'
  | ok fl =>
    cases fl with
    | ret u =>
      obtain ⟨v, H', I3, rv, ev, q3⟩ := I2.after hq'
      subst ev
      exact ⟨rv, ⟨V.ref (s.heap.objs.size + 1), H', I3, rfl, q3⟩⟩
    | next => exact False.elim hq'
    | brk => exact False.elim hq'
    | cont => exact False.elim hq'
theorem pe_make (M : Mk X.K C f) (F : FnOk X.prog X.w X.K X.mg X.base CX k f fd ps sp) (hr : Room (k + 1) X.A) (hg : Gl X x) (hm : X.mg x = some (.ref C)) (hb : Binds X.K fd ps ds) (hd : Vals dvs ds) (hx : Passes CX X E)
    (ha : PA X (e :: es) t) (hdb : (x == ("__debug__" : Str)) = false := by decide) (he : starEach (e :: es) X.env = (false, eval e X.env) :: starEach es X.env := by rfl) (hpl : (backTo pos (starEach es X.env)).any (·.1) = false := by rfl) :
    PE X (.Call (.Name x p) (e :: es) [] pos) (tMake C sp dvs E t) := by
  intro pins s σ H Q I h
  refine wpAny_Call_Name_kw (ld_glob I hg hm ?_ hdb)
  refine PySem.W.callWith_K (h₀ := X.base) I.ok.mod.kin M.kp (thn (ha pos pins s σ H _ I h) fun us s1 ⟨vs, H1, I1, r, q⟩ => ⟨I1.kIn, ?_⟩) he hpl
  exact run_make M F hr hb hd hx I1 r q
end
section
variable {X : Cx} {CX : CXT} {k : Nat} {f C : Addr} {fd : FuncData} {ps ks : List Str} {sp : Sp} {E : XK} {x m : Str} {p pos apos kpos : Pos} {e o : Expr} {es : List Expr} {kws : List Keyword} {te ta : TE} {t tk : TA} {nm : Option Str}
/-- how a call with keywords binds: g puts the positional values us and the keywords' values ws (names ks) in the parameters' order, defaults among them -/
structure KBinds (K : PySem.W.Frag) (fd : FuncData) (ps ks : List Str) (g : List Value → List Value → List Value) (gV : List V → List V → List V) : Prop where
  to : ∀ (s : Shared) (us ws : List Value), K.In s.heap → (g us ws).length = ps.length → BindsTo s fd ⟨us, ks.zip ws⟩ (ps.zip (g us ws))
  rel : ∀ {vs : List V} {us : List Value} {zs : List V} {ws : List Value}, Vals vs us → Vals zs ws → Vals (gV vs zs) (g us ws)
variable {g : List Value → List Value → List Value} {gV : List V → List V → List V}
end
/-- names: the parameters first -/
structure FnScope (N P : List Str) (sc : Scope) : Prop where
  kind : sc.kind = .function
  co : sc.isCoroutine = false
  gen : sc.isGenerator = false
  nd : N.Nodup
  pre : N.take P.length = P
  par : ∀ x ∈ P, sc.names.lookup x = some .local ∨ sc.names.lookup x = some .cell
  nofree : ∀ y ∈ sc.names, y.2 ≠ .free
theorem bindL_out {kindOf : Str → Option NameKind} {x : Str} : ∀ {binds : List (Str × Value)} {m : Str → Option Value}, (∀ v, (x, v) ∉ binds) → bindL kindOf binds m x = m x
  | [], _, _ => rfl
  | (n, v) :: r, m, h => by
    unfold bindL
    rw [bindL_out fun w hw => h w (List.mem_cons_of_mem _ hw)]
    split
    · have : x ≠ n := by rintro rfl; exact h v List.mem_cons_self
      simp [this]
    · rfl
theorem bindC_out {kindOf : Str → Option NameKind} {x : Str} : ∀ {binds : List (Str × Value)} {m : Str → Option Value}, (∀ v, (x, v) ∉ binds) → bindC kindOf binds m x = m x
  | [], _, _ => rfl
  | (n, v) :: r, m, h => by
    unfold bindC
    rw [bindC_out fun w hw => h w (List.mem_cons_of_mem _ hw)]
    split
    · rfl
    · have : x ≠ n := by rintro rfl; exact h v List.mem_cons_self
      simp [this]
theorem bindL_get {kindOf : Str → Option NameKind} {x : Str} {v : Value} : ∀ {P : List Str} {vs : List Value} {i : Nat} {m : Str → Option Value}, P.Nodup → P[i]? = some x → vs[i]? = some v → kindOf x = some .local →
    bindL kindOf (P.zip vs) m x = some v
  | [], _, _, _, _, h, _, _ => by simp at h
  | _ :: _, [], _, _, _, _, h, _ => by simp at h
  | p :: P, w :: vs, 0, m, nd, h1, h2, hk => by
    simp at h1 h2; subst h1; subst h2
    show bindL kindOf ((p, w) :: P.zip vs) m p = _
    unfold bindL
    rw [bindL_out fun v hv => (List.nodup_cons.mp nd).1 (List.of_mem_zip hv).1, if_pos hk]
    simp
  | p :: P, w :: vs, i + 1, m, nd, h1, h2, hk => by
    show bindL kindOf ((p, w) :: P.zip vs) m x = _
    unfold bindL
    exact bindL_get (i := i) (List.nodup_cons.mp nd).2 (by simpa using h1) (by simpa using h2) hk
theorem bindC_get {kindOf : Str → Option NameKind} {x : Str} {v : Value} : ∀ {P : List Str} {vs : List Value} {i : Nat} {m : Str → Option Value}, P.Nodup → P[i]? = some x → vs[i]? = some v → kindOf x ≠ some .local →
    bindC kindOf (P.zip vs) m x = some v
  | [], _, _, _, _, h, _, _ => by simp at h
  | _ :: _, [], _, _, _, _, h, _ => by simp at h
  | p :: P, w :: vs, 0, m, nd, h1, h2, hk => by
    simp at h1 h2; subst h1; subst h2
    show bindC kindOf ((p, w) :: P.zip vs) m p = _
    unfold bindC
    rw [bindC_out fun v hv => (List.nodup_cons.mp nd).1 (List.of_mem_zip hv).1, if_neg hk]
    simp
  | p :: P, w :: vs, i + 1, m, nd, h1, h2, hk => by
    show bindC kindOf ((p, w) :: P.zip vs) m x = _
    unfold bindC
    exact bindC_get (i := i) (List.nodup_cons.mp nd).2 (by simpa using h1) (by simpa using h2) hk
def start (N : List Str) (vs : List V) : St := vs.map some ++ List.replicate (N.length - vs.length) none
def cxOf (CX : CXT) (P : Program) (w : World) (K : PySem.W.Frag) (mg : Str → Option Value) (base : Heap) (N : List Str) (qual : Str) (scope : Scope) (f : Addr) (cd : Value) (A : Around) (outer : List Env) (s : Shared) (H : Hp) (E : XK) : Cx where
  prog := P
  w := w
  K := K
  mg := mg
  base := base
  A := A.deeper (envOfC qual scope s.heap.objs.size f cd)
  N := N
  s₀ := s
  H₀ := H
  env := envOfC qual scope s.heap.objs.size f cd
  outer := outer
  stack := envOfC qual scope s.heap.objs.size f cd :: outer
  ex := []
  calm := true
  fn := fun _ => true
  pn := []
  xe := fun e s' => wpAny (model P w) (A.deeper (envOfC qual scope s.heap.objs.size f cd)) (leaving (envOfC qual scope s.heap.objs.size f cd) e) (fun _ s'' => CX outer H s E e s'') (fun e' s'' => CX outer H s E e' s'') s'
theorem cell_has {sc : Scope} {n : Nat} {x : Str} (h : sc.names.lookup x = some .cell) : ∃ c, (cellsFrom n sc.names []).lookup x = some c := by
  have q := PySem.W.cellsFrom_some sc.names n [] (.inl h)
  exact Option.isSome_iff_exists.mp q
theorem inv_start {CX : CXT} {P : Program} {w : World} {K : PySem.W.Frag} {mg : Str → Option Value} {base : Heap} {N ps : List Str} {qual : Str} {scope : Scope} {f : Addr} {cd : Value} {A : Around} {outer : List Env} {s s1 : Shared} {H : Hp} {E : XK} {us : List Value} {vs : List V}
    (S : FnScope N ps scope) (hd : A.handled = none) (e0 : Env0 P w K mg base A outer s H) (hl : vs.length = ps.length) (r : Vals vs us)
    (x : InCallC s s.heap.objs.size (bindL (envOfC qual scope s.heap.objs.size f cd).kindOf (ps.zip us) fun _ => none) (cellsFrom (s.heap.objs.size + 1) scope.names []) (bindC (envOfC qual scope s.heap.objs.size f cd).kindOf (ps.zip us) fun _ => none) s1) :
    Inv (cxOf CX P w K mg base N qual scope f cd A outer s H E) [] (start N vs) H s1 := by
  have hpl : ps.length ≤ N.length := by have := congrArg List.length S.pre; rw [List.length_take] at this; omega
  obtain ⟨h1, tk, rfl, hk⟩ := x.done
  have noA : ∀ b : Addr, b ∉ (cxOf CX P w K mg base N qual scope f cd A outer s H E).ex := fun b z => absurd (show b ∈ ([] : List Addr) from z) (by simp)
  refine ⟨⟨e0.mod, S.kind, rfl, rfl, Nat.le_refl _, fun y z c h1 h2 => ?_, fun y hy => ?_, fun y c _ h => ?_, fun _ => hd, Around.frames_deeper e0.frames, .inr ⟨rfl, rfl⟩, fun b z => absurd z (noA b), e0.bs, e0.bsz, fun b _ _ => noA b, fun b z => absurd z (noA b), e0.funs, e0.frf⟩,
    rfl, e0.bare, Un.kept hk, ⟨_, x.toInCall.ns, fun i y v h1 h2 h3 => ?_⟩, fun y c h => ⟨_, x.cell y c h⟩, e0.hok.fresh (Nat.le_refl _), fun y c h => ?_, fun p hp => absurd (show p ∈ ([] : List (Addr × Obj)) from hp) (by simp), e0.hok.kept hk, ?_⟩
  · exact name_of_addr x.apart (PySem.mem_of_lookup h1) (PySem.mem_of_lookup h2)
  · have hy : scope.names.lookup y = some .cell ∨ scope.names.lookup y = some .free := hy
    rcases hy with hy | hy
    · exact cell_has hy
    · exact absurd rfl (S.nofree _ (PySem.mem_of_lookup hy))
  · exact Nat.le_of_lt (x.above y c (PySem.mem_of_lookup h))
  · have hi : i < vs.length := by
      unfold start at h2
      by_cases hi : i < vs.length
      · exact hi
      · rw [List.getElem?_append_right (by simpa using hi)] at h2
        rw [List.getElem?_replicate] at h2
        split at h2 <;> cases h2
    have ha : vs[i]? = some v := by
      unfold start at h2
      rw [List.getElem?_append_left (by simpa using hi), List.getElem?_map] at h2
      cases e : vs[i]? with
      | none => rw [e] at h2; cases h2
      | some a => rw [e] at h2; cases h2; rfl
    obtain ⟨u, hu, rv⟩ := r.get ha
    have hp : ps[i]? = some y := by
      rw [← S.pre, List.getElem?_take_of_lt (by omega)]; exact h1
    have ndP : ps.Nodup := by rw [← S.pre]; exact S.nd.sublist (List.take_sublist _ _)
    refine ⟨u, rv, ?_⟩
    rcases S.par y (List.mem_of_getElem? hp) with k | k
    · exact .inl ⟨k, bindL_get ndP hp hu k⟩
    · obtain ⟨c, e⟩ := cell_has (n := s.heap.objs.size + 1) k
      refine .inr ⟨.inl k, c, e, ?_⟩
      have q := x.cell y c e
      rw [bindC_get ndP hp hu (by show scope.names.lookup y ≠ _; rw [k]; decide)] at q
      exact q
  · exact e0.hok.fresh (Nat.le_of_lt (x.above y c (PySem.mem_of_lookup h)))
  · unfold start
    show _ = N.length
    rw [List.length_append, List.length_map, List.length_replicate]
    omega
theorem fn_of {CX : CXT} {P : Program} {w : World} {K : PySem.W.Frag} {mg : Str → Option Value} {base : Heap} {k : Nat} {f : Addr} {name qual : Str} {params : Arguments} {body : List Stmt} {scope : Scope} {dV kV doc pm cdv ct oc : Value} {an od : Option Addr}
    {osl : Array (Option Value)} {N ps : List Str} {sp : Sp} (lk : K.lookup f = some ⟨oc, od, .func (PySem.W.fnOf name qual params body scope dV kV doc pm an cdv ct), osl⟩) (hcd : PySem.W.codeIn K cdv qual = true) (S : FnScope N ps scope)
    (len : ∀ vs H Q E, sp vs H Q E → vs.length = ps.length)
    (hbody : ∀ (A : Around) (outer : List Env) (s : Shared) (H : Hp) (vs : List V) (Q : VK) (E : XK), Room k (A.deeper (envOfC qual scope s.heap.objs.size f cdv)) → sp vs H Q E →
      ∃ t, PSs (cxOf CX P w K mg base N qual scope f cdv A outer s H E) body t ∧ t { nx := fun _ H' => Q .non H', rt := Q } (start N vs) H) :
    FnOk P w K mg base CX (k + 1) f (PySem.W.fnOf name qual params body scope dV kV doc pm an cdv ct) ps sp := by
  refine ⟨len, fun A outer s H args us vs Q E hr e0 hb r hsp => ?_⟩
  have hl := len _ _ _ _ hsp
  have KX : K.In s.heap := e0.mod.kin.keeps fun b o e => (e0.bs b o e).1
  have lim : s.heap.NoLimit := e0.mod.nolimit.keeps fun b o e => (e0.bs b o e).1
  have hkind : ∀ y ∈ ps.zip us, scope.names.lookup y.1 = some .local ∨ (scope.names.lookup y.1 = some .cell ∧ ((cellsFrom (s.heap.objs.size + 1) scope.names []).lookup y.1).isSome = true) := fun ⟨n, v⟩ hy => by
    rcases S.par n (List.of_mem_zip hy).1 with q | q
    · exact .inl q
    · exact .inr ⟨q, PySem.W.cellsFrom_some _ _ _ (.inl q)⟩
  refine codeAny_call_function hr.depth (KX _ _ lk) rfl S.co S.gen rfl (PySem.W.codeRec_of KX hcd) (hb _ _ _ _ ?_)
  refine wpAny_newFunctionEnv_cells S.kind hkind fun env he s1 x => ?_
  subst he
  refine ⟨lim.keeps x.toInCall.keep, codeAny_func ?_⟩
  obtain ⟨t, ht, hq⟩ := hbody A outer s H vs Q E (hr.deeper _) hsp
  have I : Inv (cxOf CX P w K mg base N qual scope f cdv A outer s H E) [] (start N vs) H s1 := inv_start S hr.hd e0 hl r x
  refine wpAny_mono (ht [] s1 (start N vs) H _ I hq) (fun fl s' hs => ?_) fun e s' hs => hs
  have fin : ∀ {σ' : St} {H' : Hp} {v : V} {u : Value}, Inv (cxOf CX P w K mg base N qual scope f cdv A outer s H E) [] σ' H' s' → RelV v u → Q v H' → CE outer P w H s Q u s' :=
    fun {σ' H' v u} J rv q => ⟨v, H', J.os, J.bare, J.base, J.hok, rv, q⟩
  cases fl with
  | ret u =>
    obtain ⟨v, σ', H', J, rv, q⟩ := hs
    exact fin J rv q
  | next =>
    obtain ⟨σ', H', J, q⟩ := hs
    exact fin (v := V.non) (u := Value.none) J rfl q
  | brk =>
    obtain ⟨_, _, _, q⟩ := hs
    exact False.elim q
  | cont =>
    obtain ⟨_, _, _, q⟩ := hs
    exact False.elim q
end L2
namespace L2
open PySem PySem.Spec PyProof.Rows
section
variable {X : Cx} {x : Str} {p pos : Pos} {e : Expr} {es : List Expr} {t : TA} {id T : String} {r : List V → Hp → VK → Prop}
def tCB (r : List V → Hp → VK → Prop) (t : TA) : TE := fun σ H Q => t σ H fun vs H1 => r vs H1 Q
theorem pe_callB (hc : CallR X (.builtin id) r) (hg : Gl X x) (hm : X.mg x = none) (hv : bootBuiltins x = some (.builtin id)) (ha : PA X (e :: es) t) (hn : x ≠ "__name__" := by decide) (hdb : (x == ("__debug__" : Str)) = false := by decide)
    (he : starEach (e :: es) X.env = (false, eval e X.env) :: starEach es X.env := by rfl) (hpl : (backTo pos (starEach es X.env)).any (·.1) = false := by rfl) : PE X (.Call (.Name x p) (e :: es) [] pos) (tCB r t) := by
  intro pins s σ H Q I h
  refine wpAny_Call_Name_kw (ld_blt I hg hm hv ?_ hn hdb)
  exact PyProof.Rows.callWith_builtin1 (thn (ha pos pins s σ H _ I h) fun us s1 ⟨vs, H1, I1, r1, q1⟩ => hc pins s1 σ H1 vs us Q I1 r1 q1) he hpl
theorem pe_callTy (hc : CallR X (.type T) r) (hg : Gl X x) (hm : X.mg x = none) (hv : bootBuiltins x = some (.type T)) (ha : PA X (e :: es) t) (hn : x ≠ "__name__" := by decide) (hdb : (x == ("__debug__" : Str)) = false := by decide)
    (he : starEach (e :: es) X.env = (false, eval e X.env) :: starEach es X.env := by rfl) (hpl : (backTo pos (starEach es X.env)).any (·.1) = false := by rfl) : PE X (.Call (.Name x p) (e :: es) [] pos) (tCB r t) := by
  intro pins s σ H Q I h
  refine wpAny_Call_Name_kw (ld_blt I hg hm hv ?_ hn hdb)
  exact PyProof.Rows.callWith_type1 (thn (ha pos pins s σ H _ I h) fun us s1 ⟨vs, H1, I1, r1, q1⟩ => hc pins s1 σ H1 vs us Q I1 r1 q1) he hpl
end
end L2
namespace HT
open PySem PyProof.Rows
section
open PySem.SeqAt
open PySem.AutoSeq1 (wpAny_loadPart')
open PySem.MeetsSeq PySem.MeetsSeq2 PySem.MeetsSeq3
end
section
variable {prog : Program} {w : World} {A : Around} {E : Value → Shared → Prop} {s : Shared}
end
end HT
namespace L2
open PySem PySem.Spec PyProof.Rows
abbrev TO := St → Hp → (Option Int → Hp → Prop) → Prop
theorem intsAre_of {ns : List Int} : ∀ {us : List Value}, Vals (ns.map V.int) us → IntsAre us ns := by
  induction ns with
  | nil => intro us r; rw [List.map_nil] at r; cases r; exact .nil
  | cons n ns ih =>
    intro us r
    rw [List.map_cons] at r
    cases r with
    | cons r1 r2 =>
      obtain ⟨t, e⟩ := r1
      subst e
      exact .cons n t (ih r2)
section
variable {X : Cx} {e : Expr} {te : TE} {lo hi : Option Expr} {tl th : TO} {pos p2 : Pos}
def SlR (X : Cx) (r : V → Option Int → Option Int → Hp → VK → Prop) : Prop :=
  ∀ (pins : List (Addr × Obj)) (s : Shared) (σ : St) (H : Hp) (x : V) (v vl vu : Value) (lo hi : Option Int) (sl : Addr) (Q : VK), Inv X pins σ H s → RelV x v → s.heap.IsSliceOf sl vl vu .none → IsPart vl lo → IsPart vu hi → r x lo hi H Q →
    ∃ T id, typeLookup (.type T) "__getitem__" = pure (some (.builtin id)) ∧ s.TypeIs v T ∧ wpAny (model X.prog X.w) X.A (getItem v (.ref sl)) (EP X pins σ Q) X.xe s
theorem SlR.or {r r' : V → Option Int → Option Int → Hp → VK → Prop} (h : SlR X r) (h' : SlR X r') : SlR X (fun x lo hi H Q => r x lo hi H Q ∨ r' x lo hi H Q) := by
  intro pins s σ H x v vl vu lo hi sl Q I rx hs pl pu q
  rcases q with q | q
  · exact h pins s σ H x v vl vu lo hi sl Q I rx hs pl pu q
  · exact h' pins s σ H x v vl vu lo hi sl Q I rx hs pl pu q
end
end L2
namespace L2
open PySem PySem.Spec PyProof.Rows
def ixN (n : Nat) (i : Int) : Option Nat := if 0 ≤ i then (if i < n then some i.toNat else none) else if -(n : Int) ≤ i then some (i + n).toNat else none
def atI {α : Type} (xs : List α) (i : Int) : Option α := (ixN xs.length i).bind fun j => xs[j]?
theorem ixN_seq {n : Nat} {i : Int} {j : Nat} (h : ixN n i = some j) : seqIndex? i n = some j ∧ j < n ∧ -(n : Int) ≤ i ∧ i < n := by
  unfold ixN at h
  by_cases h0 : 0 ≤ i
  · rw [if_pos h0] at h
    by_cases h1 : i < n
    · rw [if_pos h1] at h
      have e : i.toNat = j := Option.some.inj h
      exact ⟨by rw [seqIndex_of h0 h1, e], by omega, by omega, h1⟩
    · rw [if_neg h1] at h; cases h
  · rw [if_neg h0] at h
    by_cases h1 : -(n : Int) ≤ i
    · rw [if_pos h1] at h
      have e : (i + n).toNat = j := Option.some.inj h
      exact ⟨by rw [seqIndex_neg (by omega) h1, e], by omega, h1, by omega⟩
    · rw [if_neg h1] at h; cases h
theorem atI_get {α : Type} {xs : List α} {i : Int} {v : α} (h : atI xs i = some v) : ∃ j, seqIndex? i xs.length = some j ∧ xs[j]? = some v ∧ j < xs.length ∧ -(xs.length : Int) ≤ i ∧ i < xs.length := by
  unfold atI at h
  cases e : ixN xs.length i with
  | none => rw [e] at h; cases h
  | some j =>
    rw [e] at h
    obtain ⟨h1, h2, h3, h4⟩ := ixN_seq e
    exact ⟨j, h1, h, h2, h3, h4⟩
theorem atI_nat {α : Type} {xs : List α} {j : Nat} {v : α} (h : xs[j]? = some v) : atI xs (j : Int) = some v := by
  have hj : j < xs.length := (List.getElem?_eq_some_iff.mp h).1
  have e : ixN xs.length (j : Int) = some j := by
    unfold ixN
    rw [if_pos (by omega), if_pos (by omega)]; simp
  unfold atI; rw [e]; exact h
theorem atI_last {α : Type} (xs : List α) (v : α) : atI (xs ++ [v]) (-1) = some v := by
  have hl : (xs ++ [v]).length = xs.length + 1 := by simp
  have e : ixN (xs ++ [v]).length (-1) = some xs.length := by
    unfold ixN
    rw [hl, if_neg (by decide), if_pos (by omega)]
    congr 1
    omega
  unfold atI
  rw [e]
  show (xs ++ [v])[xs.length]? = some v
  simp
def PlainIx (b : Expr) : Prop := ∀ o i, subscripted b false o i = operate [o, i] (getItem o i)
def IxR (X : Cx) (r : R2) : Prop :=
  ∀ (value slice : Expr) (pins : List (Addr × Obj)) (s : Shared) (σ : St) (H : Hp) (x y : V) (v u : Value) (Q : VK), Inv X pins σ H s → RelV x v → RelV y u → r x y H Q →
    subscripted slice false v u = operate [v, u] (getItem v u) → wpAny (model X.prog X.w) X.A (subscriptTail value slice v u) (EP X pins σ Q) X.xe s
def MtR (X : Cx) (id : String) (r : V → List V → Hp → VK → Prop) : Prop :=
  ∀ (pins : List (Addr × Obj)) (s : Shared) (σ : St) (H : Hp) (x : V) (xs : List V) (v : Value) (us : List Value) (Q : VK), Inv X pins σ H s → RelV x v → Vals xs us → r x xs H Q →
    wpAny (model X.prog X.w) X.A (call (.builtin id) (v :: us)) (EP X pins σ Q) X.xe s
section
variable {X : Cx} {a b : Expr} {ta tb : TE} {pos : Pos}
theorem IxR.or {r r' : R2} (h : IxR X r) (h' : IxR X r') : IxR X (fun x y H Q => r x y H Q ∨ r' x y H Q) := by
  intro value slice pins s σ H x y v u Q I rx ry q hs
  rcases q with q | q
  · exact h value slice pins s σ H x y v u Q I rx ry q hs
  · exact h' value slice pins s σ H x y v u Q I rx ry q hs
theorem MtR.or {id : String} {r r' : V → List V → Hp → VK → Prop} (h : MtR X id r) (h' : MtR X id r') : MtR X id (fun x xs H Q => r x xs H Q ∨ r' x xs H Q) := by
  intro pins s σ H x xs v us Q I rx rs q
  rcases q with q | q
  · exact h pins s σ H x xs v us Q I rx rs q
  · exact h' pins s σ H x xs v us Q I rx rs q
theorem pe_ix {r : R2} (hr : IxR X r) (ha : PE X a ta) (hb : PE X b tb) (hs : PlainIx b) : PE X (.Subscript a b pos) (tOp r ta tb) := by
  intro pins s σ H Q I h
  exact Subscript_ (binT ha hb I h fun v u s2 x y H2 I2 rx ry q => hr a b pins s2 σ H2 x y v u Q I2 rx ry q (hs _ _))
def rIxL (K : PySem.W.Frag) : R2 := fun x y H Q => ∃ p xs i v, x = .ref p ∧ y = .int i ∧ SqL K H p xs ∧ atI xs i = some v ∧ Q v H
def rIxT (K : PySem.W.Frag) : R2 := fun x y H Q => ∃ p xs i v, x = .ref p ∧ y = .int i ∧ SqT K H p xs ∧ atI xs i = some v ∧ Q v H
theorem ix_list : IxR X (rIxL X.K) := by
  intro value slice pins s σ H x y v u Q I rx ry h hs
  obtain ⟨p, xs, i, z, rfl, rfl, hq, he, q⟩ := h
  cases rx
  obtain ⟨t, rfl⟩ := ry
  obtain ⟨its, r, pl, hz⟩ := I.list hq
  obtain ⟨j, h1, h2, h3, h4, h5⟩ := atI_get he
  obtain ⟨w, ew, rw'⟩ := r.get h2
  have hl := r.length
  have hn := line63
  have fin : EP X pins σ Q w s := ⟨z, H, I, rw', q⟩
  by_cases h0 : 0 ≤ i
  · have hj : i.toNat = j := by
      rw [seqIndex_of h0 h5] at h1
      exact Option.some.inj h1
    exact item_listR pl.isList h0 (by omega) (by rw [hj]; simpa using ew) fin hs
  · have hj : (i + (its.toArray.size : Int)).toNat = j := by
      rw [seqIndex_neg (by omega) h4] at h1
      rw [List.size_toArray, ← hl]
      exact Option.some.inj h1
    exact subscriptTail_builtinR (x := w) pl.isList.typeIs slot_list_getitem.lookup
      (wpAny_getItem_list_neg (Q := fun r s' => r = w ∧ EP X pins σ Q r s') pl.isList (by omega) (by rw [List.size_toArray] <;> omega) (by omega) (by rw [hj]; simpa using ew) ⟨rfl, fin⟩) hs
theorem ix_tup : IxR X (rIxT X.K) := by
  intro value slice pins s σ H x y v u Q I rx ry h hs
  obtain ⟨p, xs, i, z, rfl, rfl, hq, he, q⟩ := h
  cases rx
  obtain ⟨t, rfl⟩ := ry
  obtain ⟨its, r, pl, hz⟩ := I.tuple hq
  obtain ⟨j, h1, h2, h3, h4, h5⟩ := atI_get he
  obtain ⟨w, ew, rw'⟩ := r.get h2
  have hl := r.length
  have hn := line63
  have fin : EP X pins σ Q w s := ⟨z, H, I, rw', q⟩
  exact subscriptTail_builtinR (x := w) pl.typeIs slot_tuple_getitem.lookup
    (getItem_tuple (j := j) (Q := fun r s' => r = w ∧ EP X pins σ Q r s') pl (by omega) (by omega) (by rw [List.size_toArray, ← hl]; exact h1) (by simpa using ew) ⟨rfl, fin⟩) hs
theorem Inv.lst {pins : List (Addr × Obj)} {σ : St} {H : Hp} {s : Shared} {p : Addr} {xs : List V} (I : Inv X pins σ H s) (h : H p = some (.lst xs)) :
    ∃ (its : List Value) (n : Nat), Vals xs its ∧ s.heap.get? p = some { cls := .type "list", data := .seq its.toArray n } ∧ xs.length ≤ sizeLine := by
  obtain ⟨z, its, n, r, e⟩ := I.hok p _ h
  exact ⟨its, n, r, e, z⟩
def flatV : V → Bool
  | .non => true
  | .bl _ => true
  | .int _ => true
  | .str _ => true
  | _ => false
def eqV : V → V → Bool
  | .non, .non => true
  | .bl a, .bl b => a == b
  | .bl a, .int b => (if a then 1 else 0) == b
  | .int a, .bl b => a == (if b then 1 else 0)
  | .int a, .int b => a == b
  | .str a, .str b => a == b
  | _, _ => false
theorem eqAt_V {A : Around} {s : Shared} {y x : V} {u v : Value} (ry : RelV y u) (rx : RelV x v) (fy : flatV y = true) (fx : flatV x = true) : SeqAt.EqAt A s u v (eqV y x) := by
  cases y with
  | non =>
    cases ry
    cases x with
    | non => cases rx; exact SeqAt.EqAt.same _
    | bl b => cases rx; exact SeqAt.EqAt.none_bool b
    | int b => obtain ⟨t, rfl⟩ := rx; exact SeqAt.EqAt.none_int b t
    | str b => obtain ⟨t, rfl⟩ := rx; exact SeqAt.EqAt.none_str b t
    | _ => exact absurd (show false = true from fx) Bool.false_ne_true
  | bl a =>
    cases ry
    cases x with
    | non => cases rx; exact SeqAt.EqAt.bool_none a
    | bl b => cases rx; exact SeqAt.EqAt.bool_bool a b
    | int b => obtain ⟨t, rfl⟩ := rx; exact SeqAt.EqAt.bool_int a b t
    | str b => obtain ⟨t, rfl⟩ := rx; exact SeqAt.EqAt.bool_str a b t
    | _ => exact absurd (show false = true from fx) Bool.false_ne_true
  | int a =>
    obtain ⟨t', rfl⟩ := ry
    cases x with
    | non => cases rx; exact SeqAt.EqAt.int_none a t'
    | bl b => cases rx; exact SeqAt.EqAt.int_bool a t' b
    | int b => obtain ⟨t, rfl⟩ := rx; exact SeqAt.EqAt.int_int a t' b t
    | str b => obtain ⟨t, rfl⟩ := rx; exact SeqAt.EqAt.int_str a t' b t
    | _ => exact absurd (show false = true from fx) Bool.false_ne_true
  | str a =>
    obtain ⟨t', rfl⟩ := ry
    cases x with
    | non => cases rx; exact SeqAt.EqAt.str_none a t'
    | bl b => cases rx; exact SeqAt.EqAt.str_bool a t' b
    | int b => obtain ⟨t, rfl⟩ := rx; exact SeqAt.EqAt.str_int a t' b t
    | str b => obtain ⟨t, rfl⟩ := rx; exact SeqAt.EqAt.str_str a t' b t
    | _ => exact absurd (show false = true from fx) Bool.false_ne_true
  | _ => exact absurd (show false = true from fy) Bool.false_ne_true
def eqU (x : V) (u : Value) : Bool := match u with
  | .none => eqV .non x
  | .bool b => eqV (.bl b) x
  | .int i _ => eqV (.int i) x
  | .str z _ => eqV (.str z) x
  | _ => false
theorem eqU_of {x y : V} {u : Value} (r : RelV y u) (f : flatV y = true) : eqU x u = eqV y x := by
  cases y with
  | non => cases r; rfl
  | bl b => cases r; rfl
  | int i => obtain ⟨t, rfl⟩ := r; rfl
  | str z => obtain ⟨t, rfl⟩ := r; rfl
  | _ => exact absurd (show false = true from f) Bool.false_ne_true
theorem any_eqU {x : V} : ∀ {xs : List V} {us : List Value}, Vals xs us → xs.all flatV = true → us.any (eqU x) = xs.any fun y => eqV y x
  | _, _, .nil, _ => rfl
  | y :: xs, u :: us, .cons r t, f => by
    rw [List.all_cons, Bool.and_eq_true] at f
    rw [List.any_cons, List.any_cons, eqU_of r f.1, any_eqU t f.2]
theorem mem_eqAt {A : Around} {s : Shared} {x : V} {v : Value} (rx : RelV x v) (fx : flatV x = true) : ∀ {xs : List V} {us : List Value}, Vals xs us → xs.all flatV = true → ∀ u ∈ us, SeqAt.EqAt A s u v (eqU x u)
  | _, _, .nil, _ => fun u hu => by cases hu
  | y :: xs, u :: us, .cons r t, f => fun u' hu => by
    rw [List.all_cons, Bool.and_eq_true] at f
    rcases List.mem_cons.mp hu with rfl | hu
    · rw [eqU_of r f.1]; exact eqAt_V r rx f.1 fx
    · exact mem_eqAt rx fx t f.2 u' hu
def inV (x : V) (xs : List V) : Bool := xs.any fun y => eqV y x
def rIn (K : PySem.W.Frag) (neg : Bool) : R2 := fun x y H Q => ∃ p xs, y = .ref p ∧ (SqL K H p xs ∨ SqT K H p xs) ∧ flatV x = true ∧ xs.all flatV = true ∧ Q (.bl (if neg then !inV x xs else inV x xs)) H
theorem op_in_seq : OpR X (compareOp .In) (rIn X.K false) := by
  intro pins s σ H x y v u Q I rx ry h
  obtain ⟨p, xs, rfl, hq, fx, fs, q⟩ := h
  cases ry
  rcases hq with hq | hq
  · obtain ⟨its, r, pl, hz⟩ := I.list hq
    refine SeqAt.in_listAt (eqU x) pl.isList (fun w hw => mem_eqAt rx fx r fs w (by simpa using hw)) ⟨.bl _, H, I, rfl, ?_⟩
    rw [show its.toArray.any (eqU x) = its.any (eqU x) by simp, any_eqU r fs]
    exact q
  · obtain ⟨its, r, pl, hz⟩ := I.tuple hq
    refine SeqAt.in_tupleAt (eqU x) pl (fun w hw => mem_eqAt rx fx r fs w (by simpa using hw)) ⟨.bl _, H, I, rfl, ?_⟩
    rw [show its.toArray.any (eqU x) = its.any (eqU x) by simp, any_eqU r fs]
    exact q
theorem op_notIn_seq : OpR X (compareOp .NotIn) (rIn X.K true) := by
  intro pins s σ H x y v u Q I rx ry h
  obtain ⟨p, xs, rfl, hq, fx, fs, q⟩ := h
  cases ry
  rcases hq with hq | hq
  · obtain ⟨its, r, pl, hz⟩ := I.list hq
    refine SeqAt.notIn_listAt (eqU x) pl.isList (fun w hw => mem_eqAt rx fx r fs w (by simpa using hw)) ⟨.bl _, H, I, rfl, ?_⟩
    rw [show its.toArray.any (eqU x) = its.any (eqU x) by simp, any_eqU r fs]
    exact q
  · obtain ⟨its, r, pl, hz⟩ := I.tuple hq
    refine SeqAt.notIn_tupleAt (eqU x) pl (fun w hw => mem_eqAt rx fx r fs w (by simpa using hw)) ⟨.bl _, H, I, rfl, ?_⟩
    rw [show its.toArray.any (eqU x) = its.any (eqU x) by simp, any_eqU r fs]
    exact q
theorem call_len_seq : CallR X (.builtin "len") (fun xs H Q => ∃ p ys, xs = [.ref p] ∧ (SqL X.K H p ys ∨ SqT X.K H p ys) ∧ Q (.int ys.length) H) := by
  intro pins s σ H xs us Q I r h
  obtain ⟨p, ys, rfl, hq, q⟩ := h
  obtain ⟨u, rfl, rx⟩ := vals1 r
  cases rx
  have hn := line63
  rcases hq with hq | hq
  · obtain ⟨its, r', pl, hz⟩ := I.list hq
    have hlen := r'.length
    exact Calls.call_len_list pl.isList (by simp only [List.size_toArray] <;> omega) ⟨.int ys.length, H, I.tok _, ⟨s.toks + 1, by rw [List.size_toArray, hlen]⟩, q⟩
  · obtain ⟨its, r', pl, hz⟩ := I.tuple hq
    have hlen := r'.length
    exact len_tuple pl (by simp only [List.size_toArray] <;> omega) ⟨.int ys.length, H, I.tok _, ⟨s.toks + 1, by rw [List.size_toArray, hlen]⟩, q⟩
theorem CallR.or {f : Value} {r r' : List V → Hp → VK → Prop} (h : CallR X f r) (h' : CallR X f r') : CallR X f (fun xs H Q => r xs H Q ∨ r' xs H Q) := by
  intro pins s σ H xs us Q I rs q
  rcases q with q | q
  · exact h pins s σ H xs us Q I rs q
  · exact h' pins s σ H xs us Q I rs q
theorem call_list_of : CallR X (.type "list") (fun xs H Q => ∃ p ys, xs = [.ref p] ∧ (SqL X.K H p ys ∨ SqT X.K H p ys) ∧ ∀ l, H l = none → Q (.ref l) (upd H l (.lst ys))) := by
  intro pins s σ H xs us Q I r h
  obtain ⟨p, ys, rfl, hq, q⟩ := h
  obtain ⟨u, rfl, rx⟩ := vals1 r
  cases rx
  have fin : ∀ (its : List Value), Vals ys its → ys.length ≤ sizeLine → ∀ (h' : Heap) (c' : Nat), (∀ b o', s.heap.get? b = some o' → h'.get? b = some o') →
      h'.get? s.heap.objs.size = some { cls := .type "list", dict := none, data := .seq its.toArray c', slots := #[] } → EP X pins σ Q (.ref s.heap.objs.size) { s with heap := h' } := fun its r' hz h' c' kp e =>
    ⟨.ref s.heap.objs.size, _, I.laid (t' := s.toks) kp (Nat.le_refl _) (show ObjOk X.prog X.w _ h' _ (.lst ys) from ⟨hz, its, c', r', e⟩), rfl, q _ (I.hok.fresh (Nat.le_refl _))⟩
  rcases hq with hq | hq
  · obtain ⟨its, r', pl, hz⟩ := I.list hq
    have hlen := r'.length
    obtain ⟨o, ho, hc, n, hd⟩ := pl.isList
    exact call_list_seq p (.inl rfl) ho hc hd (fun h' c' kp e => fin its r' hz h' c' kp e) (by simp only [List.size_toArray] <;> omega)
  · obtain ⟨its, r', pl, hz⟩ := I.tuple hq
    have hlen := r'.length
    obtain ⟨o, ho, hc, n, hd⟩ := pl
    exact call_list_seq p (.inr rfl) ho hc hd (fun h' c' kp e => fin its r' hz h' c' kp e) (by simp only [List.size_toArray] <;> omega)
def tyV (K : PySem.W.Frag) (T : String) (x : V) (H : Hp) : Prop := match x with
  | .str _ => T = "str"
  | .int _ => T = "int"
  | .ref p => (T = "list" ∧ ∃ xs, SqL K H p xs) ∨ (T = "tuple" ∧ ∃ o, K.lookup p = some o ∧ o.cls = .type "tuple" ∧ o.dict = none) ∨
      (T = "dict" ∧ ((∃ kvs, H p = some (.dK kvs)) ∨ ∃ kvs, H p = some (.dT kvs))) ∨ (T = "set" ∧ ∃ S n, H p = some (.set S n))
  | _ => False
theorem tyV_is {pins : List (Addr × Obj)} {σ : St} {H : Hp} {s : Shared} {T : String} {x : V} {v : Value} (I : Inv X pins σ H s) (r : RelV x v) (ty : tyV X.K T x H) :
    s.TypeIs v T ∧ ∀ a, v = .ref a → ∃ ob, s.heap.get? a = some ob ∧ ob.dict = none := by
  cases x with
  | str z =>
    obtain ⟨t, rfl⟩ := r
    cases (show T = "str" from ty)
    exact ⟨typeIs_str s z t, fun _ e => nomatch e⟩
  | int i =>
    obtain ⟨t, rfl⟩ := r
    cases (show T = "int" from ty)
    exact ⟨typeIs_int s i t, fun _ e => nomatch e⟩
  | ref p =>
    cases r
    rcases ty with ⟨rfl, xs, hq⟩ | ⟨rfl, o, hk, hc, hd⟩ | ⟨rfl, hk⟩ | ⟨rfl, S, n, hk⟩
    · obtain ⟨its, _, pl, _⟩ := I.list hq
      refine ⟨pl.isList.typeIs, fun a e => ?_⟩
      cases e
      obtain ⟨o, n, e, c, hd, _⟩ := pl
      exact ⟨o, e, hd⟩
    · refine ⟨⟨o, I.kIn p o hk, hc⟩, fun a e => ?_⟩
      cases e
      exact ⟨o, I.kIn _ o hk, hd⟩
    · have z : ∃ o, s.heap.get? p = some o ∧ o.ExactDict := by
        rcases hk with ⟨kvs, hk⟩ | ⟨kvs, hk⟩
        · obtain ⟨_, _, _, _, o, _, _, e, ex, _⟩ := I.hok p _ hk
          exact ⟨o, e, ex⟩
        · obtain ⟨_, _, _, _, o, _, _, e, ex, _⟩ := I.hok p _ hk
          exact ⟨o, e, ex⟩
      obtain ⟨o, e, ex⟩ := z
      refine ⟨⟨o, e, ex.1⟩, fun a e2 => ?_⟩
      cases e2
      exact ⟨o, e, ex.2.1⟩
    · obtain ⟨o, _, _, _, e, ex, _⟩ := I.hok p _ hk
      refine ⟨⟨o, e, ex.1⟩, fun a e2 => ?_⟩
      cases e2
      exact ⟨o, e, ex.2.1⟩
  | _ => exact False.elim ty
def tBM0 (K : PySem.W.Frag) (T : String) (r : V → List V → Hp → VK → Prop) (to : TE) : TE := fun σ H Q => to σ H fun x H1 => tyV K T x H1 ∧ r x [] H1 Q
def tBM (K : PySem.W.Frag) (T : String) (r : V → List V → Hp → VK → Prop) (to : TE) (t : TA) : TE := fun σ H Q => to σ H fun x H1 => tyV K T x H1 ∧ t σ H1 fun xs H2 => r x xs H2 Q
variable {o e : Expr} {es : List Expr} {to : TE} {t : TA} {name : Str} {apos cpos : Pos} {T id : String} {r : V → List V → Hp → VK → Prop}
theorem pe_bm0 (pa : PlainAttrs T) (slot : Slot T name id) (hty : typeOf (.builtin id) = pure (.type "method_descriptor")) (hm : MtR X id r) (ho : PE X o to)
    (hbase : attributeBase o name X.env (eval o X.env) = eval o X.env := by rfl) (hline : (apos.endLine == cpos.line) = true := by rfl) : PE X (.Call (.Attribute o name apos) [] [] cpos) (tBM0 X.K T r to) := by
  intro pins s σ H Q I h
  refine wpAny_Call_method0_late hbase hline (thn (ho pins s σ H _ I h) fun v s1 ⟨x, H1, I1, r1, ty, q1⟩ => ?_)
  obtain ⟨h1, h2⟩ := tyV_is I1 r1 ty
  exact ⟨T, id, pa, slot, hty, h1, h2, Calls.callWith_builtin rfl (PySem.evalArgs_none (hm pins s1 σ H1 x [] v [] Q I1 r1 .nil q1))⟩
theorem pe_bm (pa : PlainAttrs T) (slot : Slot T name id) (hty : typeOf (.builtin id) = pure (.type "method_descriptor")) (hm : MtR X id r) (ho : PE X o to) (ha : PA X (e :: es) t)
    (hbase : attributeBase o name X.env (eval o X.env) = eval o X.env := by rfl)
    (hfew : ((backTo cpos (starEach (e :: es) X.env)).all (fun x => !x.1) && (backToKw cpos (keywordEach [] X.env)).all (fun x => x.1.isSome)
      && decide ((e :: es).length + ([] : List Keyword).length + (if ([] : List Keyword).isEmpty then 0 else 1) < 30)) = true := by rfl)
    (hline : (apos.endLine == cpos.line) = true := by rfl) (hs : starEach (e :: es) X.env = (false, eval e X.env) :: starEach es X.env := by rfl) (hplain : (backTo cpos (starEach es X.env)).any (·.1) = false := by rfl) :
    PE X (.Call (.Attribute o name apos) (e :: es) [] cpos) (tBM X.K T r to t) := by
  intro pins s σ H Q I h
  refine wpAny_Call_method_late hbase hfew hline rfl (thn (ho pins s σ H _ I h) fun v s1 ⟨x, H1, I1, r1, ty, q1⟩ => ?_)
  obtain ⟨h1, h2⟩ := tyV_is I1 r1 ty
  refine ⟨T, id, pa, slot, hty, h1, h2, ?_⟩
  have hA := ha cpos pins s1 σ H1 _ I1 q1
  rw [hs] at hA ⊢
  refine Calls.callWith_builtin (by show (false || (backTo cpos (starEach es X.env)).any (·.1)) = false; rw [hplain] <;> rfl) (Calls.evalArgs_plain ?_)
  exact thn hA fun us s2 ⟨vs, H2, I2, r2, q2⟩ => hm pins s2 σ H2 x vs v us Q I2 r1 r2 q2
/- xs.append(e), list.index on a module's tuple .. are MtR facts of 06m -/
end
end L2
namespace L2
open PySem PySem.Spec PyProof.Rows
def MtM (X : Cx) (id : String) (r : V → List V → Hp → VK → Prop) : Prop :=
  ∀ (pins : List (Addr × Obj)) (s : Shared) (σ : St) (H : Hp) (x : V) (xs : List V) (v : Value) (us : List Value) (Q : VK), Inv X pins σ H s → RelV x v → Vals xs us → r x xs H Q →
    wpAny (model X.prog X.w) X.A (call (.builtin id) (v :: us)) (EP X pins σ Q) X.xe s
theorem Vals.one : ∀ {x : V} {us : List Value}, Vals [x] us → ∃ u, us = [u] ∧ RelV x u
  | _, _, .cons r .nil => ⟨_, rfl, r⟩
theorem Vals.two : ∀ {x y : V} {us : List Value}, Vals [x, y] us → ∃ u v, us = [u, v] ∧ RelV x u ∧ RelV y v
  | _, _, _, .cons r (.cons q .nil) => ⟨_, _, rfl, r, q⟩
theorem Vals.zero : ∀ {us : List Value}, Vals [] us → us = []
  | _, .nil => rfl
theorem Vals.dropLast {xs : List V} {us : List Value} (h : Vals xs us) : Vals xs.dropLast us.dropLast := by
  induction h with
  | nil => exact .nil
  | cons r t ih =>
    cases t with
    | nil => exact .nil
    | cons q t' => exact .cons r ih
theorem Vals.eraseIdx : ∀ {xs : List V} {us : List Value} (i : Nat), Vals xs us → Vals (xs.eraseIdx i) (us.eraseIdx i)
  | _, _, _, .nil => .nil
  | _, _, 0, .cons _ t => t
  | _, _, i + 1, .cons r t => .cons r (Vals.eraseIdx i t)
theorem Vals.reverse {xs : List V} {us : List Value} (h : Vals xs us) : Vals xs.reverse us.reverse := by
  induction h with
  | nil => exact .nil
  | cons r t ih => rw [List.reverse_cons, List.reverse_cons]; exact Vals.append ih (.cons r .nil)
theorem Vals.rep {xs : List V} {us : List Value} (h : Vals xs us) : ∀ k : Nat, Vals (List.replicate k xs).flatten (List.replicate k us).flatten
  | 0 => .nil
  | k + 1 => by
    rw [List.replicate_succ, List.replicate_succ, List.flatten_cons, List.flatten_cons]
    exact Vals.append h (Vals.rep h k)
theorem erase_last {α : Type} (l : List α) : l.eraseIdx (l.length - 1) = l.dropLast := by
  induction l with
  | nil => rfl
  | cons a r ih =>
    cases r with
    | nil => rfl
    | cons b r =>
      have e : (a :: b :: r).length - 1 = ((b :: r).length - 1) + 1 := by
        have h1 : (a :: b :: r).length = r.length + 2 := rfl
        have h2 : (b :: r).length = r.length + 1 := rfl
        omega
      rw [e, List.eraseIdx_cons_succ, ih]
      all_goals rfl
theorem len_erase {α : Type} : ∀ (l : List α) (i : Nat), (l.eraseIdx i).length ≤ l.length
  | [], _ => Nat.le_refl _
  | _ :: _, 0 => Nat.le_succ _
  | _ :: r, i + 1 => Nat.succ_le_succ (len_erase r i)
theorem foldl_rep (its : List Value) : ∀ (k : Nat) (acc : List Value),
    List.foldl (fun x1 x2 => x1 ++ x2) acc.toArray (List.replicate k its.toArray) = (acc ++ (List.replicate k its).flatten).toArray
  | 0, acc => by simp
  | k + 1, acc => by
    have e : acc.toArray ++ its.toArray = (acc ++ its).toArray := by simp
    have e2 : (acc ++ its) ++ (List.replicate k its).flatten = acc ++ (List.replicate (k + 1) its).flatten := by
      rw [List.replicate_succ, List.flatten_cons, List.append_assoc]
    rw [← e2, ← foldl_rep its k (acc ++ its), ← e, List.replicate_succ, List.foldl_cons]
section
variable {X : Cx} {pins : List (Addr × Obj)} {σ : St} {H : Hp} {s : Shared} {l b : Addr} {xs ys zs : List V}
theorem Inv.lset {its its' : List Value} {n : Nat} {f : Array Value → Array Value} {t' : Nat} (I : Inv X pins σ H s) (hH : H l = some (.lst xs))
    (e : s.heap.get? l = some { cls := .type "list", data := .seq its.toArray n }) (hf : f its.toArray = its'.toArray) (hv : Vals ys its') (hz : ys.length ≤ sizeLine) :
    Inv X pins σ (upd H l (.lst ys)) { s with heap := s.heap.update l (Obj.mapSeq f), toks := t' } := by
  have q := PySem.IsL.update e f
  rw [hf] at q
  refine I.write (x := l) (e := l) (by rw [hH]; exact trivial) (.inl rfl) (fun b' u hb hu => (Heap.get?_update_other s.heap (Obj.mapSeq f) (Ne.symm hb)).trans hu) ⟨_, q⟩ ?_
  exact ⟨hz, its', _, hv, q⟩
theorem Inv.lnew {its : List Value} {t' : Nat} (I : Inv X pins σ H s) (hv : Vals ys its) (hz : ys.length ≤ sizeLine) :
    Inv X pins σ (upd H s.heap.objs.size (.lst ys)) { s with heap := s.heap.push { cls := .type "list", data := .seq its.toArray }, toks := t' } :=
  I.laid (fun _ _ q => Heap.get?_push_of_some _ q) (Nat.le_refl _) ⟨hz, its, 0, hv, Heap.get?_push_size _ rfl⟩
theorem Inv.fresh (I : Inv X pins σ H s) : H s.heap.objs.size = none := I.hok.fresh (Nat.le_refl _)
theorem Inv.lstM (I : Inv X pins σ H s) (hH : H l = some (.lst xs)) : xs.length ≤ sizeLine ∧ ∃ (its : List Value) (n : Nat), Vals xs its ∧ xs.length = its.length ∧ s.heap.get? l = some { cls := .type "list", data := .seq its.toArray n } := by
  obtain ⟨z, its, n, r, e⟩ := I.hok l _ hH
  exact ⟨z, its, n, r, r.length, e⟩
theorem notLongL {n : Nat} (h : n ≤ sizeLine) : Builtin.List.listTooLong n = false := by
  unfold Builtin.List.listTooLong
  exact decide_eq_false (by omega)
end
section
variable {X : Cx}
def rAppend : V → List V → Hp → VK → Prop := fun x vs H Q => ∃ l xs y, x = .ref l ∧ vs = [y] ∧ H l = some (.lst xs) ∧ xs.length < sizeLine ∧ Q .non (upd H l (.lst (xs ++ [y])))
theorem mt_append : MtM X "list.append" rAppend := by
  intro pins s σ H x vs v us Q I rx rv h
  obtain ⟨l, xs, y, rfl, rfl, hH, hz, q⟩ := h
  cases rx
  obtain ⟨u, rfl, ru⟩ := rv.one
  obtain ⟨z, its, n, r, hl, e⟩ := I.lstM hH
  refine call_meets F.slot_list_append ⟨_, e, rfl⟩ F.entry_list_append (F.args_list_append_2 _ _) (PySem.list_append l its.toArray n u (by rw [List.size_toArray]; omega)) ⟨e, ?_⟩
  refine ⟨.non, _, I.lset (its' := its ++ [u]) hH e (by simp) (r.append (.cons ru .nil)) ?_, rfl, q⟩
  rw [List.length_append, List.length_singleton]
  omega
def rExtend : V → List V → Hp → VK → Prop := fun x vs H Q => ∃ l b xs zs, x = .ref l ∧ vs = [.ref b] ∧ H l = some (.lst xs) ∧ H b = some (.lst zs) ∧ xs.length + zs.length ≤ sizeLine ∧ Q .non (upd H l (.lst (xs ++ zs)))
theorem mt_extend : MtM X "list.extend" rExtend := by
  intro pins s σ H x vs v us Q I rx rv h
  obtain ⟨l, b, xs, zs, rfl, rfl, hH, hB, hz, q⟩ := h
  cases rx
  obtain ⟨u, rfl, ru⟩ := rv.one
  cases ru
  obtain ⟨z, its, n, r, hl, e⟩ := I.lstM hH
  obtain ⟨z2, its2, n2, r2, hl2, e2⟩ := I.lstM hB
  have hsz : its.toArray.size + its2.toArray.size ≤ sizeLine := by rw [List.size_toArray, List.size_toArray]; omega
  have hlong : ¬ (!its.toArray.isEmpty && Builtin.List.listTooLong (its.toArray.size + its2.toArray.size)) = true := by
    rw [notLongL hsz, Bool.and_false]
    exact Bool.false_ne_true
  refine call_meets F.slot_list_extend ⟨_, e, rfl⟩ F.entry_list_extend (F.args_list_extend_2 _ _)
    (AutoSeq1.list_extend_list_list_0 l its.toArray n b its2.toArray n2 hlong (by rw [List.size_toArray]; omega) (by omega)) ⟨e, e2, ?_⟩
  refine ⟨.non, _, I.lset (its' := its ++ its2) hH e (by simp) (r.append r2) ?_, rfl, q⟩
  rw [List.length_append]
  omega
def rPop : V → List V → Hp → VK → Prop := fun x vs H Q => ∃ l xs y, x = .ref l ∧ vs = [] ∧ H l = some (.lst xs) ∧ xs[xs.length - 1]? = some y ∧ Q y (upd H l (.lst xs.dropLast))
theorem mt_pop : MtM X "list.pop" rPop := by
  intro pins s σ H x vs v us Q I rx rv h
  obtain ⟨l, xs, y, rfl, rfl, hH, hy, q⟩ := h
  cases rx
  have hus := rv.zero
  subst hus
  obtain ⟨z, its, n, r, hl, e⟩ := I.lstM hH
  obtain ⟨u, hu, ru⟩ := r.get hy
  have hy' : its.toArray[its.toArray.size - 1]? = some u := by
    show its.toArray[its.length - 1]? = some u
    rw [← Array.getElem?_toList, ← hl]
    exact hu
  refine call_meets F.slot_list_pop ⟨_, e, rfl⟩ F.entry_list_pop (F.args_list_pop_1 _) (MeetsSeq.list_pop_last l its.toArray n u hy' (by rw [List.size_toArray]; omega)) ⟨e, ?_⟩
  refine ⟨y, _, I.lset (its' := its.dropLast) hH e ?_ r.dropLast ?_, ru, q⟩
  · show its.toArray.eraseIdxIfInBounds (its.toArray.size - 1) = its.dropLast.toArray
    rw [List.size_toArray, List.eraseIdxIfInBounds_toArray, erase_last]
  · rw [List.length_dropLast]
    omega
def rPopAt : V → List V → Hp → VK → Prop := fun x vs H Q => ∃ l xs i k y, x = .ref l ∧ vs = [.int i] ∧ H l = some (.lst xs) ∧ -(2 ^ 63) ≤ i ∧ i < 2 ^ 63 ∧ seqIndex? i xs.length = some k ∧ xs[k]? = some y ∧ Q y (upd H l (.lst (xs.eraseIdx k)))
theorem mt_popAt : MtM X "list.pop" rPopAt := by
  intro pins s σ H x vs v us Q I rx rv h
  obtain ⟨l, xs, i, k, y, rfl, rfl, hH, h1, h2, hk, hy, q⟩ := h
  cases rx
  obtain ⟨u, rfl, ru⟩ := rv.one
  obtain ⟨t, rfl⟩ := ru
  obtain ⟨z, its, n, r, hl, e⟩ := I.lstM hH
  obtain ⟨w, hw, rw'⟩ := r.get hy
  refine call_meets F.slot_list_pop ⟨_, e, rfl⟩ F.entry_list_pop (F.args_list_pop_2 _ _)
    (MeetsSeq.list_pop_at l its.toArray n i t k w (fitsIndex_both h1 h2) (by rw [List.size_toArray, ← hl]; exact hk) (by rw [← Array.getElem?_toList]; exact hw) (by rw [List.size_toArray]; omega)) ⟨e, ?_⟩
  refine ⟨y, _, I.lset (its' := its.eraseIdx k) hH e ?_ (r.eraseIdx k) ?_, rw', q⟩
  · show its.toArray.eraseIdxIfInBounds k = (its.eraseIdx k).toArray
    rw [List.eraseIdxIfInBounds_toArray]
  · have := len_erase xs k
    omega
def rReverse : V → List V → Hp → VK → Prop := fun x vs H Q => ∃ l xs, x = .ref l ∧ vs = [] ∧ H l = some (.lst xs) ∧ Q .non (upd H l (.lst xs.reverse))
theorem mt_reverse : MtM X "list.reverse" rReverse := by
  intro pins s σ H x vs v us Q I rx rv h
  obtain ⟨l, xs, rfl, rfl, hH, q⟩ := h
  cases rx
  have hus := rv.zero
  subst hus
  obtain ⟨z, its, n, r, hl, e⟩ := I.lstM hH
  refine call_meets F.slot_list_reverse ⟨_, e, rfl⟩ F.entry_list_reverse (F.args_list_reverse_1 _) (AutoSeq1.list_reverse_list_0 l its.toArray n (by rw [List.size_toArray]; omega)) ⟨e, ?_⟩
  refine ⟨.non, _, I.lset (its' := its.reverse) hH e (by simp) r.reverse ?_, rfl, q⟩
  rw [List.length_reverse]
  omega
def rRep : R2 := fun x y H Q => ∃ l k xs, x = .ref l ∧ y = .int k ∧ H l = some (.lst xs) ∧ -(2 ^ 63) ≤ k ∧ k < 2 ^ 63 ∧ xs.length * k.toNat ≤ sizeLine ∧
  ∀ p, H p = none → Q (.ref p) (upd H p (.lst (List.replicate k.toNat xs).flatten))
theorem len_rep {α : Type} (xs : List α) (k : Nat) : (List.replicate k xs).flatten.length = k * xs.length := by
  induction k with
  | zero => simp
  | succ k ih => rw [List.replicate_succ, List.flatten_cons, List.length_append, ih, Nat.succ_mul, Nat.add_comm]
theorem op_rep : OpR X (binaryOp .Mult) rRep := by
  intro pins s σ H x y v u Q I rx ry h
  obtain ⟨l, k, xs, rfl, rfl, hH, h1, h2, hz, q⟩ := h
  cases rx
  obtain ⟨t, rfl⟩ := ry
  obtain ⟨z, its, n, r, hl, e⟩ := I.lstM hH
  have hlen : its.toArray.size * k.toNat ≤ sizeLine := by rw [List.size_toArray, ← hl]; exact hz
  have hcap : ¬ its.toArray.size * k.toNat > (2 ^ 63 - 1) / 8 := by
    have : (sizeLine : Nat) ≤ (2 ^ 63 - 1) / 8 := by decide
    omega
  have hfit : ¬ (!Builtin.List.listFitsIndex k) = true := by
    rw [fitsIndex_both h1 h2]
    exact Bool.false_ne_true
  have hlong : ¬ Builtin.List.listTooLong (its.toArray.size * k.toNat) = true := by
    rw [notLongL hlen]
    exact Bool.false_ne_true
  have hnew : List.foldl (fun x1 x2 => x1 ++ x2) #[] (List.replicate (if its.toArray.isEmpty = true then 0 else k.toNat) its.toArray) = (List.replicate k.toNat its).flatten.toArray := by
    have f0 : ∀ m : Nat, List.foldl (fun x1 x2 => x1 ++ x2) #[] (List.replicate m its.toArray) = (List.replicate m its).flatten.toArray := fun m => by
      have := foldl_rep its m []
      rw [List.nil_append] at this
      exact this
    rw [f0]
    cases its with
    | nil => simp
    | cons a r' => rw [if_neg (by simp)]
  refine wpAny_binaryOp_repeat_ref (T := "list") (U := "int") (by decide) ⟨_, e, rfl⟩ (fun s' => typeIs_int s' k t) noFill_list_mul F.fills_int_mul F.slot_int_rmul repeat_list F.slot_int_index.lookup
    (call_meets F.slot_int_rmul (typeIs_int s k t) F.entry_int_rmul (F.args_int_rmul_2 _ _) (int___rmul___int_list k t l its.toArray n)
      ⟨e, rfl, ⟨_, e, rfl⟩, call_meets F.slot_list_mul ⟨_, e, rfl⟩ F.entry_list_mul (F.args_list_mul_2 _ _) (AutoListH.list___mul___list_int_3 l its.toArray n k t hfit hcap hlong) ⟨e, ?_⟩⟩)
  rw [hnew]
  exact ⟨.ref _, _, I.lnew (t' := s.toks) (r.rep k.toNat) (by rw [len_rep, Nat.mul_comm]; exact hz), rfl, q _ I.fresh⟩
end
section
variable {prog : Program} {w : World} {A : Around} {E : Value → Shared → Prop} {s : Shared}
set_option maxRecDepth 100000 in
end
section
variable {X : Cx}
end
end L2
namespace L2
open PySem PySem.Spec PyProof.Rows
section
variable {κ : Type} [DecidableEq κ]
def valV (kvs : List (κ × V)) (k : κ) : Option V := (kvs.find? fun kv => decide (kv.1 = k)).map (·.2)
def putK (kvs : List (κ × V)) (k : κ) (v : V) : List (κ × V) :=
  if (kvs.any fun kv => decide (kv.1 = k)) = true then kvs.map (fun kv => if kv.1 = k then (kv.1, v) else kv) else kvs ++ [(k, v)]
def dropK (kvs : List (κ × V)) (k : κ) : List (κ × V) := kvs.filter fun kv => decide (kv.1 ≠ k)
theorem valV_pos {p : κ × V} {r : List (κ × V)} {k : κ} (e : p.1 = k) : valV (p :: r) k = some p.2 := by simp [valV, List.find?_cons, e]
theorem valV_neg {p : κ × V} {r : List (κ × V)} {k : κ} (e : ¬ p.1 = k) : valV (p :: r) k = valV r k := by simp [valV, List.find?_cons, e]
theorem valV_any (k : κ) : ∀ kvs : List (κ × V), (kvs.any fun kv => decide (kv.1 = k)) = (valV kvs k).isSome
  | [] => rfl
  | p :: r => by
    rw [List.any_cons]
    by_cases e : p.1 = k
    · simp only [valV_pos e, decide_eq_true e, Bool.true_or, Option.isSome_some]
    · rw [valV_neg e, decide_eq_false e, Bool.false_or]; exact valV_any k r
theorem length_putK (kvs : List (κ × V)) (k : κ) (v : V) : (putK kvs k v).length ≤ kvs.length + 1 := by
  unfold putK
  split
  · rw [List.length_map]; omega
  · rw [List.length_append, List.length_cons, List.length_nil]; omega
theorem putK_new {kvs : List (κ × V)} {k : κ} (v : V) (h : valV kvs k = none) : putK kvs k v = kvs ++ [(k, v)] := by
  unfold putK
  rw [valV_any, h]
  exact if_neg (by decide)
theorem RelO.isSome_eq {o : Option V} {u : Option Value} (r : RelO o u) : o.isSome = u.isSome := by
  cases o with
  | none => cases u with
    | none => rfl
    | some _ => exact (show False from r).elim
  | some _ => cases u with
    | none => exact (show False from r).elim
    | some _ => rfl
theorem RelO.getD {o : Option V} {u : Option Value} {d : V} {d' : Value} (r : RelO o u) (rd : RelV d d') : RelV (o.getD d) (u.getD d') := by
  cases o with
  | none => cases u with
    | none => exact rd
    | some _ => exact (show False from r).elim
  | some _ => cases u with
    | none => exact (show False from r).elim
    | some _ => exact r
theorem KV.val {kvs : List (κ × V)} {vs : List (κ × Value)} (r : KV kvs vs) (k : κ) : RelO (valV kvs k) (valueAt vs k) := by
  unfold KV at r
  induction r with
  | nil => exact True.intro
  | @cons p q ps qs h t ih =>
    obtain ⟨h1, h2⟩ := h
    by_cases e : p.1 = k
    · have e' : q.1 = k := h1.symm.trans e
      have b : valueAt (q :: qs) k = some q.2 := by simp [valueAt, List.find?_cons, e']
      rw [valV_pos e, b]; exact h2
    · have e' : ¬ q.1 = k := fun z => e (h1.trans z)
      have b : valueAt (q :: qs) k = valueAt qs k := by simp [valueAt, List.find?_cons, e']
      rw [valV_neg e, b]; exact ih
theorem KV.any {kvs : List (κ × V)} {vs : List (κ × Value)} (r : KV kvs vs) (k : κ) : (kvs.any fun kv => decide (kv.1 = k)) = vs.any fun kv => decide (kv.1 = k) := by
  unfold KV at r
  induction r with
  | nil => rfl
  | cons h t ih => rw [List.any_cons, List.any_cons, ih, h.1]
theorem KV.repl {kvs : List (κ × V)} {vs : List (κ × Value)} (r : KV kvs vs) (k : κ) {y : V} {u : Value} (ry : RelV y u) :
    KV (kvs.map fun kv => if kv.1 = k then (kv.1, y) else kv) (vs.map fun kv => if kv.1 = k then (kv.1, u) else kv) := by
  unfold KV at r ⊢
  induction r with
  | nil => exact .nil
  | @cons p q ps qs h t ih =>
    rw [List.map_cons, List.map_cons]
    refine .cons ?_ ih
    obtain ⟨h1, h2⟩ := h
    by_cases e : p.1 = k
    · rw [if_pos e, if_pos (h1.symm.trans e)]; exact ⟨h1, ry⟩
    · rw [if_neg e, if_neg (fun z => e (h1.trans z))]; exact ⟨h1, h2⟩
theorem KV.put {kvs : List (κ × V)} {vs : List (κ × Value)} (r : KV kvs vs) (k : κ) {y : V} {u : Value} (ry : RelV y u) : KV (putK kvs k y) (stored vs k u) := by
  unfold putK stored
  rw [r.any k]
  by_cases e : (vs.any fun kv => decide (kv.1 = k)) = true
  · rw [if_pos e, if_pos e]; exact r.repl k ry
  · rw [if_neg e, if_neg e]; exact Paired.snoc r ⟨rfl, ry⟩
theorem KV.drop {kvs : List (κ × V)} {vs : List (κ × Value)} (r : KV kvs vs) (k : κ) : KV (dropK kvs k) (without vs k) := by
  unfold KV at r ⊢
  unfold dropK without
  induction r with
  | nil => exact .nil
  | @cons p q ps qs h t ih =>
    obtain ⟨h1, h2⟩ := h
    rw [List.filter_cons, List.filter_cons]
    by_cases e : p.1 = k
    · have a : ¬ decide (p.1 ≠ k) = true := by simp [e]
      have b : ¬ decide (q.1 ≠ k) = true := by simp [h1.symm.trans e]
      rw [if_neg a, if_neg b]; exact ih
    · have e' : ¬ q.1 = k := fun z => e (h1.trans z)
      have a : decide (p.1 ≠ k) = true := by simp [e]
      have b : decide (q.1 ≠ k) = true := by simp [e']
      rw [if_pos a, if_pos b]; exact .cons ⟨h1, h2⟩ ih
theorem KV.keys {kvs : List (κ × V)} {vs : List (κ × Value)} (r : KV kvs vs) : kvs.map (·.1) = vs.map (·.1) := by
  unfold KV at r
  induction r with
  | nil => rfl
  | cons h t ih => rw [List.map_cons, List.map_cons, ih, h.1]
theorem KV.length {kvs : List (κ × V)} {vs : List (κ × Value)} (r : KV kvs vs) : kvs.length = vs.length := Paired.length r
end
theorem kV_is {P : Program} {w : World} {k : Key} {u : Value} (r : RelV (kV k) u) : (mixKind P w).is k u = true := by
  cases k with
  | inl i => obtain ⟨t, e⟩ := (show ∃ t, u = Value.int i t from r); subst e; exact mixKind_int P w i t
  | inr x => obtain ⟨t, e⟩ := (show ∃ t, u = Value.str x t from r); subst e; exact mixKind_str P w x t
theorem items_are {P : Program} {w : World} : ∀ {ks : List Key} {us : List Value}, Vals (ks.map kV) us → ItemsAre (mixKind P w) ks us
  | [], _, r => by rw [List.map_nil] at r; cases r; exact .nil
  | k :: ks, _, r => by
    rw [List.map_cons] at r
    cases r with
    | cons h t => exact .cons (kV_is h) (items_are t)
abbrev KT (H : Hp) : List (List Key × V) → List (List Key × Addr × Value) → Prop := Paired fun p q => p.1 = q.1 ∧ H q.2.1 = some (.tup (p.1.map kV)) ∧ RelV p.2 q.2.2
theorem KT.val {H : Hp} {kvs : List (List Key × V)} {xs : List (List Key × Addr × Value)} (r : KT H kvs xs) (k : List Key) : RelO (valV kvs k) ((atKey xs k).map (·.2)) := by
  induction r with
  | nil => exact True.intro
  | @cons p q ps qs h t ih =>
    obtain ⟨h1, _, h2⟩ := h
    by_cases e : p.1 = k
    · have e' : q.1 = k := h1.symm.trans e
      have b : atKey (q :: qs) k = some q.2 := by simp [atKey, List.find?_cons, e']
      rw [valV_pos e, b]; exact h2
    · have e' : ¬ q.1 = k := fun z => e (h1.trans z)
      have b : atKey (q :: qs) k = atKey qs k := by simp [atKey, List.find?_cons, e']
      rw [valV_neg e, b]; exact ih
theorem KT.repl {H : Hp} {kvs : List (List Key × V)} {xs : List (List Key × Addr × Value)} (r : KT H kvs xs) (k : List Key) {y : V} {u : Value} (ry : RelV y u) :
    KT H (kvs.map fun kv => if kv.1 = k then (kv.1, y) else kv) (xs.map (putAt k u)) := by
  induction r with
  | nil => exact .nil
  | @cons p q ps qs h t ih =>
    rw [List.map_cons, List.map_cons]
    refine .cons ?_ ih
    obtain ⟨h1, h2, h3⟩ := h
    unfold putAt
    by_cases e : p.1 = k
    · rw [if_pos e, if_pos (h1.symm.trans e)]; exact ⟨h1, h2, ry⟩
    · rw [if_neg e, if_neg (fun z => e (h1.trans z))]; exact ⟨h1, h2, h3⟩
theorem KT.put {H : Hp} {kvs : List (List Key × V)} {xs : List (List Key × Addr × Value)} (r : KT H kvs xs) (k : List Key) {b : Addr} {y : V} {u : Value} (hb : H b = some (.tup (k.map kV))) (ry : RelV y u) :
    KT H (putK kvs k y) (storedH xs k b u) := by
  have e : (kvs.any fun kv => decide (kv.1 = k)) = (atKey xs k).isSome := by
    rw [valV_any, (r.val k).isSome_eq, Option.isSome_map]
  unfold putK storedH
  rw [e]
  by_cases q : (atKey xs k).isSome = true
  · rw [if_pos q, if_pos q]; exact r.repl k ry
  · rw [if_neg q, if_neg q]; exact Paired.snoc r ⟨rfl, hb, ry⟩
theorem KT.keeps {H H' : Hp} {kvs : List (List Key × V)} {xs : List (List Key × Addr × Value)} (r : KT H kvs xs) (ht : ∀ b ys, H b = some (.tup ys) → H' b = some (.tup ys)) : KT H' kvs xs :=
  Paired.mapP r fun _ _ z => ⟨z.1, ht _ _ z.2.1, z.2.2⟩
section
variable {P : Program} {w : World} {H : Hp} {h : Heap} {a : Addr}
theorem rd_of {u : HO} (ok : HOk P w H h) (e : Rd H a u) : ObjOk P w H h a u := e.ok ok
theorem dk_rd {kvs : List (Key × V)} (ok : HOk P w H h) (e : Rd H a (.dK kvs)) : kvs.length ≤ sizeLine ∧ (a == sysModules) = false ∧ ∃ vs, KV kvs vs ∧ h.DictOf (mixKind P w) a vs :=
  show ObjOk P w H h a (.dK kvs) from rd_of ok e
theorem dk_of {kvs : List (Key × V)} (ok : HOk P w H h) (e : H a = some (.dK kvs)) : kvs.length ≤ sizeLine ∧ (a == sysModules) = false ∧ ∃ vs, KV kvs vs ∧ h.DictOf (mixKind P w) a vs := dk_rd ok (.inl e)
theorem key_of {ks : List Key} (ok : HOk P w H h) (e : H a = some (.tup (ks.map kV))) : (tupleKind (mixKind P w)).is h ks a := by
  obtain ⟨_, its, r, o, h1, h2, n, h3⟩ := (show ObjOk P w H h a (.tup (ks.map kV)) from ok a _ e)
  exact ⟨o, its.toArray, n, h1, h2, h3, by simpa using items_are r⟩
theorem dt_rd {kvs : List (List Key × V)} (ok : HOk P w H h) (e : Rd H a (.dT kvs)) : kvs.length ≤ sizeLine ∧ (a == sysModules) = false ∧
    ∃ xs, KT H kvs xs ∧ h.DictOfH (tupleKind (mixKind P w)) a xs := by
  obtain ⟨z, y, xs, r, o, es, ep, h1, h2, h3, h4, h5⟩ := (show ObjOk P w H h a (.dT kvs) from rd_of ok e)
  refine ⟨z, y, xs, r, o, es, ep, h1, h2, h3, h4, fun x hx => ?_, h5⟩
  have all : ∀ {l : List (List Key × V)} {m : List (List Key × Addr × Value)}, KT H l m → ∀ x ∈ m, (tupleKind (mixKind P w)).is h x.1 x.2.1 := by
    intro l m q
    induction q with
    | nil => intro x hx; exact nomatch hx
    | @cons p q ps qs hq t ih =>
      intro x hx
      rcases List.mem_cons.mp hx with e | hx
      · subst e
        exact key_of ok (by rw [← hq.1]; exact hq.2.1)
      · exact ih x hx
  exact all r x hx
theorem dt_of {kvs : List (List Key × V)} (ok : HOk P w H h) (e : H a = some (.dT kvs)) : kvs.length ≤ sizeLine ∧ (a == sysModules) = false ∧
    ∃ xs, KT H kvs xs ∧ h.DictOfH (tupleKind (mixKind P w)) a xs := dt_rd ok (.inl e)
end
def DGet (H : Hp) (a : Addr) (y : V) (r : Option V) : Prop :=
  (∃ kvs k, Rd H a (.dK kvs) ∧ y = kV k ∧ r = valV kvs k) ∨ ∃ kvs k b, Rd H a (.dT kvs) ∧ y = .ref b ∧ H b = some (.tup (k.map kV)) ∧ r = valV kvs k
def DPut (H : Hp) (a : Addr) (y v : V) (H' : Hp) : Prop :=
  (∃ kvs k, H a = some (.dK kvs) ∧ y = kV k ∧ kvs.length < sizeLine ∧ H' = upd H a (.dK (putK kvs k v))) ∨
  ∃ kvs k b, H a = some (.dT kvs) ∧ y = .ref b ∧ H b = some (.tup (k.map kV)) ∧ kvs.length < sizeLine ∧ H' = upd H a (.dT (putK kvs k v))
theorem DGet.k {H : Hp} {a : Addr} {kvs : List (Key × V)} {k : Key} (e : H a = some (.dK kvs)) : DGet H a (kV k) (valV kvs k) := .inl ⟨kvs, k, .inl e, rfl, rfl⟩
theorem DGet.t {H : Hp} {a b : Addr} {kvs : List (List Key × V)} {k : List Key} (e : H a = some (.dT kvs)) (eb : H b = some (.tup (k.map kV))) : DGet H a (.ref b) (valV kvs k) := .inr ⟨kvs, k, b, .inl e, rfl, eb, rfl⟩
theorem DPut.k {H : Hp} {a : Addr} {kvs : List (Key × V)} {k : Key} {v : V} (e : H a = some (.dK kvs)) (hl : kvs.length < sizeLine) : DPut H a (kV k) v (upd H a (.dK (putK kvs k v))) := .inl ⟨kvs, k, e, rfl, hl, rfl⟩
theorem DPut.t {H : Hp} {a b : Addr} {kvs : List (List Key × V)} {k : List Key} {v : V} (e : H a = some (.dT kvs)) (eb : H b = some (.tup (k.map kV))) (hl : kvs.length < sizeLine) :
    DPut H a (.ref b) v (upd H a (.dT (putK kvs k v))) := .inr ⟨kvs, k, b, e, rfl, eb, hl, rfl⟩
section
variable {X : Cx} {pins : List (Addr × Obj)} {σ : St} {H : Hp} {s : Shared} {a : Addr} {y v : V} {u r : Value} {o : Option V} {A : Around} {E : Value → Shared → Prop}
theorem Inv.big (I : Inv X pins σ H s) : sysModules < s.heap.objs.size := by
  have h : mainGlobals < s.heap.objs.size := (I.mod.glob.keeps I.bk).lt
  exact Nat.lt_trans (by decide) h
theorem d_getItem {Q : Value → Shared → Prop} (hu : A.units + 1 < cLine) (I : Inv X pins σ H s) (g : DGet H a y (some v)) (ry : RelV y u) (h : ∀ w' s', Inv X pins σ H s' → RelV v w' → Q w' s') :
    wpAny (model X.prog X.w) A (getItem (.ref a) u) Q E s := by
  rcases g with ⟨kvs, k, e, ey, l⟩ | ⟨kvs, k, b, e, ey, eb, l⟩
  · subst ey
    obtain ⟨z, hd, vs, rel, dd⟩ := dk_rd I.hok e
    obtain ⟨w', hw, rw'⟩ := RelO.some_of (v := v) (o := valueAt vs k) (by rw [l]; exact rel.val k)
    exact wpAny_getItem_of (kV_is ry) dd.mapOf hw (h w' _ (I.tok _) rw')
  · subst ey
    cases (show u = Value.ref b from ry)
    obtain ⟨z, hd, xs, rel, dd⟩ := dt_rd I.hok e
    obtain ⟨w', hw, rw'⟩ := RelO.some_of (v := v) (o := (atKey xs k).map (·.2)) (by rw [l]; exact rel.val k)
    obtain ⟨p, hp, hp2⟩ := Option.map_eq_some_iff.mp hw
    refine wpAny_getItem_heap (tupleKind_room_in1 hu) (key_of I.hok eb) dd hp ?_
    rw [hp2]
    exact h w' _ (I.tok _) rw'
theorem d_in {Q : Value → Shared → Prop} (hu : A.units + 1 < cLine) (I : Inv X pins σ H s) (g : DGet H a y o) (ry : RelV y u) (h : ∀ s', Inv X pins σ H s' → Q (.bool o.isSome) s') :
    wpAny (model X.prog X.w) A (compareOp .In u (.ref a)) Q E s := by
  rcases g with ⟨kvs, k, e, ey, l⟩ | ⟨kvs, k, b, e, ey, eb, l⟩
  · subst ey
    obtain ⟨z, hd, vs, rel, dd⟩ := dk_rd I.hok e
    refine wpAny_in_of (kV_is ry) hd dd.mapOf ?_
    rw [← (rel.val k).isSome_eq, ← l]
    exact h _ (I.tok _)
  · subst ey
    cases (show u = Value.ref b from ry)
    obtain ⟨z, hd, xs, rel, dd⟩ := dt_rd I.hok e
    refine wpAny_in_heap (tupleKind_room_in1 hu) (key_of I.hok eb) hd dd ?_
    have q := (rel.val k).isSome_eq
    rw [Option.isSome_map] at q
    rw [← q, ← l]
    exact h _ (I.tok _)
theorem d_notIn {Q : Value → Shared → Prop} (hu : A.units + 1 < cLine) (I : Inv X pins σ H s) (g : DGet H a y o) (ry : RelV y u) (h : ∀ s', Inv X pins σ H s' → Q (.bool (!o.isSome)) s') :
    wpAny (model X.prog X.w) A (compareOp .NotIn u (.ref a)) Q E s := by
  rcases g with ⟨kvs, k, e, ey, l⟩ | ⟨kvs, k, b, e, ey, eb, l⟩
  · subst ey
    obtain ⟨z, hd, vs, rel, dd⟩ := dk_rd I.hok e
    refine wpAny_notIn_of (kV_is ry) hd dd.mapOf ?_
    rw [← (rel.val k).isSome_eq, ← l]
    exact h _ (I.tok _)
  · subst ey
    cases (show u = Value.ref b from ry)
    obtain ⟨z, hd, xs, rel, dd⟩ := dt_rd I.hok e
    refine wpAny_notIn_heap (tupleKind_room_in1 hu) (key_of I.hok eb) hd dd ?_
    have q := (rel.val k).isSome_eq
    rw [Option.isSome_map] at q
    rw [← q, ← l]
    exact h _ (I.tok _)
theorem d_write {h' : Heap} {t' : Nat} {ob : HO} (I : Inv X pins σ H s) (mu : Mut (H a)) (hs : Heap.SameBut a s.heap h') (he : ∃ q, h'.get? a = some q) (new : ObjOk X.prog X.w (upd H a ob) h' a ob) :
    Inv X pins σ (upd H a ob) { s with heap := h', toks := t' } :=
  I.write (x := a) (e := a) mu (.inl rfl) (fun b q hb z => (hs.2 b hb).trans z) he new
theorem dk_new {P : Program} {w : World} {H' : Hp} {h' : Heap} {kvs : List (Key × V)} {vs : List (Key × Value)} (z : kvs.length ≤ sizeLine) (hd : (a == sysModules) = false) (rel : KV kvs vs) (dd : h'.DictOf (mixKind P w) a vs) :
    ObjOk P w H' h' a (.dK kvs) := ⟨z, hd, vs, rel, dd⟩
theorem d_setItem {H' : Hp} {Q : Unit → Shared → Prop} (hu : A.units + 1 < cLine) (I : Inv X pins σ H s) (g : DPut H a y v H') (ry : RelV y u) (rv : RelV v r) (h : ∀ s', Inv X pins σ H' s' → Q () s') :
    wpAny (model X.prog X.w) A (setItem (.ref a) u r) Q E s := by
  rcases g with ⟨kvs, k, e, ey, l, eH⟩ | ⟨kvs, k, b, e, ey, eb, l, eH⟩
  · subst ey eH
    obtain ⟨z, hd, vs, rel, dd⟩ := dk_of I.hok e
    have hz : vs.length ≤ sizeLine := by rw [← rel.length]; exact z
    have hl : (putK kvs k v).length ≤ sizeLine := by have := length_putK kvs k v; omega
    refine wpAny_setItem_pairs (hsz := hz) (kV_is ry) dd fun h' dd' hs => h _ ?_
    have he : ∃ q, h'.get? a = some q := let ⟨q, _, _, hq, _⟩ := dd'; ⟨q, hq⟩
    exact d_write I (by rw [e]; exact True.intro) hs he (dk_new hl hd (rel.put k rv) dd')
  · subst ey eH
    cases (show u = Value.ref b from ry)
    obtain ⟨z, hd, xs, rel, dd⟩ := dt_of I.hok e
    have hz : xs.length ≤ sizeLine := by rw [← Paired.length rel]; exact z
    have hl : (putK kvs k v).length ≤ sizeLine := by have := length_putK kvs k v; omega
    refine wpAny_setItem_heap (hsz := hz) (tupleKind_room_in1 hu) (key_of I.hok eb) dd fun h' dd' hs => h _ ?_
    obtain ⟨q, es, ep, hq, h2, h3, h4, _, h5⟩ := dd'
    refine d_write I (by rw [e]; exact True.intro) hs ⟨q, hq⟩ ⟨hl, hd, _, (rel.put k eb rv).keeps fun c ys ec => ?_, q, es, ep, hq, h2, h3, h4, h5⟩
    rw [upd_ne (ne_of ec e (fun z => nomatch z))]
    exact ec
end
section
variable {X : Cx} {pins : List (Addr × Obj)} {σ : St} {H : Hp} {s : Shared} {a : Addr} {kvs : List (Key × V)} {k : Key} {u : Value} {A : Around} {E : Value → Shared → Prop}
end
def NoSl (i : Expr) : Prop := ∀ ov iv, subscripted i false ov iv = operate [ov, iv] (getItem ov iv)
theorem subD_of {prog : Program} {w : World} {A : Around} {E : Value → Shared → Prop} {s : Shared} {env : Env} {value slice : Expr} {pos : Pos} {T id : String} {Q : Value → Shared → Prop}
    (hl : typeLookup (.type T) "__getitem__" = pure (some (.builtin id))) (hs : NoSl slice)
    (h : wpAny (model prog w) A (eval value env) (fun o s₁ => wpAny (model prog w) A (eval slice env) (fun i s₂ => s₂.TypeIs o T ∧ wpAny (model prog w) A (getItem o i) Q E s₂) E s₁) E s) :
    wpAny (model prog w) A (eval (.Subscript value slice pos) env) Q E s := by
  refine Subscript_ (wpAny_mono h (fun o s₁ h₁ => wpAny_mono h₁ (fun i s₂ h₂ => ?_) fun _ _ x => x) fun _ _ x => x)
  obtain ⟨hT, h₂⟩ := h₂
  unfold subscriptTail
  refine wpAny_bind ?_
  rw [getitemInPython_of_ne hT.not_modules]
  refine wpAny_bind (wpAny_specialOf hT hl ?_)
  have fin : wpAny (model prog w) A (subscripted slice false o i) (fun r s₃ => wpAny (model prog w) A (letTemporaryGo value o r >>= fun _ => pure r) Q E s₃) E s₂ := by
    rw [hs o i]
    exact wpAny_operating (wpAny_mono h₂ (fun r s₃ h₃ => wpAny_bind (wpAny_letTemporaryGo (wpAny_pure h₃))) fun _ _ x => x)
  first
    | exact wpAny_pure (wpAny_bind fin)
    | exact wpAny_bind (wpAny_pure (wpAny_bind fin))
    | exact wpAny_bind fin
theorem dict_typeIs {X : Cx} {pins : List (Addr × Obj)} {σ : St} {H : Hp} {s : Shared} {a : Addr} {y : V} {o : Option V} (I : Inv X pins σ H s) (g : DGet H a y o) : s.TypeIs (.ref a) "dict" := by
  rcases g with ⟨kvs, k, e, _, _⟩ | ⟨kvs, k, b, e, _, _, _⟩
  · obtain ⟨_, _, vs, _, dd⟩ := dk_rd I.hok e
    exact dd.typeIs
  · obtain ⟨_, _, xs, _, dd⟩ := dt_rd I.hok e
    exact dd.typeIs
def tDGet (td ty : TE) : TE := fun σ H Q => td σ H fun x H1 => ty σ H1 fun y H2 => ∃ a v, x = .ref a ∧ DGet H2 a y (some v) ∧ Q v H2
def tDIn (ty td : TE) : TE := fun σ H Q => ty σ H fun y H1 => td σ H1 fun x H2 => ∃ a o, x = .ref a ∧ DGet H2 a y o ∧ Q (.bl o.isSome) H2
def tDNotIn (ty td : TE) : TE := fun σ H Q => ty σ H fun y H1 => td σ H1 fun x H2 => ∃ a o, x = .ref a ∧ DGet H2 a y o ∧ Q (.bl (!o.isSome)) H2
def sDPut (td ty tv : TE) : TS := fun D σ H => tv σ H fun v H1 => td σ H1 fun x H2 => ty σ H2 fun y H3 => ∃ a H4, x = .ref a ∧ DPut H3 a y v H4 ∧ D.nx σ H4
section
variable {X : Cx} {o i e value : Expr} {pos pos' tpos : Pos} {td ty tv : TE}
theorem pe_dget (hu : X.A.units + 1 < cLine) (ho : PE X o td) (hi : PE X i ty) (hs : NoSl i) : PE X (.Subscript o i pos) (tDGet td ty) := by
  intro pins s σ H Q I h
  refine subD_of PySem.F.slot_dict_getitem.lookup hs (thn (ho pins s σ H _ I h) fun u s1 ⟨x, H1, I1, rx, q1⟩ => thn (hi pins s1 σ H1 _ I1 q1) fun iv s2 ⟨y, H2, I2, ry, a, v, ex, g, q2⟩ => ?_)
  subst ex
  obtain rfl : u = Value.ref a := rx
  exact ⟨dict_typeIs I2 g, d_getItem hu I2 g ry fun w' s3 I3 rw' => ⟨v, H2, I3, rw', q2⟩⟩
theorem pc_din (hu : X.A.units + 1 < cLine) (hi : PE X i ty) (ho : PE X o td) : PC X .In i o (tDIn ty td) := by
  intro pins s σ H Q I h
  refine thn (hi pins s σ H _ I h) fun iv s1 ⟨y, H1, I1, ry, q1⟩ => thn (ho pins s1 σ H1 _ I1 q1) fun u s2 ⟨x, H2, I2, rx, a, ov, ex, g, q2⟩ => ?_
  subst ex
  obtain rfl : u = Value.ref a := rx
  exact d_in hu I2 g ry fun s3 I3 => ⟨.bl ov.isSome, H2, I3, rfl, q2⟩
theorem pc_dnotin (hu : X.A.units + 1 < cLine) (hi : PE X i ty) (ho : PE X o td) : PC X .NotIn i o (tDNotIn ty td) := by
  intro pins s σ H Q I h
  refine thn (hi pins s σ H _ I h) fun iv s1 ⟨y, H1, I1, ry, q1⟩ => thn (ho pins s1 σ H1 _ I1 q1) fun u s2 ⟨x, H2, I2, rx, a, ov, ex, g, q2⟩ => ?_
  subst ex
  obtain rfl : u = Value.ref a := rx
  exact d_notIn hu I2 g ry fun s3 I3 => ⟨.bl (!ov.isSome), H2, I3, rfl, q2⟩
theorem ps_dput (hu : X.A.units + 1 < cLine) (ho : PE X o td) (hi : PE X i ty) (hv : PE X value tv) (hs : swapsWith value (some (.Subscript o i pos')) pos.line X.env = pure false) :
    PS X (.Assign [.Subscript o i pos'] value pos) (sDPut td ty tv) := by
  intro pins s σ H D I h
  refine wpAny_Assign_Subscript (thn (hv pins s σ H _ I h) fun r s1 ⟨v, H1, I1, rv, q1⟩ => thn (ho pins s1 σ H1 _ I1 q1) fun u s2 ⟨x, H2, I2, rx, q2⟩ => thn (hi pins s2 σ H2 _ I2 q2) fun iv s3 ⟨y, H3, I3, ry, a, H4, ex, g, q3⟩ => ?_) hs
  subst ex
  obtain rfl : u = Value.ref a := rx
  exact d_setItem hu I3 g ry rv fun s4 I4 => ⟨σ, H4, I4, q3⟩
end
theorem dk_empty {P : Program} {w : World} {H : Hp} (h : Heap) (hb : sysModules < h.objs.size) : ObjOk P w H (h.push { cls := .type "dict", data := .dict #[] }) h.objs.size (.dK []) :=
  ⟨Nat.zero_le _, beq_eq_false_iff_ne.mpr (Ne.symm (Nat.ne_of_lt hb)), [], .nil, Heap.DictOf.new h⟩
def tDNewK : TE := fun _ H Q => ∀ p, H p = none → Q (.ref p) (upd H p (.dK []))
section
variable {X : Cx} {pos : Pos}
theorem pe_dnewK : PE X (.Dict [] [] pos) tDNewK := fun pins s σ H Q I h =>
  wpAny_Dict_empty ⟨.ref s.heap.objs.size, _, I.laid (a := s.heap.objs.size) (o := .dK []) (t' := s.toks) (fun _ _ q => Heap.get?_push_of_some _ q) (Nat.le_refl _) (dk_empty s.heap I.big), rfl, h _ (I.hok.fresh (Nat.le_refl _))⟩
end
def tPairs : List (TE × TE) → St → Hp → (List (V × V) → Hp → Prop) → Prop
  | [], _, H, Q => Q [] H
  | (tk, tv) :: r, σ, H, Q => tk σ H fun x H1 => tv σ H1 fun y H2 => tPairs r σ H2 fun ps H3 => Q ((x, y) :: ps) H3
abbrev VV : List (V × V) → List (Value × Value) → Prop := Paired fun p q => RelV p.1 q.1 ∧ RelV p.2 q.2
def PPs (X : Cx) (pos : Pos) (keys : List (Option Expr)) (values : List Expr) (trs : List (TE × TE)) : Prop :=
  ∀ (pins : List (Addr × Obj)) (s : Shared) (σ : St) (H : Hp) (Q : List (V × V) → Hp → Prop), Inv X pins σ H s → tPairs trs σ H Q →
    wpAny (model X.prog X.w) X.A (evalPairs (pairTrees keys values X.env pos)) (fun vs s' => ∃ ps H', Inv X pins σ H' s' ∧ VV ps vs ∧ Q ps H') X.xe s
theorem pps_nil {X : Cx} {pos : Pos} : PPs X pos [] [] [] := fun pins s σ H Q I h => pairTrees_nil_walk ⟨[], H, I, .nil, h⟩
theorem pps_cons {X : Cx} {pos : Pos} {k v : Expr} {ks : List (Option Expr)} {vs : List Expr} {tk tv : TE} {trs : List (TE × TE)} (hk : PE X k tk) (hv : PE X v tv) (hr : PPs X pos ks vs trs) :
    PPs X pos (some k :: ks) (v :: vs) ((tk, tv) :: trs) := fun pins s σ H Q I h =>
  pairTrees_cons_walk (thn (hk pins s σ H _ I h) fun u s1 ⟨x, H1, I1, rx, q1⟩ => thn (hv pins s1 σ H1 _ I1 q1) fun w2 s2 ⟨y, H2, I2, ry, q2⟩ =>
    thn (hr pins s2 σ H2 _ I2 q2) fun ws s3 ⟨ps, H3, I3, rel, q3⟩ => ⟨(x, y) :: ps, H3, I3, .cons ⟨rx, ry⟩ rel, q3⟩)
def mergeK (kvs more : List (Key × V)) : List (Key × V) := more.foldl (fun acc kv => putK acc kv.1 kv.2) kvs
theorem KV.merge : ∀ {more : List (Key × V)} {rs : List (Key × Value)} {kvs : List (Key × V)} {vs : List (Key × Value)}, KV more rs → KV kvs vs → KV (mergeK kvs more) (merged vs rs) := by
  intro more rs kvs vs r
  unfold KV at r
  induction r generalizing kvs vs with
  | nil => intro q; exact q
  | @cons p q ps qs h t ih =>
    intro r0
    have e : KV (putK kvs p.1 p.2) (stored vs q.1 q.2) := by
      have := r0.put p.1 h.2
      rw [← h.1]; exact this
    exact ih e
theorem length_mergeK : ∀ (more kvs : List (Key × V)), (mergeK kvs more).length ≤ kvs.length + more.length
  | [], kvs => by show kvs.length ≤ kvs.length + 0; omega
  | p :: r, kvs => by
    have h1 := length_mergeK r (putK kvs p.1 p.2)
    have h2 := length_putK kvs p.1 p.2
    show (mergeK (putK kvs p.1 p.2) r).length ≤ _
    rw [List.length_cons]; omega
theorem carries_of {P : Program} {w : World} : ∀ {kvs : List (Key × V)} {ws : List (Value × Value)}, VV (kvs.map fun kv => (kV kv.1, kv.2)) ws → ∃ rs, Carries (mixKind P w) ws rs ∧ KV kvs rs
  | [], _, r => by rw [List.map_nil] at r; cases r; exact ⟨[], True.intro, .nil⟩
  | p :: kvs, _, r => by
    rw [List.map_cons] at r
    cases r with
    | @cons a b as bs h t =>
      obtain ⟨rs, c, q⟩ := carries_of (P := P) (w := w) t
      obtain ⟨b1, b2⟩ := b
      exact ⟨(p.1, b2) :: rs, ⟨kV_is h.1, rfl, c⟩, .cons ⟨rfl, h.2⟩ q⟩
def tDisp (trs : List (TE × TE)) : TE := fun σ H Q => ∀ p, H p = none → tPairs trs σ (upd H p (.dK [])) fun ps H2 => H2 p = some (.dK []) ∧ ∃ kvs : List (Key × V), ps = kvs.map (fun kv => (kV kv.1, kv.2)) ∧ kvs.length ≤ 15 ∧ Q (.ref p) (upd H2 p (.dK (mergeK [] kvs)))
theorem pe_disp {X : Cx} {pos : Pos} {keys : List (Option Expr)} {values : List Expr} {trs : List (TE × TE)} (h : PPs X pos keys values trs) (hall : keys.all (·.isSome) = true) (hl : keys.length = values.length) (h0 : keys ≠ [])
    (h15 : keys.length ≤ 15) : PE X (.Dict keys values pos) (tDisp trs) := by
  intro pins s σ H Q I q
  have hn := I.hok.fresh (Nat.le_refl s.heap.objs.size)
  have I1 := I.laid (a := s.heap.objs.size) (o := .dK []) (h' := s.heap.push { cls := .type "dict", data := .dict #[] }) (t' := s.toks) (fun _ _ q => Heap.get?_push_of_some _ q) (Nat.le_refl _) (dk_empty s.heap I.big)
  refine wpAny_Dict_walk (knd := mixKind X.prog X.w) hall hl h0 h15 (thn (h pins _ σ _ _ I1 (q _ hn)) fun ws s2 ⟨ps, H2, I2, rel, e, kvs, ep, lk, q2⟩ => ?_)
  subst ep
  obtain ⟨rs, c, rk⟩ := carries_of (P := X.prog) (w := X.w) rel
  obtain ⟨z, hd, vs0, r0, dd⟩ := dk_of I2.hok e
  cases r0
  refine ⟨rs, c, dd, fun h' dd' hs => ⟨.ref s.heap.objs.size, _, ?_, rfl, q2⟩⟩
  have hz : (mergeK [] kvs).length ≤ sizeLine := by
    have h1 := length_mergeK kvs []
    rw [List.length_nil] at h1
    rw [sizeLine_eq]; omega
  have he : ∃ q, h'.get? s.heap.objs.size = some q := let ⟨q, _, _, hq, _⟩ := dd'; ⟨q, hq⟩
  exact d_write I2 (by rw [e]; exact True.intro) hs he (dk_new hz hd (rk.merge .nil) dd')
/-- a method call o.m(e) of a built-in, with one argument: what must be seen of the text -/
structure M1 (X : Cx) (o : Expr) (m : Str) (apos : Pos) (e : Expr) (cpos : Pos) : Prop where
  base : attributeBase o m X.env (eval o X.env) = eval o X.env
  few : ((backTo cpos (starEach [e] X.env)).all (fun x => !x.1) && (backToKw cpos (keywordEach [] X.env)).all (fun x => x.1.isSome)
    && decide (([e] : List Expr).length + ([] : List Keyword).length + (if ([] : List Keyword).isEmpty then 0 else 1) < 30)) = true
  line : (apos.endLine == cpos.line) = true
  trees : backTo cpos (starEach [e] X.env) = [(false, eval e X.env)]
structure M2 (X : Cx) (o : Expr) (m : Str) (apos : Pos) (e f : Expr) (cpos : Pos) : Prop where
  base : attributeBase o m X.env (eval o X.env) = eval o X.env
  few : ((backTo cpos (starEach [e, f] X.env)).all (fun x => !x.1) && (backToKw cpos (keywordEach [] X.env)).all (fun x => x.1.isSome)
    && decide (([e, f] : List Expr).length + ([] : List Keyword).length + (if ([] : List Keyword).isEmpty then 0 else 1) < 30)) = true
  line : (apos.endLine == cpos.line) = true
  trees : backTo cpos (starEach [e, f] X.env) = [(false, eval e X.env), (false, eval f X.env)]
section
variable {X : Cx} {pins : List (Addr × Obj)} {σ : St} {H : Hp} {s : Shared} {a : Addr} {y d : V} {u r : Value} {o : Option V} {A : Around} {E : Value → Shared → Prop}
end
section
variable {X : Cx} {o e f : Expr} {apos cpos : Pos} {td ty tx : TE}
end
section
variable {X : Cx} {pins : List (Addr × Obj)} {σ : St} {H : Hp} {s : Shared} {a : Addr} {kvs : List (Key × V)} {A : Around} {E : Value → Shared → Prop}
end
section
variable {X : Cx} {pins : List (Addr × Obj)} {σ : St} {H : Hp} {s : Shared} {a : Addr} {y : V} {u : Value} {A : Around} {E : Value → Shared → Prop}
end
end L2
namespace Att
open PySem PySem.W PySem.Calls PyProof.Rows
theorem ints_of_wellAll {P : Params} {h : Heap} : ∀ (ns : List Int) (vs : List Value), WellAll P h vs (ns.map WData.int) → IntsAre vs ns := by
  intro ns
  induction ns with
  | nil =>
    intro vs w
    rw [List.map_nil] at w
    cases w
    exact .nil
  | cons n ns ih =>
    intro vs w
    rw [List.map_cons] at w
    cases w with
    | cons a b =>
      cases a
      exact .cons _ _ (ih _ b)
theorem script_of {l : OpenLaw} {n : Nat} (hn : l.most = some n) {P : Params} {h : Heap} {args : List WData} {vals : List Value}
    (hpre : l.row.toRowW.claim.pre args = true) (hwl : WellAll P h vals args) :
    ∃ a vs ns, vals = [Value.ref a] ∧ args = [WData.list (ns.map WData.int)] ∧ h.get? a = some { cls := .type "list", data := .seq vs.toArray } ∧ IntsAre vs ns ∧ ns.length ≤ n := by
  have hsh : WShape.hasAll [] args [.list .int] = true := (pre_splitW hpre).1
  have hc : l.pre.holds [] { args := args } = true := (pre_splitW hpre).2
  obtain ⟨d, r, rfl, h1, h2⟩ := hasAllW_cons hsh
  obtain rfl := hasAllW_nil h2
  obtain ⟨xs, rfl, h3⟩ := hasW_list h1
  obtain ⟨ns, rfl⟩ := items_int h3
  have hlen : ns.length ≤ n := by
    unfold OpenLaw.pre at hc
    have h4 : (WTm.not (.lt (.lit (.int (n : Int))) (.len (.arg 0)))).holds [] { args := [.list (ns.map .int)] } = true := by
      have h4 := (holds_andW hc).1
      rw [hn] at h4
      exact h4
    have h5 := condW_of h4 (w_not (w_lt w_lit (w_len_list (w_arg rfl))))
    rw [List.length_map] at h5
    refine Nat.le_of_not_lt fun q => ?_
    have q' : (n : Int) < ((ns.length : Nat) : Int) := by omega
    first
      | (rw [decide_eq_true q'] at h5; exact absurd h5 (by decide))
      | (simp at h5; omega)
  cases hwl with
  | cons w1 w2 =>
    cases w2
    cases w1 with
    | list ho hall => exact ⟨_, _, ns, rfl, rfl, ho, ints_of_wellAll ns _ hall, hlen⟩
theorem post_true (l : OpenLaw) (args : List WData) : l.row.toRowW.claim.post args (.bool true) args = true :=
  postW_of (r := l.row.toRowW) (X := (true == true))
    (show WShape.has [] (.bool true) .bool = true by first | rfl | decide | simp [WShape.has, WShape.arms, WShape.armsAll])
    (show (WTm.eq .res (.lit (.bool true))).value [] { args := args, res := some (.bool true), after := args } = some (.bool (true == true)) from w_eq_bool (w_res rfl) w_lit) rfl
theorem attach_call {l : OpenLaw} {n : Nat} {q : Program} {loose : List Str} {XP : (Str → Option Value) → Heap → Prop} {YP : World → Heap → Prop} {d : DefRec}
    (hn : l.most = some n) (hdf : d.params.defaults = [])
    (call : ∀ (w : World) (s₀ s₁ : Shared) (mg mb : Str → Option Value) (fa : Addr) (o : Obj) (pm cd doc : Value) (a : Addr) (vs : List Value) (ns : List Int),
      Ground q loose [] XP w s₀ mg mb s₁.heap → YP w s₁.heap →
      s₁.heap.get? fa = some o → o.data = .func (docDef d.name d.params d.body d.scope pm cd doc) → s₁.heap.CodeRec cd d.name → mg d.name = some (.ref fa) →
      s₁.heap.get? a = some { cls := .type "list", data := .seq vs.toArray } → IntsAre vs ns → ns.length ≤ n → s₁.gens = #[] →
      codeAny (model l.prog w) callerA (.call (.ref fa) ⟨[.ref a], []⟩) (fun r s' => r = .ok (.ret (.bool true)) ∧ OldK s₁.heap s'.heap ∧ s'.os = s₁.os ∧ AllBare s'.gens) s₁) :
    WalkO q loose XP YP l.row.toRowW d [] (fun f vs => PySem.call f vs) := by
  intro w s₀ s₁ mg mb G Y fa o pm cd doc dV kV ho hd hcd hD hmg hg args vals as hpre hlay hrd hwl hlo
  obtain rfl : dV = .none := Dflts.none hD hdf
  obtain rfl : kV = .none := Dflts.noKw hD
  obtain ⟨a, vs, ns, rfl, rfl, hobj, hints, hlen⟩ := script_of hn hpre hwl
  refine enter_call (codeAny_mono (call w s₀ s₁ mg mb fa o pm cd doc a vs ns G Y ho (fd_plain hd) hcd hmg hobj hints hlen hg) fun r s' hq => ?_)
  obtain ⟨rfl, h2, h3, h4⟩ := hq
  exact ⟨.inl ⟨.bool true, .bool true, [], rfl, fun _ => rfl, .bool true, post_true l _, fun _ => ⟨List.Pairwise.nil, fun _ hm => (nomatch hm)⟩⟩, h2, h3, h4⟩
section
variable {prog : Program} {w : World} {A : Around} {E : Value → Shared → Prop} {s : Shared} {K : Frag}
end
end Att
namespace L2
open PySem PySem.Spec PyProof.Rows
theorem vals_ints : ∀ {vs : List Value} {ns : List Int}, IntsAre vs ns → Vals (ns.map V.int) vs
  | _, _, .nil => .nil
  | _, _, .cons n t h => .cons ⟨t, rfl⟩ (vals_ints h)
def Only (H : Hp) : Prop := ∀ b, H b = none ∨ ∃ o xs, H b = some (.frz o (.lst xs))
theorem law_call {P : Program} {w : World} {K : PySem.W.Frag} {mg mb : Str → Option Value} {CX : CXT} {k : Nat} {fa a : Addr} {fd : FuncData} {x : Str} {sp : Sp} {s₁ : Shared} {vs : List Value} {ns : List Int}
    (KX : K.In s₁.heap) (hns : s₁.heap.Ns mainGlobals mg) (hb : s₁.heap.Ns builtinsNs mb) (hbb : ∀ x : Str, x ≠ "__name__" → mb x = bootBuiltins x) (hlim : s₁.heap.NoLimit) (hg : s₁.gens = #[])
    (ha : s₁.heap.get? a = some { cls := .type "list", data := .seq vs.toArray }) (hi : IntsAre vs ns) (hl : ns.length ≤ sizeLine) (hr : Room k callerA)
    (F : ∀ base : Heap, K.In base → base.Ns mainGlobals mg → FnOk P w K mg base CX k fa fd [x] sp) (hbind : ∀ (s : Shared) (u : Value), BindsTo s fd ⟨[u], []⟩ [(x, u)])
    (hsp : ∀ H : Hp, Only H → SqL K H a (ns.map V.int) → sp [.ref a] H (fun v _ => v = .bl true) fun _ _ _ => False)
    (hCX : ∀ H e s', CX [] H s₁ (fun _ _ _ => False) e s' → False) :
    codeAny (model P w) callerA (.call (.ref fa) ⟨[.ref a], []⟩) (fun r s' => r = .ok (.ret (.bool true)) ∧ OldK s₁.heap s'.heap ∧ s'.os = s₁.os ∧ AllBare s'.gens) s₁ := by
  have rv := vals_ints hi
  have lenV := hi.length
  -- from an abstract heap in which nothing but the script may be tracked
  have core : ∀ H : Hp, Only H → SqL K H a (ns.map V.int) → HOk P w H s₁.heap → (∀ b, H b ≠ none → b = a) → (H a ≠ none → K.lookup a = none) →
      codeAny (model P w) callerA (.call (.ref fa) ⟨[.ref a], []⟩) (fun r s' => r = .ok (.ret (.bool true)) ∧ OldK s₁.heap s'.heap ∧ s'.os = s₁.os ∧ AllBare s'.gens) s₁ := by
    intro H hO hS hok hA hK
    have base_of : ∀ {b : Addr} {o : Obj}, s₁.heap.get? b = some o → H b = none → (hidT s₁.heap H).get? b = some o := fun e n => hidT_get e n
    have noA : ∀ {b : Addr} {o : Obj} {es : Array DictEntry} {ep : Nat}, s₁.heap.get? b = some o → o.data = .dict es ep → H b = none := fun {b o es ep} e d => by
      cases q : H b with
      | none => rfl
      | some u =>
        have e' : b = a := hA b (by rw [q]; simp)
        subst e'
        rw [ha] at e; cases e
        have d' : Data.seq vs.toArray _ = Data.dict es ep := d
        cases d'
    have nsK : ∀ {b : Addr} {m : Str → Option Value}, s₁.heap.Ns b m → (hidT s₁.heap H).Ns b m := fun {b m} ⟨o, es, ep, e, d, r⟩ => ⟨o, es, ep, base_of e (noA e d), d, r⟩
    have hKb : K.In (hidT s₁.heap H) := fun b o e => base_of (KX b o e) (by
      cases q : H b with
      | none => rfl
      | some u =>
        have e' : b = a := hA b (by rw [q]; simp)
        subst e'
        rw [hK (by rw [q]; simp)] at e; cases e)
    have hM : Mod K mg (hidT s₁.heap H) := ⟨hKb, nsK hns, ⟨mb, nsK hb, hbb⟩, let ⟨mc, h1, h2⟩ := hlim; ⟨mc, nsK h1, h2⟩⟩
    have e0 : Env0 P w K mg (hidT s₁.heap H) callerA [] s₁ H := ⟨rfl, hM, fun b o e => of_hidT e, Nat.le_of_eq (hidT_size _ _), trivial, fun b hb => absurd (show b ∈ ([] : List Addr) from hb) (by simp), hok, .of_eq hg⟩
    refine codeAny_mono ((F _ hKb (nsK hns)).run callerA [] s₁ H ⟨[.ref a], []⟩ [.ref a] [.ref a] _ _ hr e0 (hbind s₁ (.ref a)) (.cons rfl .nil) (hsp H hO hS)) fun r s' h => ?_
    cases r with
    | error e => exact (hCX H e s' h).elim
    | ok fl =>
      cases fl with
      | next => exact False.elim h
      | brk => exact False.elim h
      | cont => exact False.elim h
      | ret u =>
        obtain ⟨v, H', os, bare, un, hok', r', q⟩ := h
        have q' : v = .bl true := q
        subst q'
        obtain rfl : u = Value.bool true := r'
        refine ⟨rfl, OldK.of_keep fun b o e => ?_, os, bare⟩
        cases q : H b with
        | none => exact un.keep b o e q (by intro z; exact absurd (show b ∈ ([] : List Addr) from z) (by simp)) (by simp)
        | some u =>
          rcases hO b with z | ⟨ob, xs, z⟩
          · rw [q] at z; cases z
          · have z2 := un.frzs b ob _ z
            obtain ⟨e1, _⟩ := hok b _ z
            obtain ⟨e2, _⟩ := hok' b _ z2
            rw [e] at e1; cases e1
            exact e2
  cases hk : K.lookup a with
  | some o =>
    -- the script is one of the module's own objects
    have e := KX a o hk
    rw [ha] at e
    cases e
    refine core (fun _ => none) (fun _ => .inl rfl) (.inr ⟨_, vs.toArray, _, hk, rfl, rfl, rfl, by rw [List.size_toArray, lenV]; exact hl, by simpa using rv⟩) (fun b u z => by have z' : (none : Option HO) = some u := z; cases z') (fun b z => absurd rfl z) fun z => absurd rfl z
  | none =>
    refine core (fun b => if b = a then some (.frz { cls := .type "list", data := .seq vs.toArray } (.lst (ns.map V.int))) else none) (fun b => ?_) (.inl (.inr ⟨{ cls := .type "list", data := .seq vs.toArray }, if_pos rfl⟩)) (fun b u z => ?_) (fun b z => ?_) fun _ => hk
    · by_cases hb : b = a
      · exact .inr ⟨_, _, if_pos hb⟩
      · exact .inl (if_neg hb)
    · by_cases hb : b = a
      · have z' := (if_pos hb).symm.trans z
        cases z'
        subst hb
        exact ⟨ha, by rw [List.length_map]; exact hl, vs, _, rv, ha⟩
      · have z' := (if_neg hb).symm.trans z
        cases z'
    · by_cases hb : b = a
      · exact hb
      · exact absurd (if_neg hb) z
end L2
namespace L2
open PySem PySem.Spec PyProof.Rows
theorem walk_of {l : PySem.W.OpenLaw} {n k : Nat} {q : Program} {loose : List Str} {XP : (Str → Option Value) → Heap → Prop} {YP : World → Heap → Prop} {d : DefRec} {K : Params → PySem.W.Frag} {CX : World → CXT} {sp : World → Sp} {x : Str}
    (hn : l.most = some n) (hn2 : n ≤ sizeLine) (hdf : d.params.defaults = []) (hr : Room k callerA)
    (hY : ∀ (w : World) (h : Heap), YP w h → (K w.params).In h)
    (F : ∀ (w : World) (mg : Str → Option Value) (fa : Addr) (h : Heap), (K w.params).In h → h.Ns mainGlobals mg → mg d.name = some (.ref fa) →
      ∃ fd : FuncData, (∀ (s : Shared) (u : Value), BindsTo s fd ⟨[u], []⟩ [(x, u)]) ∧
        ∀ base : Heap, (K w.params).In base → base.Ns mainGlobals mg → FnOk l.prog w (K w.params) mg base (CX w) k fa fd [x] (sp w))
    (hsp : ∀ (w : World) (H : Hp) (a : Addr) (ns : List Int), ns.length ≤ n → Only H → SqL (K w.params) H a (ns.map V.int) → sp w [.ref a] H (fun v _ => v = .bl true) fun _ _ _ => False)
    (hCX : ∀ (w : World) (H : Hp) (s : Shared) (e : Value) (s' : Shared), CX w [] H s (fun _ _ _ => False) e s' → False) :
    PySem.W.WalkO q loose XP YP l.row.toRowW d [] (fun f vs => PySem.call f vs) := by
  refine Att.attach_call hn hdf fun w s₀ s₁ mg mb fa o pm cd doc a vs ns G Y ho hd hcd hmg hobj hints hlen hg => ?_
  have KX := hY w _ Y
  obtain ⟨fd, hb, hF⟩ := F w mg fa _ KX G.T.g hmg
  exact law_call KX G.T.g G.T.b G.T.builtins G.T.nolimit hg hobj hints (Nat.le_trans hlen hn2) hr hF hb (fun H hO hS => hsp w H a ns hlen hO hS) fun H e s' => hCX w H s₁ e s'
end L2
namespace L2
open PySem PySem.Spec PyProof.Rows
def inClass (s : Stmt) (j : Nat) : Stmt := match s with
  | .ClassDef _ _ _ body _ _ _ _ _ _ _ => body.getD j (.Pass ⟨0, 0, 0, 0⟩)
  | _ => .Pass ⟨0, 0, 0, 0⟩
def defArgs (s : Stmt) : Arguments := match s with
  | .FunctionDef _ a _ _ _ _ _ _ _ _ => a
  | _ => { posonlyargs := [], args := [], vararg := none, kwonlyargs := [], kw_defaults := [], kwarg := none, defaults := [] }
def defBody (s : Stmt) : List Stmt := match s with
  | .FunctionDef _ _ b _ _ _ _ _ _ _ => b
  | _ => []
def defScope (s : Stmt) : Scope := match s with
  | .FunctionDef _ _ _ _ _ _ sc _ _ _ => sc
  | _ => { kind := .function, names := [], isGenerator := false, isCoroutine := false }
abbrev CX0 : CXT := fun _ _ _ _ _ _ => False
abbrev E0 : XK := fun _ _ _ => False
theorem pass0 {X : Cx} : Passes CX0 X E0 := fun _ _ _ _ _ _ _ h => h.elim
structure Fun (K : PySem.W.Frag) (x qual : Str) (st : Stmt) (f : Addr) (fd : FuncData) : Prop where
  ex : ∃ (oc : Value) (od : Option Addr) (kV doc pm : Value) (an : Option Addr) (cdv ct : Value) (osl : Array (Option Value)),
    fd = PySem.W.fnOf x qual (defArgs st) (defBody st) (defScope st) .none kV doc pm an cdv ct ∧ K.lookup f = some ⟨oc, od, .func fd, osl⟩ ∧ PySem.W.codeIn K cdv qual = true
  kp : PySem.W.keepIn K (.ref f) = true
section
variable {P : Program} {w : World} {K : PySem.W.Frag} {mg : Str → Option Value} {base : Heap}
theorem Fun.ok {x qual : Str} {st : Stmt} {f : Addr} {fd : FuncData} {N ps : List Str} {k : Nat} {sp : Sp} (F : Fun K x qual st f fd) (S : FnScope N ps (defScope st)) (len : ∀ vs H Q E, sp vs H Q E → vs.length = ps.length)
    (hbody : ∀ (cdv : Value) (A : Around) (outer : List Env) (s : Shared) (H : Hp) (vs : List V) (Q : VK) (E : XK), Room k (A.deeper (envOfC qual (defScope st) s.heap.objs.size f cdv)) → sp vs H Q E →
      ∃ t, PSs (cxOf CX0 P w K mg base N qual (defScope st) f cdv A outer s H E).nox (defBody st) t ∧ t { nx := fun _ H' => Q .non H', rt := Q } (start N vs) H) : FnOk P w K mg base CX0 (k + 1) f fd ps sp := by
  obtain ⟨oc, od, kV, doc, pm, an, cdv, ct, osl, rfl, lk, hcd⟩ := F.ex
  refine fn_of lk hcd S len fun A outer s H vs Q E hr hsp => ?_
  obtain ⟨t, h, q⟩ := hbody cdv A outer s H vs Q E hr hsp
  exact ⟨t, h.nox, q⟩
theorem Fun.binds {x qual : Str} {st : Stmt} {f : Addr} {fd : FuncData} {ps : List Str} (F : Fun K x qual st f fd)
    (h : ∀ (kV doc pm : Value) (an : Option Addr) (cdv ct : Value) (us : List Value), us.length = ps.length → bindArgs (PySem.W.fnOf x qual (defArgs st) (defBody st) (defScope st) .none kV doc pm an cdv ct) ⟨us, []⟩ = pure (ps.zip us)) : Binds K fd ps [] := by
  obtain ⟨oc, od, kV, doc, pm, an, cdv, ct, osl, rfl, lk, hcd⟩ := F.ex
  exact .all (h kV doc pm an cdv ct)
theorem fun_mk {x qual : Str} {st : Stmt} {f : Addr} {oc : Value} {od an : Option Addr} {osl : Array (Option Value)} {kV doc pm cdv ct : Value} (l : K.lookup f = some ⟨oc, od, .func (PySem.W.fnOf x qual (defArgs st) (defBody st) (defScope st) .none kV doc pm an cdv ct), osl⟩)
    (c : PySem.W.codeIn K cdv qual = true) (k : PySem.W.keepIn K (.ref f) = true) : Fun K x qual st f (PySem.W.fnOf x qual (defArgs st) (defBody st) (defScope st) .none kV doc pm an cdv ct) := ⟨⟨oc, od, kV, doc, pm, an, cdv, ct, osl, rfl, l, c⟩, k⟩
end
theorem hu_of {A : Around} {k : Nat} (hr : Room k A) : A.units + 1 < cLine := Nat.lt_of_le_of_lt (Nat.add_le_add_left (by decide : 1 ≤ 64) _) hr.units
theorem small1000 {n : Nat} (h : n ≤ 1000) : n < sizeLine := Nat.lt_of_le_of_lt h (by decide)
section
variable {X : Cx}
theorem pv (i : Nat) {x : Str} {pos : Pos} (hN : X.N[i]? = some x := by rfl) (hv : Vis X.env.scope x := by first | exact Or.inl rfl | exact Or.inr (Or.inl rfl) | exact Or.inr (Or.inr rfl)) (hd : (x == ("__debug__" : Str)) = false := by decide)
    (hcd : (x == ("__classdict__" : Str)) = false := by decide) : PE X (.Name x pos) (tVar i) := pe_var hN hv hd hcd
end
theorem iteF {A B : Prop} (h : B) : if false = true then A else B := by
  rw [if_neg Bool.false_ne_true]
  exact h
theorem iteT {A B : Prop} (h : A) : if true = true then A else B := by
  rw [if_pos rfl]
  exact h
theorem ite2 {c A B : Prop} [Decidable c] (h1 : c → A) (h2 : ¬ c → B) : if c then A else B := by
  by_cases h : c
  · rw [if_pos h]
    exact h1 h
  · rw [if_neg h]
    exact h2 h
def Same (H H' : Hp) : Prop := ∀ b o, H b = some o → H' b = some o
theorem Same.refl (H : Hp) : Same H H := fun _ _ h => h
theorem Same.trans {H H1 H2 : Hp} (a : Same H H1) (b : Same H1 H2) : Same H H2 := fun c o h => b c o (a c o h)
theorem Same.free {H H' : Hp} (e : Same H H') {l : Addr} (h : H' l = Option.none) : H l = Option.none := by
  cases q : H l with
  | none => rfl
  | some o =>
    rw [e l o q] at h
    cases h
theorem Same.seq {K : PySem.W.Frag} {H H' : Hp} {a : Addr} {xs : List V} (e : Same H H') (h : SqL K H a xs) : SqL K H' a xs := by
  rcases h with (h | ⟨o, h⟩) | h
  · exact .inl (.inl (e _ _ h))
  · exact .inl (.inr ⟨o, e _ _ h⟩)
  · exact .inr h
section
variable {X : Cx}
end
section
variable {κ : Type} [DecidableEq κ]
end
end L2
end
section
namespace L2
open PySem PySem.Spec PyProof.Rows
section
variable {prog : Program} {w : World} {A : Around} {R : Result → Shared → Prop} {s : Shared}
theorem comp_loop {elt target iter : Expr} {ifs : List Expr} {scope : Scope} {pos : Pos} {it acc : Value} {env : Env} (J : Nat → Shared → Prop)
    (turn : ∀ n s, J n s → wpAny (model prog w) A (pyNext it) (fun r s1 => match r with
      | none => R (.ok .next) s1
      | some v => wpAny (model prog w) A (letOwnedTupleGo target it v) (fun _ s2 => wpAny (model prog w) A (assign target env v) (fun _ s3 =>
          wpAny (model prog w) A (forIn ifs true fun c r => if r = true then do let ok ← isTrue c env (eval c env); pure (ForInStep.yield ok) else pure (ForInStep.yield r)) (fun ok s4 =>
            if ok = true then wpAny (model prog w) A (eval elt env) (fun x s5 => wpAny (model prog w) A (call (.builtin "list.append") [acc, x]) (fun _ s6 => ∃ m, m < n ∧ J m s6) (fun _ _ => False) s5) (fun _ _ => False) s4
            else ∃ m, m < n ∧ J m s4) (fun _ _ => False) s3) (fun _ _ => False) s2) (fun _ _ => False) s1) (fun _ _ => False) s)
    (n : Nat) (h : J n s) : codeAny (model prog w) A (.compLoop (.ListComp elt [⟨target, iter, ifs, 0⟩] scope pos) 0 it acc env) R s := by
  refine codeAny_loop rfl J (fun n s hJ => ?_) n h
  show wpAny _ A ((compTurn (.ListComp elt [⟨target, iter, ifs, 0⟩] scope pos) 0 it acc env).onRaise (fun x => do noteFrame x env; theTreesLotGoes x)) _ _ s
  refine wpAny_noted ?_
  rw [compTurn_list]
  have wk : ∀ {α : Type} {t : Sem α} {Q Q' : α → Shared → Prop} {E' : Value → Shared → Prop} {s : Shared}, wpAny (model prog w) A t Q (fun _ _ => False) s → (∀ a s, Q a s → Q' a s) → wpAny (model prog w) A t Q' E' s := fun h k => wpAny_mono h k fun _ _ f => f.elim
  refine wpAny_bind (wpAny_standAt (wpAny_bind (wk (turn n s hJ) fun r s1 h1 => ?_)))
  cases r with
  | none => exact wpAny_pure h1
  | some v =>
    refine wpAny_bind (wk h1 fun _ s2 h2 => wpAny_bind (wk h2 fun _ s3 h3 => wpAny_bind (wk h3 fun ok s4 h4 => ?_)))
    cases ok with
    | false => exact wpAny_pure ⟨rfl, h4⟩
    | true => exact wpAny_bind (wpAny_bind (wk h4 fun x s5 h5 => wpAny_bind (wk h5 fun _ s6 h6 => wpAny_pure (wpAny_pure ⟨rfl, h6⟩))))
end
def PTs (X : Cx) (ifs : List Expr) (t : TT) : Prop :=
  ∀ (pins : List (Addr × Obj)) (s : Shared) (σ : St) (H : Hp) (Q : Bool → Hp → Prop), Inv X pins σ H s → t σ H Q →
    wpAny (model X.prog X.w) X.A (forIn ifs true fun c r => if r = true then do let ok ← isTrue c X.env (eval c X.env); pure (ForInStep.yield ok) else pure (ForInStep.yield r)) (TP X pins σ Q) X.xe s
def tYes : TT := fun _ H Q => Q true H
theorem pts_nil {X : Cx} : PTs X [] tYes := fun _ _ _ H _ I h => wpAny_tests_nil ⟨H, I, h⟩
theorem pts_one {X : Cx} {c : Expr} {t : TT} (h : PT X c t) : PTs X [c] t := fun pins s σ H Q I hw => wpAny_tests_one (h pins s σ H Q I hw)
def capsOf (scope : Scope) (env : Env) : List (Str × Addr) := scope.names.foldl (fun cs y => if y.2 == .free then (match env.cells.lookup y.1 with | some c => (y.1, c) :: cs | none => cs) else cs) []
def compCx (X : Cx) (pins : List (Addr × Obj)) (N : List Str) (scope : Scope) (cl : List (Str × Addr)) (C : Addr) (fp : List Addr) (s : Shared) (H : Hp) : Cx :=
  { X with N := N, s₀ := s, H₀ := H, env := compEnvC scope cl C X.env, outer := X.stack, ex := fp, fn := fun _ => false, pn := X.pn ++ pins, xe := fun _ _ => False }
/-- what is asked of a comprehension's scope -/
structure CompOk (X : Cx) (N : List Str) (vs : Nat) (is : List Nat) (scope : Scope) (cl : List (Str × Addr)) : Prop where
  kind : scope.kind = .function
  nocell : ∀ y ∈ scope.names, y.2 ≠ .cell
  names : ∀ y ∈ scope.names, y.2 = .local → scope.names.lookup y.1 = some .local
  clos : closureFor scope X.env = pure cl
  subB : ∀ p ∈ cl, X.env.cells.lookup p.1 = some p.2
  hasB : ((relabel scope X.env).names.all fun y => !(y.2 == .cell || y.2 == .free) || (cl.lookup y.1).isSome) = true
  capsB : (is.zipIdx.all fun q => match N[vs + q.2]?, X.N[q.1]? with
    | some x, some y => x == y && (X.env.kindOf y == some .cell || X.env.kindOf y == some .free) && ((relabel scope X.env).names.lookup y == some .cell || (relabel scope X.env).names.lookup y == some .free)
    | _, _ => false) = true
  len : N.length = vs + is.length
theorem CompOk.sub {X : Cx} {N : List Str} {vs : Nat} {is : List Nat} {scope : Scope} {cl : List (Str × Addr)} (O : CompOk X N vs is scope cl) (x : Str) (c : Addr) (h : cl.lookup x = some c) : X.env.cells.lookup x = some c := O.subB (x, c) (PySem.mem_of_lookup h)
theorem CompOk.has {X : Cx} {N : List Str} {vs : Nat} {is : List Nat} {scope : Scope} {cl : List (Str × Addr)} (O : CompOk X N vs is scope cl) (x : Str) (h : (relabel scope X.env).names.lookup x = some .cell ∨ (relabel scope X.env).names.lookup x = some .free) : ∃ c, cl.lookup x = some c := by
  have go : ∀ k, (relabel scope X.env).names.lookup x = some k → (k == NameKind.cell || k == NameKind.free) = true → ∃ c, cl.lookup x = some c := fun k e hk => by
    have z := List.all_eq_true.mp O.hasB (x, k) (PySem.mem_of_lookup e)
    dsimp only at z
    rw [hk] at z
    exact Option.isSome_iff_exists.mp (by simpa using z)
  rcases h with h | h
  · exact go _ h rfl
  · exact go _ h rfl
theorem CompOk.caps {X : Cx} {N : List Str} {vs : Nat} {is : List Nat} {scope : Scope} {cl : List (Str × Addr)} (O : CompOk X N vs is scope cl) (j i : Nat) (h : is[j]? = some i) :
    ∃ x, N[vs + j]? = some x ∧ X.N[i]? = some x ∧ (X.env.kindOf x = some .cell ∨ X.env.kindOf x = some .free) ∧ ((relabel scope X.env).names.lookup x = some .cell ∨ (relabel scope X.env).names.lookup x = some .free) := by
  have z := List.all_eq_true.mp O.capsB (i, j) (by rw [List.mem_zipIdx_iff_getElem?]; exact h)
  dsimp only at z
  split at z
  · rename_i x y e1 e2
    simp only [Bool.and_eq_true, Bool.or_eq_true, beq_iff_eq] at z
    obtain ⟨⟨rfl, z2⟩, z3⟩ := z
    exact ⟨x, e1, e2, z2, z3⟩
  · cases z
theorem forIn_step {α β : Type} {f : α → β → Sem (ForInStep β)} {g : β → α → β} : ∀ (l : List α) (b : β), (∀ x ∈ l, ∀ b, f x b = pure (.yield (g b x))) → forIn l b f = (pure (l.foldl g b) : Sem β)
  | [], b, _ => by rw [List.forIn_nil]; rfl
  | x :: r, b, h => by
    rw [List.forIn_cons, h x List.mem_cons_self, List.foldl_cons]
    show (forIn r (g b x) f : Sem β) = _
    exact forIn_step r (g b x) fun y hy => h y (List.mem_cons_of_mem _ hy)
theorem caps_clos {scope : Scope} {env : Env} (h : ∀ y ∈ scope.names, y.2 = .free → (env.cells.lookup y.1).isSome = true) : closureFor scope env = pure (capsOf scope env) := by
  unfold closureFor capsOf
  dsimp only
  rw [forIn_step (g := fun cs y => if y.2 == .free then (match env.cells.lookup y.1 with | some c => (y.1, c) :: cs | none => cs) else cs) scope.names [] (fun y hy cs => ?_)]
  · rfl
  · obtain ⟨n, kind⟩ := y
    dsimp only
    by_cases hk : (kind == NameKind.free) = true
    · rw [if_pos hk, if_pos hk]
      have z := h (n, kind) hy (by simpa using hk)
      dsimp only at z
      obtain ⟨c, hc⟩ := Option.isSome_iff_exists.mp z
      unfold cellOf
      rw [hc]
      rfl
    · rw [if_neg hk, if_neg hk]
theorem caps_sub {scope : Scope} {env : Env} : ∀ p ∈ capsOf scope env, env.cells.lookup p.1 = some p.2 := by
  unfold capsOf
  suffices h : ∀ (l : List (Str × NameKind)) (acc : List (Str × Addr)), (∀ p ∈ acc, env.cells.lookup p.1 = some p.2) →
      ∀ p ∈ l.foldl (fun cs y => if y.2 == .free then (match env.cells.lookup y.1 with | some c => (y.1, c) :: cs | none => cs) else cs) acc, env.cells.lookup p.1 = some p.2 from h _ _ fun p hp => by simp at hp
  intro l
  induction l with
  | nil => intro acc h; exact h
  | cons y r ih =>
    intro acc h
    rw [List.foldl_cons]
    refine ih _ fun p hp => ?_
    split at hp
    · cases e : env.cells.lookup y.1 with
      | none => rw [e] at hp; exact h p hp
      | some c =>
        rw [e] at hp
        rcases List.mem_cons.mp hp with z | z
        · rw [z]; exact e
        · exact h p z
    · exact h p hp
theorem comp_ok {X : Cx} {N : List Str} {vs : Nat} {is : List Nat} {scope : Scope} (kind : scope.kind = .function)
    (c1 : (scope.names.all fun y => y.2 != .cell && (y.2 != .local || scope.names.lookup y.1 == some .local) && (y.2 != .free || (X.env.cells.lookup y.1).isSome)) = true)
    (c2 : ((relabel scope X.env).names.all fun y => !(y.2 == .cell || y.2 == .free) || ((capsOf scope X.env).lookup y.1).isSome) = true)
    (c3 : (is.zipIdx.all fun q => match N[vs + q.2]?, X.N[q.1]? with
      | some x, some y => x == y && (X.env.kindOf y == some .cell || X.env.kindOf y == some .free) && ((relabel scope X.env).names.lookup y == some .cell || (relabel scope X.env).names.lookup y == some .free)
      | _, _ => false) = true) (len : N.length = vs + is.length) : CompOk X N vs is scope (capsOf scope X.env) := by
  have h := List.all_eq_true.mp c1
  refine ⟨kind, fun y hy z => ?_, fun y hy z => ?_, caps_clos fun y hy z => ?_, caps_sub, c2, c3, len⟩
  · have q := h y hy
    rw [z] at q
    simp at q
  · have q := h y hy
    rw [z] at q
    simpa using q
  · have q := h y hy
    rw [z] at q
    simpa using q
def compSt (vs : Nat) (is : List Nat) (σ : St) : St := List.replicate vs none ++ is.map fun i => (σ[i]?).join
section
variable {X : Cx} {pins : List (Addr × Obj)} {σ : St} {H : Hp} {s : Shared} {N : List Str} {vs : Nat} {is : List Nat} {scope : Scope} {cl : List (Str × Addr)} {fp : List Addr}
theorem Inv.block {C : Addr} {h' : Heap} {tk : Nat} {m : Str → Option Value} (I : Inv X pins σ H s) (O : CompOk X N vs is scope cl) (hf : ∀ b ∈ fp, FpOk X pins H b) (hfo : ∀ b ∈ fp, b < s.heap.objs.size) (hC : s.heap.objs.size ≤ C) (hn : h'.Ns C m)
    (k : ∀ b o, s.heap.get? b = some o → h'.get? b = some o) : Inv (compCx X pins N scope cl C fp s H) [] (compSt vs is σ) H { s with heap := h', toks := tk } := by
  have hCf : ∀ b, b < s.heap.objs.size → b ≠ C := fun b hb z => by omega
  refine ⟨⟨I.ok.mod, O.kind, I.ok.glob, I.ok.blt, hC, fun x y c h1 h2 => I.ok.inj x y c (O.sub x c h1) (O.sub y c h2), O.has, (fun _ _ z => by cases z), I.ok.hd, I.ok.frames, .inl rfl, fun b hb => ⟨hCf b (hfo b hb), fun x c e => (hf b hb).2.2.2.2.1 x c (O.sub x c e)⟩, I.bs,
    Nat.le_trans I.ok.bsz I.sz, fun b o e hb => ?_, fun b hb hz => ?_, I.stack, I.stkFree⟩, rfl, I.bare, Un.kept k, ⟨m, hn, fun i x v h1 h2 h3 => ?_⟩, fun x c e => ?_, I.hok.fresh hC, fun x c e => I.freeC x c (O.sub x c e), fun p hp => ?_, I.hok.kept k, ?_⟩
  · rcases (hf b hb).2.2.2.1 with z | z
    · exact I.ok.noex b o e z
    · exact absurd (Nat.lt_of_lt_of_le (Nat.lt_of_lt_of_le (Heap.lt_size e) I.ok.bsz) z) (Nat.lt_irrefl _)
  · rcases List.mem_cons.mp (I.stkSub b hz) with z | z
    · exact (hf b hb).2.1 z
    · exact (hf b hb).2.2.1 z
  · unfold compSt at h2
    have hi : vs ≤ i := by
      rcases Nat.lt_or_ge i vs with z | z
      · rw [List.getElem?_append_left (by simpa using z), List.getElem?_replicate, if_pos z] at h2
        cases h2
      · exact z
    rw [List.getElem?_append_right (by simpa using hi), List.length_replicate, List.getElem?_map] at h2
    cases e : is[i - vs]? with
    | none => rw [e] at h2; cases h2
    | some j =>
      rw [e] at h2
      have h2' : (σ[j]?).join = some v := by simpa using h2
      have h2'' : σ[j]? = some (some v) := by
        cases q : σ[j]? with
        | none => rw [q] at h2'; cases h2'
        | some z => rw [q] at h2'; exact congrArg some h2'
      obtain ⟨y, e1, e2, e3, e4⟩ := O.caps _ _ e
      have : vs + (i - vs) = i := by omega
      rw [this] at e1
      have e1' : N[i]? = some x := h1
      rw [e1] at e1'
      cases e1'
      obtain ⟨m0, _, hl⟩ := I.loc
      have vis : Vis X.env.scope x := e3.elim (fun z => .inr (.inl z)) fun z => .inr (.inr z)
      obtain ⟨u, r, l⟩ := hl j x v e2 h2'' vis
      refine ⟨u, r, .inr ⟨e4, ?_⟩⟩
      rcases l with ⟨z, _⟩ | ⟨_, c, hc, q⟩
      · rcases e3 with z' | z' <;> rw [z] at z' <;> cases z'
      · obtain ⟨c', hc'⟩ := O.has x e4
        have := O.sub x c' hc'
        rw [hc] at this
        cases this
        obtain ⟨oc, g1, g2⟩ := q
        exact ⟨c, hc', oc, k _ _ g1, g2⟩
  · obtain ⟨v, oc, g1, g2⟩ := I.cell x c (O.sub x c e)
    exact ⟨v, oc, k _ _ g1, g2⟩
  · have hp' : p ∈ X.pn ++ pins := by
      have : p ∈ (X.pn ++ pins) ++ [] := hp
      simpa using this
    obtain ⟨e, n, ne, nf, d⟩ := I.pin p hp'
    refine ⟨k _ _ e, n, hCf _ (Heap.lt_size e), fun z => ?_, d⟩
    rcases List.mem_cons.mp (I.stkSub p.1 z) with y | y
    · exact ne y
    · exact nf y
  · show (compSt vs is σ).length = N.length
    unfold compSt
    rw [O.len]
    simp
theorem Inv.unblock {C : Addr} {τ : St} {H' : Hp} {s' : Shared} {pl : List (Addr × Obj)} (I : Inv X pins σ H s) (hf : ∀ b ∈ fp, FpOk X pins H b) (I' : Inv (compCx X pins N scope cl C fp s H) pl τ H' s') : Inv X pins σ H' s' :=
  I.call' (ch := fp) I'.os I'.base I'.hok I'.bare fun b hb => ⟨(hf b hb).2.2.2.1, (hf b hb).2.1, (hf b hb).2.2.2.2.1, (hf b hb).2.2.2.2.2⟩
theorem Inv.track {D : Addr} {xs : List V} {its : List Value} {n : Nat} (I : Inv X pins σ H s) (hn : H D = none) (hL : D ≠ X.env.locals) (h1 : D ∈ X.ex ∨ X.s₀.heap.objs.size ≤ D) (h2 : ∀ x c, X.env.cells.lookup x = some c → c ≠ D) (h3 : ∀ p ∈ X.pn ++ pins, p.1 ≠ D)
    (hz : xs.length ≤ sizeLine) (hv : Vals xs its) (hg : s.heap.get? D = some { cls := .type "list", data := .seq its.toArray n }) : Inv X pins σ (upd H D (.lst xs)) s := by
  have nD : ∀ b u, H b = some u → b ≠ D := fun b u e z => by rw [z, hn] at e; cases e
  have J := I.step (h' := s.heap) (H' := upd H D (.lst xs)) (g' := s.gens) (t' := s.toks) (d' := s.drawn) (ch := [D]) (fun b hb => by
      have e : b = D := by simpa using hb
      subst e
      exact ⟨h1, hL, h2, h3⟩) (fun _ _ _ _ _ e _ => e) (fun _ o _ _ _ e _ => ⟨o.slots, e⟩) (fun b o hb e n => by rw [upd_ne (by simpa using hb)]; exact n) (fun b o _ e => ⟨o, e⟩)
    (fun b ys e => by rw [upd_ne (nD b _ e)]; exact e) (fun b o u e => by rw [upd_ne (nD b _ e)]; exact e) (fun b ps e => ⟨#[], by rw [upd_ne (nD b _ e), e]; simp⟩) (fun _ hm => hm) (fun b u e => ?_) I.bare
  · exact J
  · by_cases hb : b = D
    · subst hb
      rw [upd_same] at e
      cases e
      exact ⟨hz, its, n, hv, hg⟩
    · rw [upd_ne hb] at e
      exact (I.hok b u e).stay (fun _ _ _ q => q) (fun c q => by rw [upd_ne (nD c _ q)]; exact q) fun c ys q => by rw [upd_ne (nD c _ q)]; exact q
end
def CompStep (J : It) (g : TG) (tt : TT) (te : TE) (Q : VK) (W : Nat → Nat → List V → St → Hp → Prop) : Prop :=
  ∀ i m acc τ H, W i m acc τ H → (J.stop i H ∧ acc.length ≤ sizeLine ∧ ∀ p, H p = none → Q (.ref p) (upd H p (.lst acc))) ∨
    (J.go i H ∧ acc.length < sizeLine ∧ ∃ M : List V → St → Hp → Prop, (∀ acc' τ' H', M acc' τ' H' → ∃ m', m' < m ∧ W (i + 1) m' acc' τ' H') ∧
      ∀ x H', J.yld i H x H' → g x τ H' fun τ2 H2 => tt τ2 H2 fun b H3 => if b = true then te τ2 H3 fun y H4 => M (acc ++ [y]) τ2 H4 else M acc τ2 H3)
def tComp (wi : TI) (vs : Nat) (is : List Nat) (g : TG) (tt : TT) (te : TE) : TE := fun σ H Q => wi σ H fun J H1 => ∃ W : Nat → Nat → List V → St → Hp → Prop, (∃ m, W 0 m [] (compSt vs is σ) H1) ∧ CompStep J g tt te Q W
/-- behind the block: the list is made and tracked; the block's frame is still there -/
structure CEnd (X : Cx) (pins : List (Addr × Obj)) (σ : St) (Q : VK) (D C : Addr) (s' : Shared) (H' : Hp) : Prop where
  inv : Inv X pins σ H' s'
  q : Q (.ref D) H'
  ns : ∃ m, s'.heap.Ns C m
  free : H' C = none
  nl : C ≠ X.env.locals
  up : X.s₀.heap.objs.size ≤ C
  nc : ∀ x c, X.env.cells.lookup x = some c → c ≠ C
  np : ∀ p ∈ X.pn ++ pins, p.1 ≠ C
theorem CEnd.go {X : Cx} {pins : List (Addr × Obj)} {σ : St} {Q : VK} {D C : Addr} {s' : Shared} {H' : Hp} (e : CEnd X pins σ Q D C s' H') {h' : Heap} (sb : Heap.SameBut C s'.heap h') : Inv X pins σ H' { s' with heap := h' } :=
  e.inv.turned (t' := s'.toks) (fun b o hb q => (sb.2 b hb).trans q) e.free e.nl (.inr e.up) e.nc e.np
section
variable {X : Cx} {N : List Str} {vs : Nat} {is : List Nat} {scope : Scope} {tg iter elt : Expr} {ifs : List Expr} {pos : Pos} {wi : TI} {g : TG} {tt : TT} {te : TE}
theorem comp_run {cl : List (Str × Addr)} {pins : List (Addr × Obj)} {σ : St} {H : Hp} {s : Shared} {J : It} {it : Addr} {fp : List Addr} {tn : Nat → Heap → Prop} {use : Option (Value → Sem Unit)} {Q : Value → Shared → Prop} {QQ : VK} (hc : X.calm = true) (O : CompOk X N vs is scope cl)
    (I : Inv X pins σ H s) (T : Turn X.prog X.w X.K tg J fp it tn) (hf : ∀ b ∈ fp, FpOk X pins H b) (st : tn 0 s.heap)
    (hg : ∀ C fp s H, PG (compCx X pins N scope cl C fp s H) tg g) (ht : ∀ C fp s H, PTs (compCx X pins N scope cl C fp s H) ifs tt) (he : ∀ C fp s H, PE (compCx X pins N scope cl C fp s H) elt te)
    (W : Nat → Nat → List V → St → Hp → Prop) (w0 : ∃ m, W 0 m [] (compSt vs is σ) H) (step : CompStep J g tt te QQ W)
    (fin : ∀ (D C : Addr) (s' : Shared) (H' : Hp), CEnd X pins σ QQ D C s' H' → compPost (model X.prog X.w) X.A X.xe use Q (.ref D) C (.ok .next) s') :
    wpAny (model X.prog X.w) X.A (newList []) (fun acc s3 => wpAny (model X.prog X.w) X.A (newFunctionEnv scope X.env.globals cl [] X.env.qual none .none (some X.env)) (fun cenv s4 =>
      codeAny (model X.prog X.w) X.A (.compStart (.ListComp elt [⟨tg, iter, ifs, 0⟩] scope pos) 0 (.ref it) acc { cenv with scope := relabel scope X.env }) (compPost (model X.prog X.w) X.A X.xe use Q acc cenv.locals) s4) X.xe s3) X.xe s := by
  refine wpAny_newObj_type (wpAny_newFunctionEnv O.nocell (by intro y hy; simp at hy) (fun h1 hns hsb => ?_) O.kind)
  dsimp only at hns hsb ⊢
  generalize hP : s.heap.push { cls := .type "list", dict := none, data := .seq ([] : List Value).toArray } = hp at hns hsb ⊢
  have sz : hp.objs.size = s.heap.objs.size + 1 := by rw [← hP, Heap.size_push]
  have gD0 : hp.get? s.heap.objs.size = some { cls := .type "list", data := .seq ([] : List Value).toArray 0 } := by rw [← hP]; exact Heap.get?_push_size _ rfl
  generalize hCn : hp.objs.size = C at hns hsb sz ⊢
  generalize hDn : s.heap.objs.size = D at sz gD0 ⊢
  have hDC : D ≠ C := by omega
  have hsD : s.heap.objs.size ≤ D := by omega
  have hsC : s.heap.objs.size ≤ C := by omega
  have far : ∀ b, b < s.heap.objs.size → b ≠ D ∧ b ≠ C := fun b hb => ⟨Nat.ne_of_lt (Nat.lt_of_lt_of_le hb hsD), Nat.ne_of_lt (Nat.lt_of_lt_of_le hb hsC)⟩
  have old : ∀ b o, s.heap.get? b = some o → h1.get? b = some o := fun b o e => by
    have hb := Heap.lt_size e
    exact hsb.extBut b o (far b hb).2 (Heap.get?_push_of_some _ (hP ▸ Heap.get?_push_of_some _ e))
  have hD1 : h1.get? D = some { cls := .type "list", data := .seq ([] : List Value).toArray 0 } := hsb.extBut D _ hDC (Heap.get?_push_of_some _ gD0)
  have fpl : ∀ b ∈ fp, b < s.heap.objs.size := fun b hb => by
    obtain ⟨o, e, _⟩ := T.obj 0 _ st b hb
    exact Heap.lt_size e
  have hDf : ∀ b ∈ fp, D ≠ b := fun b hb => Ne.symm (far b (fpl b hb)).1
  have hCf : ∀ b ∈ fp, b ≠ C := fun b hb => (far b (fpl b hb)).2
  have I1 := I.block (tk := s.toks + ([] : List (Str × Value)).length) O hf fpl hsC hns old
  have hHD : H D = none := I.hok.fresh hsD
  obtain ⟨m0, w0⟩ := w0
  have pnOf : ∀ {p : Addr × Obj} {l : List (Addr × Obj)}, p ∈ (compCx X pins N scope cl C fp s H).pn ++ l → p ∈ X.pn ++ pins ∨ p ∈ l := fun {p l} hp => List.mem_append.mp hp
  have pnLt : ∀ p ∈ X.pn ++ pins, p.1 < s.heap.objs.size := fun p hp => Heap.lt_size (I.pin p hp).1
  have celLt : ∀ x c, X.env.cells.lookup x = some c → c < s.heap.objs.size := fun x c e => by
    obtain ⟨v, q⟩ := I.cell x c e
    exact q.lt
  have stLt : ∀ b ∈ frs X.stack, b < s.heap.objs.size := fun b hb => by
    rcases List.mem_cons.mp (I.stkSub b hb) with y | y
    · rw [y]; exact I.lt
    · rcases Nat.lt_or_ge b s.heap.objs.size with z | z
      · exact z
      · exact absurd y (I.nofs z)
  -- the made list, as it stands, is pinned while a turn runs
  have pinD : ∀ {τ : St} {H' : Hp} {s' : Shared} {ob : Obj}, Inv (compCx X pins N scope cl C fp s H) [] τ H' s' → H' D = none → s'.heap.get? D = some ob → (∀ v, ob.data ≠ .cell v) → Inv (compCx X pins N scope cl C fp s H) [(D, ob)] τ H' s' := fun {τ H' s' ob} J hn e hd =>
    J.pins_of fun p hp => by
      have ep : p = (D, ob) := by simpa using hp
      subst ep
      exact ⟨e, hn, hDC, fun z => (far D (stLt D z)).1 rfl, hd⟩
  have stat : ∀ {H' : Hp} {ob : Obj}, (∀ b ∈ fp, H' b = none) → ∀ b ∈ fp, FpOk (compCx X pins N scope cl C fp s H) [(D, ob)] H' b := fun {H' ob} hn b hb => by
    refine ⟨hn b hb, hCf b hb, fun z => ?_, .inl hb, fun x c e => (hf b hb).2.2.2.2.1 x c (O.sub x c e), fun p hp => ?_⟩
    · rcases List.mem_cons.mp (I.stkSub b z) with y | y
      · exact (hf b hb).2.1 y
      · exact (hf b hb).2.2.1 y
    · rcases pnOf hp with z | z
      · exact (hf b hb).2.2.2.2.2 p z
      · have ep : p = (D, ob) := by simpa using z
        subst ep
        exact hDf b hb
  have ptD : ∀ {τ : St} {H' : Hp} {s' : Shared} {ob : Obj} {pl : List (Addr × Obj)}, Inv (compCx X pins N scope cl C fp s H) ([(D, ob)] ++ pl) τ H' s' → s'.heap.get? D = some ob ∧ H' D = none := fun {τ H' s' ob pl} J =>
    have z := J.pin (D, ob) (List.mem_append_right _ (List.mem_append_left _ (by simp)))
    ⟨z.1, z.2.1⟩
  have loop : ∀ s2 : Shared, s2 = { s with heap := h1, toks := s.toks + ([] : List (Str × Value)).length } → codeAny (model X.prog X.w) X.A (.compLoop (.ListComp elt [⟨tg, iter, ifs, 0⟩] scope pos) 0 (.ref it) (.ref D) (compEnvC scope cl C X.env))
      (compPost (model X.prog X.w) X.A X.xe use Q (.ref D) C) s2 := by
    rintro s2 rfl
    refine comp_loop (fun n s' => ∃ i acc τ H' its e, Inv (compCx X pins N scope cl C fp s H) [] τ H' s' ∧ tn i s'.heap ∧ (∀ b ∈ fp, H' b = none) ∧ H' D = none ∧ Vals acc its ∧ s'.heap.get? D = some { cls := .type "list", data := .seq its.toArray e } ∧ W i n acc τ H') ?_ m0
      ⟨0, [], compSt vs is σ, H, [], 0, I1, T.keep _ _ _ st fun b _ o e => old b o e, fun b hb => (hf b hb).1, hHD, .nil, hD1, w0⟩
    rintro n s3 ⟨i, acc, τ, H3, its, ep, I3, st3, fr3, hD3, va, g3, w3⟩
    have I3p := pinD I3 hD3 g3 (fun v z => by cases z)
    rcases step i n acc τ H3 w3 with ⟨stop, hz, qn⟩ | ⟨go, hz, M, hM, stp⟩
    · refine wpAny_mono (T.done (compCx X pins N scope cl C fp s H) rfl rfl rfl hc i _ s3 τ H3 (fun _ _ => False) I3p (stat fr3) st3 stop) (fun r s4 ⟨hr, I4⟩ => ?_) fun _ _ f => f
      subst hr
      have I4' : Inv (compCx X pins N scope cl C fp s H) ([(D, _)] ++ []) τ H3 s4 := I4
      obtain ⟨g4, _⟩ := ptD I4'
      have I5 : Inv X pins σ H3 s4 := I.unblock hf I4
      have I6 : Inv X pins σ (upd H3 D (.lst acc)) s4 := I5.track hD3 (Ne.symm (far _ I.lt).1) (.inr (Nat.le_trans I.sz hsD)) (fun x c e => (far c (celLt x c e)).1) (fun p hp => (far _ (pnLt p hp)).1) hz va g4
      obtain ⟨mC, hnC, _⟩ := I4.loc
      refine fin D C s4 _ ⟨I6, qn D hD3, ⟨mC, hnC⟩, ?_, Ne.symm (far _ I.lt).2, Nat.le_trans I.sz hsC, fun x c e => (far c (celLt x c e)).2, fun p hp => (far _ (pnLt p hp)).2⟩
      rw [upd_ne (Ne.symm hDC)]
      exact I4.free
    · refine wpAny_mono (T.item (compCx X pins N scope cl C fp s H) rfl rfl rfl hc i _ s3 τ H3 (fun _ _ => False) I3p (stat fr3) st3 go) (fun r s4 ⟨u, hr, h4⟩ => ?_) fun _ _ f => f
      subst hr
      refine thn h4 fun _ s5 ⟨x, H5, I5, r5, y5, st5, fr5⟩ => ?_
      have I5' := I5.pinned (stat fr5) (T.obj _ _ st5)
      refine thn (hg C fp s H _ s5 τ H5 x u _ I5' r5 (stp x H5 y5)) fun _ s6 ⟨τ6, H6, I6, q6⟩ => ?_
      refine thn (ht C fp s H _ s6 τ6 H6 _ I6 q6) fun ok s7 ⟨H7, I7, q7⟩ => ?_
      have keepT : ∀ {τ' : St} {H' : Hp} {s' : Shared} {ob : Obj}, Inv (compCx X pins N scope cl C fp s H) ([(D, ob)] ++ pinsAt fp s5.heap) τ' H' s' → (∀ b ∈ fp, ∀ o, s5.heap.get? b = some o → s'.heap.get? b = some o) ∧ ∀ b ∈ fp, H' b = none := fun {τ' H' s' ob} J =>
        ⟨fun b hb o e => (J.pin (b, o) (List.mem_append_right _ (List.mem_append_right _ (mem_pinsAt hb e)))).1, fun b hb => by
          obtain ⟨o, e, d⟩ := T.obj _ _ st5 b hb
          exact (J.pin (b, o) (List.mem_append_right _ (List.mem_append_right _ (mem_pinsAt hb e)))).2.1⟩
      cases ok with
      | false =>
        obtain ⟨m', hm, w7⟩ := hM _ _ _ q7
        obtain ⟨k1, k2⟩ := keepT I7
        obtain ⟨g7, n7⟩ := ptD I7
        exact ⟨m', hm, i + 1, acc, τ6, H7, its, ep, I7.pins_of (fun p hp => by simp at hp), T.keep _ _ _ st5 k1, k2, n7, va, g7, w7⟩
      | true =>
        refine thn (he C fp s H _ s7 τ6 H7 _ I7 q7) fun uy s8 ⟨y, H8, I8, r8, q8⟩ => ?_
        obtain ⟨m', hm, w8⟩ := hM _ _ _ q8
        obtain ⟨k1, k2⟩ := keepT I8
        obtain ⟨g8, n8⟩ := ptD I8
        refine wpAny_list_append_plain (hsz := by have := va.length; simp; omega) ⟨_, g8⟩ fun h9 ⟨e9, hl9⟩ sb9 => ?_
        have I8' : Inv (compCx X pins N scope cl C fp s H) [] τ6 H8 s8 := I8.pins_of fun p hp => by simp at hp
        have I9 : Inv (compCx X pins N scope cl C fp s H) [] τ6 H8 { s8 with heap := h9 } := I8'.turned (it := D) (t' := s8.toks) (fun b o hb e => (sb9.2 b hb).trans e) n8 hDC (.inr hsD)
          (fun x c e => (far c (celLt x c (O.sub x c e))).1) (fun p hp => by
            rcases pnOf hp with q | q
            · exact (far _ (pnLt p q)).1
            · simp at q)
        refine ⟨m', hm, i + 1, acc ++ [y], τ6, H8, its ++ [uy], e9, I9, T.keep _ _ _ st5 fun b hb o e => (sb9.2 b (Ne.symm (hDf b hb))).trans (k1 b hb o e), k2, n8, Vals.append va (.cons r8 .nil), ?_, w8⟩
        have ea : its.toArray.push uy = (its ++ [uy]).toArray := by simp
        rw [← ea]
        exact hl9
  exact codeAny_compStart_list (loop _ rfl) (T.self _ 0 _ _ _ (T.keep _ _ _ st fun b _ o e => old b o e) (loop _ rfl))
theorem pe_comp {cl : List (Str × Addr)} (hc : X.calm = true) (O : CompOk X N vs is scope cl) (hi : PI X tg iter wi)
    (hg : ∀ pins C fp s H, PG (compCx X pins N scope cl C fp s H) tg g) (ht : ∀ pins C fp s H, PTs (compCx X pins N scope cl C fp s H) ifs tt) (he : ∀ pins C fp s H, PE (compCx X pins N scope cl C fp s H) elt te)
    (hs : ∀ x, foldedSetIterable iter X.env x = pure x := by intro _; rfl) : PE X (.ListComp elt [⟨tg, iter, ifs, 0⟩] scope pos) (tComp wi vs is g tt te) := by
  intro pins s σ H Q I h
  rw [eval_ListComp]
  refine wpAny_comprehension_free (use := none) rfl hs O.clos O.kind O.names (thn (hi pins s σ H _ I h) fun v s1 h1 => thn h1 fun itv s2 h2 => ?_)
  obtain ⟨it, fp, tn, J, H2, e, I2, T, st2, f2, W, w0, step⟩ := h2
  subst e
  refine comp_run hc O I2 T f2 st2 (hg pins) (ht pins) (he pins) W w0 step fun D C s' H' ce => ?_
  exact ⟨_, ce.ns.choose_spec, fun h' sb => ⟨.ref D, H', ce.go sb, rfl, ce.q⟩⟩
theorem ps_setC {cl : List (Str × Addr)} {i : Nat} {x : Str} {px spos : Pos} (hN : X.N.Nodup) (hi' : X.N[i]? = some x) (hx : X.env.scope.names.lookup x = some .local) (hc : X.calm = true) (O : CompOk X N vs is scope cl) (hi : PI X tg iter wi)
    (hg : ∀ pins C fp s H, PG (compCx X pins N scope cl C fp s H) tg g) (ht : ∀ pins C fp s H, PTs (compCx X pins N scope cl C fp s H) ifs tt) (he : ∀ pins C fp s H, PE (compCx X pins N scope cl C fp s H) elt te)
    (hsw : swapsWith (.ListComp elt [⟨tg, iter, ifs, 0⟩] scope pos) (some (.Name x px)) spos.line X.env = pure true := by rfl) (hs : ∀ x, foldedSetIterable iter X.env x = pure x := by intro _; rfl) :
    PS X (.Assign [.Name x px] (.ListComp elt [⟨tg, iter, ifs, 0⟩] scope pos) spos) (tAsg (tComp wi vs is g tt te) (gName i)) := by
  intro pins s σ H D I h
  rw [exec_Assign_Name_used _ _ _ _ hsw]
  refine wpAny_bind (wpAny_standAt (wpAny_bind ?_))
  show wpAny _ _ (comprehension (.ListComp elt [⟨tg, iter, ifs, 0⟩] scope pos) scope X.env _ (newList []) false (eval iter X.env) (some (assign (.Name x px) X.env)) >>= fun _ => pure ()) _ _ s
  refine wpAny_bind (thn (wpAny_comprehension_free (use := some (assign (.Name x px) X.env)) (Q := fun _ s' => SP X pins D .next s') rfl hs O.clos O.kind O.names (thn (hi pins s σ H _ I h) fun v s1 h1 => thn h1 fun itv s2 h2 => ?_)) fun _ s' q => wpAny_pure (wpAny_pure q))
  obtain ⟨it, fp, tn, J, H2, e, I2, T, st2, f2, W, w0, step⟩ := h2
  subst e
  refine comp_run hc O I2 T f2 st2 (hg pins) (ht pins) (he pins) W w0 step fun L C s' H' ce => ?_
  refine wpAny_assign_Name (store_ok2 (v := .ref L) ce.inv hN hi' (.inl hx) rfl (fun s3 I3 ⟨a, sb, ha⟩ => ?_) (.inr hx))
  have naC : C ≠ a := by
    rcases ha with z | z
    · rw [z]; exact ce.nl
    · exact Ne.symm (ce.nc x a z)
  obtain ⟨mC, hn⟩ := ce.ns
  refine ⟨mC, hn.sameBut sb naC, fun h' sb' => ⟨_, H', I3.turned (t' := s3.toks) (fun b o hb q => (sb'.2 b hb).trans q) ce.free ce.nl (.inr ce.up) ce.nc ce.np, ce.q⟩⟩
end
theorem comp_list {K : PySem.W.Frag} {a : Addr} {xs : List V} {g : TG} {tt : TT} {te : TE} {Q : VK} {τ0 : St} {H : Hp} (Pv : Nat → List V → St → Hp → Prop) (hz : xs.length ≤ sizeLine) (h0 : Pv 0 [] τ0 H) (hl : ∀ i acc τ H, i ≤ xs.length → Pv i acc τ H → SqL K H a xs ∧ acc.length ≤ i)
    (hs : ∀ i x acc τ H, xs[i]? = some x → Pv i acc τ H → g x τ H fun τ2 H2 => tt τ2 H2 fun b H3 => if b = true then te τ2 H3 fun y H4 => Pv (i + 1) (acc ++ [y]) τ2 H4 else Pv (i + 1) acc τ2 H3)
    (hd : ∀ acc τ H, Pv xs.length acc τ H → ∀ p, H p = none → Q (.ref p) (upd H p (.lst acc))) :
    ∃ W : Nat → Nat → List V → St → Hp → Prop, (∃ m, W 0 m [] τ0 H) ∧ CompStep (Itl K a) g tt te Q W := by
  refine ⟨fun i m acc τ H => m = xs.length - i ∧ i ≤ xs.length ∧ Pv i acc τ H, ⟨xs.length, by simp, Nat.zero_le _, h0⟩, ?_⟩
  rintro i m acc τ H ⟨rfl, hi, p⟩
  obtain ⟨q, hacc⟩ := hl i acc τ H hi p
  by_cases hlt : i < xs.length
  · refine .inr ⟨⟨xs, xs[i], q, by simp [hlt]⟩, by omega, Pv (i + 1), fun acc' τ' H' p' => ⟨xs.length - (i + 1), by omega, rfl, hlt, p'⟩, fun x H' y => ?_⟩
    obtain ⟨e, y⟩ := y
    subst e
    exact hs i x acc τ _ (y xs q) p
  · have e : i = xs.length := by omega
    subst e
    exact .inl ⟨⟨xs, q, Nat.le_refl _⟩, by omega, hd acc τ H p⟩
theorem comp_range {lo : Int} {n : Nat} {g : TG} {tt : TT} {te : TE} {Q : VK} {τ0 : St} {H : Hp} (Pv : Nat → List V → St → Hp → Prop) (hz : n ≤ sizeLine) (h0 : Pv 0 [] τ0 H) (hl : ∀ i acc τ H, i ≤ n → Pv i acc τ H → acc.length ≤ i)
    (hs : ∀ i acc τ H, i < n → Pv i acc τ H → g (.int (lo + i)) τ H fun τ2 H2 => tt τ2 H2 fun b H3 => if b = true then te τ2 H3 fun y H4 => Pv (i + 1) (acc ++ [y]) τ2 H4 else Pv (i + 1) acc τ2 H3)
    (hd : ∀ acc τ H, Pv n acc τ H → ∀ p, H p = none → Q (.ref p) (upd H p (.lst acc))) :
    ∃ W : Nat → Nat → List V → St → Hp → Prop, (∃ m, W 0 m [] τ0 H) ∧ CompStep (Itr lo n) g tt te Q W := by
  refine ⟨fun i m acc τ H => m = n - i ∧ i ≤ n ∧ Pv i acc τ H, ⟨n, by simp, Nat.zero_le _, h0⟩, ?_⟩
  rintro i m acc τ H ⟨rfl, hi, p⟩
  have hacc := hl i acc τ H hi p
  by_cases hlt : i < n
  · refine .inr ⟨hlt, by omega, Pv (i + 1), fun acc' τ' H' p' => ⟨n - (i + 1), by omega, rfl, hlt, p'⟩, fun x H' y => ?_⟩
    obtain ⟨e, y⟩ := y
    subst e y
    exact hs i acc τ _ hlt p
  · have e : i = n := by omega
    subst e
    exact .inl ⟨Nat.le_refl _, by omega, hd acc τ H p⟩
end L2
end
section
namespace SetIt
open PySem
def Ris (xs : Array Nat) : Prop := ∀ i j, i < j → j < xs.size → xs.getD i 0 < xs.getD j 0
theorem getD_any (xs : Array Nat) (i d e : Nat) (h : i < xs.size) : xs.getD i d = xs.getD i e := by
  simp [Array.getD, h]
structure Cut (xs : Array Nat) (j p : Nat) : Prop where
  le : p ≤ xs.size
  lo : ∀ i, i < p → xs.getD i 0 < j
  hi : ∀ i, p ≤ i → i < xs.size → j ≤ xs.getD i 0
theorem go_cut {xs : Array Nat} (R : Ris xs) (j : Nat) : ∀ (fuel lo hi : Nat), hi - lo ≤ fuel → lo ≤ hi → hi ≤ xs.size →
    (∀ i, i < lo → xs.getD i 0 < j) → (∀ i, hi ≤ i → i < xs.size → j ≤ xs.getD i 0) → Cut xs j (SetTable.below.go xs j fuel lo hi)
  | 0, lo, hi, hf, h1, h2, hl, hh => by
    have e : lo = hi := by omega
    subst e
    exact ⟨h2, hl, hh⟩
  | fuel + 1, lo, hi, hf, h1, h2, hl, hh => by
    unfold SetTable.below.go
    by_cases hlt : lo < hi
    · rw [if_pos hlt]
      have hm1 : (lo + hi) / 2 < hi := by omega
      have hm0 : lo ≤ (lo + hi) / 2 := by omega
      dsimp only
      have hms : (lo + hi) / 2 < xs.size := by omega
      rw [getD_any xs _ j 0 hms]
      by_cases hc : xs.getD ((lo + hi) / 2) 0 < j
      · rw [if_pos hc]
        refine go_cut R j fuel _ hi (by omega) (by omega) h2 (fun i hi' => ?_) hh
        by_cases he : i = (lo + hi) / 2
        · rw [he]; exact hc
        · exact Nat.lt_trans (R i _ (by omega) hms) hc
      · rw [if_neg hc]
        refine go_cut R j fuel lo _ (by omega) hm0 (by omega) hl (fun i hi' hs => ?_)
        by_cases he : i = (lo + hi) / 2
        · rw [he]; omega
        · have := R _ i (by omega : (lo + hi) / 2 < i) hs; omega
    · rw [if_neg hlt]
      have e : lo = hi := by omega
      subst e
      exact ⟨h2, hl, hh⟩
theorem below_cut {xs : Array Nat} (R : Ris xs) (j : Nat) : Cut xs j (SetTable.below xs j) :=
  go_cut R j xs.size 0 xs.size (by omega) (Nat.zero_le _) (Nat.le_refl _) (fun i h => absurd h (Nat.not_lt_zero _)) (fun i h h' => by omega)
theorem below_next {xs : Array Nat} (R : Ris xs) (i : Nat) (h : i < xs.size) : SetTable.below xs (xs.getD i 0 + 1) = i + 1 := by
  have c := below_cut R (xs.getD i 0 + 1)
  have h1 : i < SetTable.below xs (xs.getD i 0 + 1) := by
    rcases Nat.lt_or_ge i (SetTable.below xs (xs.getD i 0 + 1)) with g | g
    · exact g
    · have := c.hi i g h; omega
  rcases Nat.lt_or_ge (i + 1) (SetTable.below xs (xs.getD i 0 + 1)) with g | g
  · have a := c.lo (i + 1) g
    have b := R i (i + 1) (Nat.lt_succ_self _) (Nat.lt_of_lt_of_le g c.le)
    omega
  · omega
theorem below_zero {xs : Array Nat} (R : Ris xs) : SetTable.below xs 0 = 0 := by
  have c := below_cut R 0
  rcases Nat.eq_zero_or_pos (SetTable.below xs 0) with g | g
  · exact g
  · exact absurd (c.lo 0 g) (Nat.not_lt_zero _)
theorem size_insertAt {α : Type} (xs : Array α) (p : Nat) (x : α) (h : p ≤ xs.size) : (SetTable.insertAt xs p x).size = xs.size + 1 := by
  unfold SetTable.insertAt
  simp only [Array.size_append, Array.size_push, Array.size_extract]
  omega
theorem getD_insertAt (xs : Array Nat) (p x i : Nat) (h : p ≤ xs.size) :
    (SetTable.insertAt xs p x).getD i 0 = if i < p then xs.getD i 0 else if i = p then x else xs.getD (i - 1) 0 := by
  have e : ∀ (ys : Array Nat) (k : Nat), ys.getD k 0 = (ys[k]?).getD 0 := fun ys k => by simp [Array.getD_eq_getD_getElem?]
  rw [e, e, e]
  unfold SetTable.insertAt
  have hs : ((xs.extract 0 p).push x).size = p + 1 := by rw [Array.size_push, Array.size_extract]; omega
  rw [Array.getElem?_append, hs]
  by_cases h1 : i < p
  · rw [if_pos h1, if_pos (by omega), Array.getElem?_push, if_neg (by rw [Array.size_extract]; omega), Array.getElem?_extract, if_pos (by omega)]
    simp
  · rw [if_neg h1]
    by_cases h2 : i = p
    · subst h2
      rw [if_pos rfl, if_pos (by omega), Array.getElem?_push, if_pos (by rw [Array.size_extract]; omega)]
      rfl
    · rw [if_neg h2, if_neg (by omega), Array.getElem?_extract]
      by_cases h3 : i - (p + 1) < min xs.size xs.size - p
      · rw [if_pos h3, show p + (i - (p + 1)) = i - 1 by omega]
      · rw [if_neg h3]
        have : xs[i - 1]? = none := Array.getElem?_eq_none (by omega)
        rw [this]
theorem ris_insert {xs : Array Nat} (R : Ris xs) {j : Nat} (hj : (xs[SetTable.below xs j]? == some j) = false) : Ris (SetTable.insertAt xs (SetTable.below xs j) j) := by
  have c := below_cut R j
  have hgt : ∀ i, SetTable.below xs j ≤ i → i < xs.size → j < xs.getD i 0 := fun i hi hs => by
    rcases Nat.eq_or_lt_of_le hi with g | g
    · have a := c.hi i hi hs
      rcases Nat.eq_or_lt_of_le a with q | q
      · rw [g] at hj
        have : xs[i]? = some j := by
          rw [Array.getElem?_eq_getElem hs]
          have : xs.getD i 0 = xs[i] := by simp [Array.getD, hs]
          rw [← this, ← q]
        rw [this] at hj
        simp at hj
      · exact q
    · exact Nat.lt_of_le_of_lt (c.hi _ (Nat.le_refl _) (Nat.lt_trans g hs)) (R _ _ g hs)
  intro a b hab hb
  rw [size_insertAt _ _ _ c.le] at hb
  rw [getD_insertAt _ _ _ _ c.le, getD_insertAt _ _ _ _ c.le]
  by_cases h1 : a < SetTable.below xs j
  · rw [if_pos h1]
    by_cases h2 : b < SetTable.below xs j
    · rw [if_pos h2]; exact R a b hab (Nat.lt_of_lt_of_le h2 c.le)
    · rw [if_neg h2]
      by_cases h3 : b = SetTable.below xs j
      · rw [if_pos h3]; exact c.lo a h1
      · rw [if_neg h3]
        exact Nat.lt_trans (c.lo a h1) (hgt (b - 1) (by omega) (by omega))
  · rw [if_neg h1, if_neg (show ¬ b < SetTable.below xs j by omega), if_neg (show ¬ b = SetTable.below xs j by omega)]
    by_cases h3 : a = SetTable.below xs j
    · rw [if_pos h3]; exact hgt _ (by omega) (by omega)
    · rw [if_neg h3]; exact R _ _ (by omega) (by omega)
theorem notLive {t : SetTable} {j : Nat} (h : ∀ i, t.slot j ≠ .live i) : (t.place[SetTable.below t.place j]? == some j) = false := by
  cases e : (t.place[SetTable.below t.place j]? == some j) with
  | false => rfl
  | true =>
    refine absurd ?_ (h (SetTable.below t.place j))
    unfold SetTable.slot
    dsimp only
    rw [if_pos e]
theorem probe_go {t : SetTable} {hashAt : Nat → Int} {h : Int} {j : Nat} {d : Option Nat} : ∀ (fuel : Nat) (p : SetTable.Probe), (∀ k, p.dummy = some k → ∀ i, t.slot k ≠ .live i) →
    SetTable.probe.go t hashAt h fuel p = some (.empty j d) → ∀ i, t.slot (d.getD j) ≠ .live i
  | 0, p, _, e => by simp [SetTable.probe.go] at e
  | fuel + 1, p, hp, e => by
    unfold SetTable.probe.go at e
    cases q : t.slot p.j with
    | empty =>
      rw [q] at e
      simp only [Option.some.injEq, SetTable.Met.empty.injEq] at e
      obtain ⟨e1, e2⟩ := e
      subst e1 e2
      cases hd : p.dummy with
      | none => simp only [Option.getD_none]; rw [q]; intro i z; cases z
      | some k => simp only [Option.getD_some]; exact hp k hd
    | dummy =>
      rw [q] at e
      refine probe_go fuel _ (fun k hk => ?_) e
      unfold SetTable.advance at hk
      dsimp only at hk
      split at hk
      · simp only [Option.some.injEq] at hk
        subst hk
        rw [q]; intro i z; cases z
      · simp only [Option.some.injEq] at hk
        subst hk
        rw [q]; intro i z; cases z
    | live m =>
      rw [q] at e
      dsimp only at e
      split at e
      · cases e
      · refine probe_go fuel _ (fun k hk => hp k ?_) e
        unfold SetTable.advance at hk
        split at hk <;> exact hk
theorem freeSlot_free {t : SetTable} {h : Int} {j : Nat} {b : Bool} (e : t.freeSlot h = some (j, b)) : (t.place[SetTable.below t.place j]? == some j) = false := by
  refine notLive ?_
  unfold SetTable.freeSlot at e
  cases q : t.probe (fun _ => h + 1) h (t.probeStart h) with
  | none => rw [q] at e; cases e
  | some m =>
    rw [q] at e
    cases m with
    | candidate _ _ _ => cases e
    | empty j' d =>
      simp only [Option.some.injEq, Prod.mk.injEq] at e
      obtain ⟨rfl, -⟩ := e
      exact probe_go _ _ (fun k hk => by unfold SetTable.probeStart at hk; simp at hk) q
/-- what a set's table keeps -/
structure Tab (t : SetTable) : Prop where
  ris : t.plain = true → Ris t.place
theorem Tab.fresh (f m : Nat) (led : Bool) : Tab (.fresh f m led) := ⟨fun _ i j _ h => by simp [SetTable.fresh] at h⟩
theorem Tab.standIn (t : SetTable) (n : Nat) : Tab (t.standIn n) := ⟨fun h => by simp [SetTable.standIn] at h⟩
theorem Tab.layNew {t : SetTable} (T : Tab t) (es : Array (Int × Value)) (h : Int) (x : Value) : Tab (layNew t es h x).2.1 ∧ (layNew t es h x).2.1.led = t.led := by
  unfold PySem.layNew
  cases q : t.freeSlot h with
  | none => exact ⟨Tab.standIn _ _, rfl⟩
  | some r =>
    obtain ⟨j, b⟩ := r
    dsimp only
    unfold SetTable.orStandIn
    split
    · refine ⟨⟨fun hp => ?_⟩, rfl⟩
      exact ris_insert (T.ris hp) (freeSlot_free q)
    · exact ⟨Tab.standIn _ _, rfl⟩
theorem ris_of_pairwise {l : List Nat} (h : l.Pairwise (· < ·)) : Ris l.toArray := by
  intro i j hij hj
  have hj' : j < l.length := by simpa using hj
  have e : ∀ k (hk : k < l.length), l.toArray.getD k 0 = l[k] := fun k hk => by simp [Array.getD, hk]
  rw [e i (by omega), e j hj']
  exact List.pairwise_iff_getElem.mp h i j (by omega) hj' hij
theorem live_rising (owner : Array (Option Nat)) (n : Nat) : (((List.range n).filterMap fun j => (owner.getD j none).map (j, ·)).map (·.1)).Pairwise (· < ·) := by
  rw [List.pairwise_map]
  refine List.Pairwise.filterMap _ (R := fun a b => a < b) ?_ List.pairwise_lt_range
  intro a a' haa b hb b' hb'
  cases e1 : owner.getD a none with
  | none => rw [e1] at hb; cases hb
  | some v =>
    cases e2 : owner.getD a' none with
    | none => rw [e2] at hb'; cases hb'
    | some v' =>
      rw [e1] at hb
      rw [e2] at hb'
      cases hb
      cases hb'
      exact haa
theorem Tab.relayAll {t : SetTable} (es : Array (Int × Value)) (w : Nat) : Tab (relayAll t es w).2.1 ∧ (relayAll t es w).2.1.led = t.led := by
  unfold PySem.relayAll
  cases q : t.relaid (es.map (·.1)) w with
  | none => exact ⟨Tab.standIn _ _, rfl⟩
  | some r =>
    obtain ⟨t', order⟩ := r
    dsimp only
    split
    · unfold SetTable.relaid SetTable.laid at q
      cases q2 : SetTable.layClean (SetTable.sizeAbove w - 1) (es.map (·.1)) with
      | none => rw [q2] at q; cases q
      | some owner =>
        rw [q2] at q
        simp only [Option.bind_eq_bind, Option.bind_some, Option.pure_def, Option.some.injEq, Prod.mk.injEq] at q
        obtain ⟨rfl, -⟩ := q
        exact ⟨⟨fun _ => ris_of_pairwise (live_rising _ _)⟩, rfl⟩
    · exact ⟨Tab.standIn _ _, rfl⟩
end SetIt
end
section
namespace SetIt
open PySem PyProof.Rows
abbrev byText (w : World) : Bool := w.params.followText "set-order"
abbrev IsEl (k : Int) (e : Int × Value) : Prop := ∃ tk, e = (hashInt k, .int k tk)
def SetL (w : World) (h : Heap) (a : Addr) (l : List Int) : Prop :=
  ∃ o es ep t ks, h.get? a = some o ∧ o.ExactSet ∧ o.data = .set es ep t ∧ Paired IsEl ks es.toList ∧ ks.Perm l ∧ l.Nodup ∧ es.size < scanBound ∧ t.fits es.size = true ∧ Tab t ∧ t.led = !byText w
theorem SetL.keep {w : World} {h h' : Heap} {a : Addr} {l : List Int} (S : SetL w h a l) (k : ∀ o, h.get? a = some o → h'.get? a = some o) : SetL w h' a l := by
  obtain ⟨o, es, ep, t, ks, g, r⟩ := S
  exact ⟨o, es, ep, t, ks, k o g, r⟩
theorem paired_mem_r {α β : Type} {F : α → β → Prop} : ∀ {l : List α} {m : List β}, Paired F l m → ∀ b ∈ m, ∃ a ∈ l, F a b
  | _, _, .nil, b, hb => by simp at hb
  | _, _, .cons f t, b, hb => by
    rcases List.mem_cons.mp hb with z | z
    · exact ⟨_, List.mem_cons_self, z ▸ f⟩
    · obtain ⟨a, ha, q⟩ := paired_mem_r t b z
      exact ⟨a, List.mem_cons_of_mem _ ha, q⟩
theorem paired_mem_l {α β : Type} {F : α → β → Prop} : ∀ {l : List α} {m : List β}, Paired F l m → ∀ a ∈ l, ∃ b ∈ m, F a b
  | _, _, .nil, b, hb => by simp at hb
  | _, _, .cons f t, b, hb => by
    rcases List.mem_cons.mp hb with z | z
    · exact ⟨_, List.mem_cons_self, z ▸ f⟩
    · obtain ⟨a, ha, q⟩ := paired_mem_l t b z
      exact ⟨a, List.mem_cons_of_mem _ ha, q⟩
theorem paired_perm {α β : Type} {F : α → β → Prop} {m m' : List β} (p : m.Perm m') : ∀ {l : List α}, Paired F l m → ∃ l', Paired F l' m' ∧ l.Perm l' := by
  induction p with
  | nil => intro l h; exact ⟨l, h, .refl _⟩
  | cons x _ ih =>
    intro l h
    cases h with
    | cons f t =>
      obtain ⟨l', h', q⟩ := ih t
      exact ⟨_ :: l', .cons f h', q.cons _⟩
  | swap x y r =>
    intro l h
    cases h with
    | cons f t =>
      cases t with
      | cons g t => exact ⟨_ :: _ :: _, .cons g (.cons f t), .swap _ _ _⟩
  | trans _ _ ih1 ih2 =>
    intro l h
    obtain ⟨l1, h1, q1⟩ := ih1 h
    obtain ⟨l2, h2, q2⟩ := ih2 h1
    exact ⟨l2, h2, q1.trans q2⟩
theorem elemsOf {prog : Program} {w : World} {ks : List Int} {l : List (Int × Value)} (p : Paired IsEl ks l) : ElemsOf (intKind prog w) l := fun e he => by
  obtain ⟨k, _, tk, q⟩ := paired_mem_r p e he
  subst q
  exact ⟨⟨k, intKind_is _ _ _ _, rfl⟩, rfl⟩
section
variable {prog : Program} {w : World} {A : Around} {E : Value → Shared → Prop} {s : Shared} {a : Addr} {l : List Int}
theorem laid_at {o : Obj} {es es' : Array (Int × Value)} {ep : Nat} {t t' : SetTable} {h : Heap} (g : h.get? a = some o) (d : o.data = .set es ep t) :
    (h.update a (Obj.putSet es' t')).get? a = some { o with data := .set es' (ep + 1) t' } := by
  have z := Heap.get?_update_self (Obj.putSet es' t') g (by rw [putSet_of es' t' d]; rfl)
  rw [putSet_of es' t' d] at z
  exact z
theorem tail_ok {gv : Bool → Sem Unit} (hgv : ∀ (b : Bool) (s₁ : Shared) (Q' : Unit → Shared → Prop), Q' () s₁ → wpAny (model prog w) A (gv b) Q' E s₁)
    {o : Obj} {es e1 : Array (Int × Value)} {ep : Nat} {t u : SetTable} {k1 : List Int} (g : s.heap.get? a = some o) (x : o.ExactSet) (d : o.data = .set es ep t)
    (p1 : Paired IsEl k1 e1.toList) (pm : k1.Perm l) (nd : l.Nodup) (b1 : e1.size < scanBound) (f1 : u.fits e1.size = true) (T : Tab u) (led : u.led = !byText w) {wd : Bool} {R : Option Bool → Shared → Prop}
    (h : ∀ h', Heap.SameBut a s.heap h' → SetL w h' a l → R (some true) { s with heap := h' }) :
    wpAny (model prog w) A (storeSet a e1 u >>= fun _ => if (!wd && u.tooFull) = true then
        gv (relayAll u e1 (SetTable.grown e1.size)).2.2 >>= fun _ => storeSet a (relayAll u e1 (SetTable.grown e1.size)).1 (relayAll u e1 (SetTable.grown e1.size)).2.1 >>= fun _ => pure (some true)
      else pure (some true)) R E s := by
  have ga : (s.heap.update a (Obj.putSet e1 u)).get? a = some { o with data := .set e1 (ep + 1) u } := laid_at g d
  have sb := Heap.SameBut.update s.heap a (Obj.putSet e1 u)
  refine wpAny_bind (wpAny_storeSet_of g d ?_ (fits_of_scanBound b1))
  by_cases hc : (!wd && u.tooFull) = true
  · rw [if_pos hc]
    have q := relayAll_perm u e1 (SetTable.grown e1.size)
    have qf := relayAll_fits u e1 (SetTable.grown e1.size)
    have qt := Tab.relayAll (t := u) e1 (SetTable.grown e1.size)
    generalize relayAll u e1 (SetTable.grown e1.size) = Z at q qf qt ⊢
    obtain ⟨e2, v, gave⟩ := Z
    dsimp only at q qf qt ⊢
    have sz : e2.size = e1.size := by rw [← Array.length_toList, q.length_eq, Array.length_toList]
    obtain ⟨k2, p2, pp⟩ := paired_perm q.symm p1
    refine wpAny_bind (hgv _ _ _ (wpAny_bind (wpAny_storeSet_of ga rfl (wpAny_pure (h _ (sb.trans (Heap.SameBut.update _ a _)) ?_)) (by rw [sz]; exact fits_of_scanBound b1))))
    exact ⟨_, e2, ep + 1 + 1, v, k2, laid_at ga rfl, x, rfl, p2, pp.symm.trans pm, nd, by rw [sz]; exact b1, qf, qt.1, qt.2.trans led⟩
  · rw [if_neg hc]
    exact wpAny_pure (h _ sb ⟨_, e1, ep + 1, u, k1, ga, x, rfl, p1, pm, nd, b1, f1, T, led⟩)
theorem find_none {ks : List Int} {k : Int} : ∀ {m : List (Int × Value)}, Paired IsEl ks m → (m.findIdx? (fun e => (intKind prog w).is k e.2) = none ↔ k ∉ ks) := fun {m} p => by
  rw [List.findIdx?_eq_none_iff]
  constructor
  · intro h hk
    obtain ⟨e, he, tk, q⟩ := paired_mem_l p k hk
    have z := h e he
    subst q
    have y : (intKind prog w).is k (Value.int k tk) = true := intKind_is _ _ _ _
    rw [y] at z
    cases z
  · intro h e he
    obtain ⟨k', hk', tk, q⟩ := paired_mem_r p e he
    subst q
    cases z : (intKind prog w).is k (Value.int k' tk) with
    | false => rfl
    | true =>
      have y : (intKind prog w).is k' (Value.int k' tk) = true := intKind_is _ _ _ _
      exact absurd ((intKind prog w).inj _ _ _ z y ▸ hk') h
theorem add_ok {k : Int} {tk : Tok} {Q : Bool → Shared → Prop} (S : SetL w s.heap a l) (hroom : l.length + 1 < scanBound)
    (h : ∀ h' b, Heap.SameBut a s.heap h' → SetL w h' a (if k ∈ l then l else l ++ [k]) → Q b { s with heap := h' }) :
    wpAny (model prog w) A (setAddHashed a (.int k tk) (hashInt k)) Q E s := by
  obtain ⟨o, es, ep, t, ks, g, x, d, p, pm, nd, b, f, T, led⟩ := id S
  have el := elemsOf (prog := prog) (w := w) p
  have hk : (intKind prog w).is k (Value.int k tk) = true := intKind_is _ _ _ _
  unfold setAddHashed setAddHashedIn
  refine wpAny_holding ?_
  refine wpAny_bind (wpAny_setState_of g d f ?_)
  dsimp only; rw [byScan_of (knd := intKind prog w) rfl b el]; simp only [↓reduceIte]
  unfold setAddByScan
  refine wpAny_bind (wpAny_bind (wpAny_rule (wpAny_bind (wpAny_setScan_of (knd := intKind prog w) hk g d f el ?_))))
  cases hr : List.findIdx? (fun e => (intKind prog w).is k e.2) es.toList with
  | some j =>
    have hin : k ∈ l := by
      rcases Classical.em (k ∈ ks) with z | z
      · exact pm.mem_iff.mp z
      · rw [(find_none p).mpr z] at hr; cases hr
    have z := h s.heap false (Heap.SameBut.refl a s.heap) (by rw [if_pos hin]; exact S)
    exact wpAny_pure (wpAny_pure z)
  | none =>
    have hin : k ∉ l := fun z => (find_none p).mp hr (pm.mem_iff.mpr z)
    dsimp only
    have qp := layNew_perm t es (hashInt k) (.int k tk)
    have qf := layNew_fits t es (hashInt k) (.int k tk)
    have qt := T.layNew es (hashInt k) (.int k tk)
    generalize hL : layNew t es (hashInt k) (.int k tk) = L at qp qf qt ⊢
    obtain ⟨e1, t1, wd, gave⟩ := L
    dsimp only at qp qf qt ⊢
    rw [Array.toList_push] at qp
    have p' : Paired IsEl (ks ++ [k]) (es.toList ++ [(hashInt k, Value.int k tk)]) := Paired.snoc p ⟨tk, rfl⟩
    obtain ⟨k1, p1, pp⟩ := paired_perm qp.symm p'
    have pm1 : k1.Perm (l ++ [k]) := pp.symm.trans (pm.append_right _)
    have nd1 : (l ++ [k]).Nodup := by
      rw [List.nodup_append]
      exact ⟨nd, by simp, fun u hu v hv z => hin (by rw [List.mem_singleton] at hv; subst hv; subst z; exact hu)⟩
    have sz : e1.size = l.length + 1 := by
      rw [← Array.length_toList, ← p1.length, pm1.length_eq, List.length_append]
      rfl
    have b1 : e1.size < scanBound := by rw [sz]; exact hroom
    have fin : ∀ h' bb, Heap.SameBut a s.heap h' → SetL w h' a (l ++ [k]) → Q bb { s with heap := h' } := fun h' bb sb z => h h' bb sb (by rw [if_neg hin]; exact z)
    refine wpAny_bind ?_
    have hgv : ∀ (b : Bool) (s₁ : Shared) (Q' : Unit → Shared → Prop), Q' () s₁ → wpAny (model prog w) A (match b with | true => rule "set.scan.the-table-gave-way" | false => pure ()) Q' E s₁ := fun b s₁ Q' z => by
      cases b
      · exact wpAny_pure z
      · exact wpAny_rule z
    refine hgv gave _ _ ?_
    have key : ∀ v : SetTable, v.fits e1.size = true → Tab v → v.led = t.led → wpAny (model prog w) A (storeSet a e1 v >>= fun _ => if (!wd && v.tooFull) = true then
        (match (relayAll v e1 (SetTable.grown e1.size)).2.2 with | true => rule "set.scan.the-table-gave-way" | false => pure ()) >>= fun _ => storeSet a (relayAll v e1 (SetTable.grown e1.size)).1 (relayAll v e1 (SetTable.grown e1.size)).2.1 >>= fun _ => pure (some true)
      else pure (some true)) (fun r s' => wpAny (model prog w) A (match r with | some added => pure added | none => setAddHashedIn a (.int k tk) (hashInt k) 99999) Q E s') E s := fun v fv Tv lv =>
      tail_ok (gv := fun b => match b with | true => rule "set.scan.the-table-gave-way" | false => pure ()) hgv g x d p1 pm1 nd1 b1 fv Tv (lv.trans led) fun h' sb z => wpAny_pure (fin h' _ sb z)
    by_cases hpl : t1.plain = true
    · rw [if_pos hpl]
      refine wpAny_bind ?_
      rw [hashByValue_scannable 8 rfl]
      refine wpAny_pure ?_
      exact key _ qf qt.1 qt.2
    · rw [if_neg hpl]
      refine wpAny_bind (wpAny_pure ?_)
      exact key _ qf qt.1 qt.2
end
end SetIt
end
section
namespace SetIt
open PySem PyProof.Rows
def ded1 (acc : List Int) (k : Int) : List Int := if k ∈ acc then acc else acc ++ [k]
def ded (ns : List Int) : List Int := ns.foldl ded1 []
theorem ded_snoc (ns : List Int) (k : Int) : ded (ns ++ [k]) = ded1 (ded ns) k := by unfold ded; rw [List.foldl_append]; rfl
theorem ded_len : ∀ ns : List Int, (ded ns).length ≤ ns.length := by
  intro ns
  suffices h : ∀ (ns acc : List Int), (ns.foldl ded1 acc).length ≤ acc.length + ns.length by simpa [ded] using h ns []
  intro ns
  induction ns with
  | nil => intro acc; simp
  | cons k r ih =>
    intro acc
    rw [List.foldl_cons]
    have a := ih (ded1 acc k)
    have b : (ded1 acc k).length ≤ acc.length + 1 := by unfold ded1; split <;> simp
    simp only [List.length_cons]
    omega
theorem ded_mem : ∀ (ns : List Int) (k : Int), k ∈ ded ns ↔ k ∈ ns := by
  suffices h : ∀ (ns acc : List Int) (k : Int), k ∈ ns.foldl ded1 acc ↔ k ∈ acc ∨ k ∈ ns by intro ns k; simpa [ded] using h ns [] k
  intro ns
  induction ns with
  | nil => intro acc k; simp
  | cons x r ih =>
    intro acc k
    rw [List.foldl_cons, ih]
    unfold ded1
    by_cases hx : x ∈ acc
    · rw [if_pos hx]
      constructor
      · rintro (z | z)
        · exact .inl z
        · exact .inr (List.mem_cons_of_mem _ z)
      · rintro (z | z)
        · exact .inl z
        · rcases List.mem_cons.mp z with rfl | z
          · exact .inl hx
          · exact .inr z
    · rw [if_neg hx]
      simp only [List.mem_append, List.mem_cons, List.not_mem_nil, or_false]
      constructor
      · rintro ((z | z) | z)
        · exact .inl z
        · exact .inr (.inl z)
        · exact .inr (.inr z)
      · rintro (z | (z | z))
        · exact .inl (.inl z)
        · exact .inl (.inr z)
        · exact .inr z
theorem ded_nodup : ∀ ns : List Int, (ded ns).Nodup := by
  suffices h : ∀ (ns acc : List Int), acc.Nodup → (ns.foldl ded1 acc).Nodup by intro ns; exact h ns [] List.nodup_nil
  intro ns
  induction ns with
  | nil => intro acc h; exact h
  | cons x r ih =>
    intro acc h
    rw [List.foldl_cons]
    refine ih _ ?_
    unfold ded1
    by_cases hx : x ∈ acc
    · rw [if_pos hx]; exact h
    · rw [if_neg hx, List.nodup_append]
      exact ⟨h, by simp, fun u hu v hv z => hx (by rw [List.mem_singleton] at hv; subst hv; subst z; exact hu)⟩
section
variable {prog : Program} {w : World} {A : Around} {E : Value → Shared → Prop} {R : Result → Shared → Prop}
theorem upd_loop (hh : A.handled = none) (S I ax : Addr) (items : Array Value) (ns : List Int) (hi : IntsAre items.toList ns) (n1 : ax ≠ I) (n2 : S ≠ I) (n3 : S ≠ ax) (hb : items.size + 1 < scanBound) :
    ∀ (k i : Nat) (s : Shared), items.size - i = k → i ≤ items.size → s.heap.IsListIter I ax i → s.heap.IsList ax items → SetL w s.heap S (ded (ns.take i)) →
      (∀ h' tk, (∀ b o, b ≠ S → b ≠ I → s.heap.get? b = some o → h'.get? b = some o) → SetL w h' S (ded ns) → R (.ok (.ret .none)) { s with heap := h', toks := tk }) →
      codeAny (model prog w) A (.builtin "set.update.loop" ⟨[.ref S, .ref I], []⟩) R s := by
  have W := Walks.list (prog := prog) (w := w) (A := A.in1) hh I ax n1 items
  have hlen : items.size = ns.length := by rw [← hi.length]; simp
  intro k
  induction k with
  | zero =>
    intro i s hk hle st1 st2 hS hR
    have e : i = items.size := by omega
    subst e
    refine codeAny_builtin F.entry_set_update_loop ?_
    rw [Around.under_plainId F.plain_set_update_loop _]
    show wpAny _ A.in1 (pyNext (.ref I) >>= _) _ _ s
    refine wpAny_bind (W.done s _ _ ⟨st1, st2⟩ fun h' tk kp => ?_)
    show wpAny _ A.in1 (ret Value.none) _ _ _
    refine wpAny_pure (hR h' tk (fun b o _ h2 e => kp b o (by simpa using h2) e) ?_)
    rw [hlen, List.take_length] at hS
    exact hS.keep fun o e => kp S o (by simpa using n2) e
  | succ k ih =>
    intro i s hk hle st1 st2 hS hR
    have hlt : i < items.size := by omega
    refine codeAny_builtin F.entry_set_update_loop ?_
    rw [Around.under_plainId F.plain_set_update_loop _]
    show wpAny _ A.in1 (pyNext (.ref I) >>= _) _ _ s
    refine wpAny_bind (W.item i s _ _ hlt ⟨st1, st2⟩ fun v h1 tk1 hv st' kp => ?_)
    obtain ⟨t, rfl⟩ := PyProof.Rows.IntsAre.int_at hi i v (by rw [Array.getElem?_toList]; exact hv)
    show wpAny _ A.in1 (holding _ (setAdd S _) >>= _) _ _ _
    refine wpAny_bind (wpAny_holding ?_)
    unfold setAdd
    refine wpAny_holding (wpAny_bind ((intKind prog w).pyHash (k := ns.getD i 0) (intKind_is _ _ _ _) ?_))
    have hin : i < ns.length := by omega
    have hget : ns.getD i 0 = ns[i] := by simp [List.getD, hin]
    have hS1 : SetL w h1 S (ded (ns.take i)) := hS.keep fun o e => kp S o (by simpa using n2) e
    have hroom : (ded (ns.take i)).length + 1 < scanBound := by
      have z := ded_len (ns.take i)
      rw [List.length_take] at z
      omega
    refine add_ok (l := ded (ns.take i)) (k := ns.getD i 0) hS1 hroom fun h2 bb sb hS2 => ?_
    have hS3 : SetL w h2 S (ded (ns.take (i + 1))) := by
      rw [List.take_add_one, List.getElem?_eq_getElem hin]
      show SetL w h2 S (ded (ns.take i ++ [ns[i]]))
      rw [ded_snoc, ← hget]
      exact hS2
    refine wpAny_pure ⟨plainId_quiet F.plain_set_update_loop _, ih (i + 1) _ (by omega) hlt ?_ ?_ hS3 fun h' tk kp' hS' => ?_⟩
    · exact st'.1.at fun o e => (sb.2 I (Ne.symm n2)).trans e
    · exact st'.2.at fun o e => (sb.2 ax (Ne.symm n3)).trans e
    · exact hR h' tk (fun b o h1' h2' e => kp' b o h1' h2' ((sb.2 b h1').trans (kp b o (by simpa using h2') e))) hS'
abbrev O0 (w : World) : Obj := { cls := .type "set", dict := none, data := .set #[] 0 (.fresh 0 0 (!byText w)) }
theorem new_set {s : Shared} (a : Value) {Q₁ : Value → Shared → Prop}
    (h : Q₁ (.ref s.heap.objs.size) { s with heap := s.heap.push { cls := .type "set", dict := none, data := .set #[] 0 (.fresh 0 0 (!byText w)) } }) :
    codeAny (model prog w) A (.call (.builtin "set.__new__") ⟨[.type "set", a], []⟩) (wants Q₁ E) s := by
  refine codeAny_of_tree ?_
  show wpAny _ A.in1 (checkBuiltinCall "set.__new__" ⟨[.type "set", a], []⟩ >>= fun _ => again (.builtin "set.__new__" ⟨[.type "set", a], []⟩)) _ _ s
  refine wpAny_bind (wpAny_of_eq (PySem.F.newCall_set_1 a) (wpAny_pure ⟨plainId_quiet PySem.F.plain_set_new _, codeAny_builtin PySem.F.entry_set_new ?_⟩))
  rw [Around.under_plainId PySem.F.plain_set_new _]
  unfold Builtin.«set.__new__» Builtin.Frozenset.newClass
  have hsub := sub_set_self
  obtain ⟨hp, g, d, tk, os⟩ := s
  dsimp only
  wp_walk
  refine wpAny_askSetting (wpAny_pure ?_)
  dsimp only; simp only [newObj]
  exact wpAny_bind (wpAny_alloc (wpAny_pure (wpAny_pure h)))
set_option maxHeartbeats 3200000 in
theorem set_of_list {s : Shared} {x : Addr} {items : Array Value} {ns : List Int} {Q : Value → Shared → Prop} (hh : A.handled = none) (hl : s.heap.IsList x items) (hi : IntsAre items.toList ns) (hb : items.size + 1 < scanBound)
    (h : ∀ h' tk, SetL w h' s.heap.objs.size (ded ns) → (∀ b o, s.heap.get? b = some o → h'.get? b = some o) → Q (.ref s.heap.objs.size) { s with heap := h', toks := tk }) :
    wpAny (model prog w) A (call (.type "set") [.ref x]) Q E s := by
  obtain ⟨c, tl, hmro⟩ := PySem.F.called_set.mro
  have hmade := PySem.F.called_set.made
  have hsub := PySem.F.called_set.sub
  refine wpAny_call (codeAny_of_tree ?_)
  show wpAny _ _ (callAny (.type "set") _) _ _ _
  refine wpAny_pure ⟨Code.quiet_builtin _ (by decide +kernel), codeAny_builtin PySem.F.entry_type_call ?_⟩
  rw [Around.under_plain (weight_type_call_type "set" [.ref x] []) rfl]
  have h1 := PySem.F.called_set.notType
  have h2 := PySem.F.called_set.canCreate
  have hct := PySem.F.typeCall_set_1 (.ref x)
  repeat (any_goals (first | assumption | wp_step))
  refine codeAny_mono (new_set (w := w) (.ref x) (E := E) (Q₁ := fun obj s₁ => obj = .ref s.heap.objs.size ∧ s₁ = { s with heap := s.heap.push { cls := .type "set", dict := none, data := .set #[] 0 (.fresh 0 0 (!byText w)) } }) ⟨rfl, rfl⟩) fun r s₁ hr => ?_
  cases r with
  | error e => exact hr
  | ok fl =>
    cases fl with
    | ret obj =>
      obtain ⟨rfl, rfl⟩ := hr
      have g0 : (s.heap.push (O0 w)).get? s.heap.objs.size = some (O0 w) := Heap.get?_push_size _ rfl
      have hT : Shared.TypeIs { s with heap := s.heap.push (O0 w) } (.ref s.heap.objs.size) "set" := ⟨_, g0, rfl⟩
      have hli := PySem.F.called_set.init.lookup
      have hbi := PySem.F.called_set.init.bind (.ref s.heap.objs.size)
      repeat (any_goals (first | assumption | wp_step))
      refine codeAny_mono (codeAny_call_builtin (R := wants (fun r s₂ => r = .none ∧ ∃ h' tk, s₂ = { s with heap := h', toks := tk } ∧ SetL w h' s.heap.objs.size (ded ns) ∧ (∀ b o, s.heap.get? b = some o → h'.get? b = some o)) E)
        PySem.F.called_set.init.plain PySem.F.entry_set_init (check_set_init_1 hT ?_)) fun r₂ s₂ hr₂ => ?_
      · obtain ⟨ol, gl, hcl, nl, hdl⟩ := id hl
        have lt : x < s.heap.objs.size := Heap.lt_size gl
        have gl' : (s.heap.push (O0 w)).get? x = some ol := Heap.get?_push_of_some _ gl
        obtain ⟨ocls, odict, odata, oslots⟩ := ol
        simp only at hcl hdl
        subst hcl; subst hdl
        have hsls := PySem.F.sub_list_set
        have hslf := PySem.F.sub_list_frozenset
        have hne : (Value.type "list" == Value.type "dict") = false := by decide
        have hLs : (s.heap.push (O0 w)).IsList x items := ⟨_, gl', rfl, nl, rfl⟩
        unfold Builtin.«set.__init__» noKeywords Builtin.Frozenset.updateFrom
        generalize hPI : pyIter = PI
        wp_walk
        subst hPI
        refine wpAny_pyIter_list hLs ?_
        refine wpAny_bind ?_
        refine wpAny_runValue ?_
        have h3 : A.in1.in1.handled = none := by simp [hh]
        have sz : (s.heap.push (O0 w)).objs.size = s.heap.objs.size + 1 := Heap.size_push _ _
        refine upd_loop h3 s.heap.objs.size (s.heap.push (O0 w)).objs.size x items ns hi (by rw [sz]; exact Nat.ne_of_lt (Nat.lt_succ_of_lt lt)) (by rw [sz]; exact Nat.ne_of_lt (Nat.lt_succ_self _)) (Nat.ne_of_gt lt) hb (items.size - 0) 0 _ rfl (Nat.zero_le _) ?_ ?_ ?_ fun h' tk kp hS => ?_
        · exact ⟨_, Heap.get?_push_size _ rfl, rfl, rfl⟩
        · exact hLs.push _
        · refine ⟨O0 w, #[], 0, .fresh 0 0 (!byText w), [], Heap.get?_push_of_some _ g0, ⟨rfl, rfl, rfl⟩, rfl, .nil, ?_, ?_, by decide, by rfl, Tab.fresh _ _ _, rfl⟩
          · exact .refl _
          · exact List.nodup_nil
        · show wpAny _ _ _ _ _ _
          refine wpAny_pure ?_
          show wpAny _ _ (ret Value.none) _ _ _
          refine wpAny_pure ⟨rfl, h', tk, rfl, hS, fun b o e => ?_⟩
          have bl := Heap.lt_size e
          exact kp b o (Nat.ne_of_lt bl) (by rw [sz]; exact Nat.ne_of_lt (Nat.lt_succ_of_lt bl)) (Heap.get?_push_of_some _ (Heap.get?_push_of_some _ e))
      · cases r₂ with
        | error e => exact hr₂
        | ok fl₂ =>
          cases fl₂ with
          | ret r =>
            obtain ⟨rfl, h', tk, rfl, hS', hk'⟩ := hr₂
            repeat (any_goals (first | assumption | wp_step))
            exact h _ _ hS' hk'
          | _ => exact hr₂.elim
    | _ => exact hr.elim
end
end SetIt
end
section
namespace SetIt
open PySem
theorem slot_next : Slot "set_iterator" "__next__" "set_iterator.__next__" :=
  .of (owner := "set_iterator") (n := "__next__") (by rw [typeLookup_type, builtinLookup_eq_fast]; kernel_rfl) (by decide +kernel) (by decide +kernel) (by decide +kernel)
    (by first | exact .inl (by decide +kernel) | exact .inr (by decide +kernel)) (by rw [isSubtype_type]; kernel_rfl)
theorem entry_next : entryFor table "set_iterator.__next__" = some Builtin.«set_iterator.__next__» := entryFor_of_tree (by kernel_rfl)
theorem owner_next : Manifest.owners.lookup (String.ofList ['r', 'o', 't', 'a', 'r', 'e', 't', 'i', '_', 't', 'e', 's'].reverse) = some Manifest.sig_set_iterator := by kernel_rfl
theorem args_next (a : Value) : argsOk "set_iterator.__next__" ⟨[a], []⟩ := by
  unfold argsOk; rw [signature?_of (id := "set_iterator.__next__") (n := ['_', '_', 't', 'x', 'e', 'n', '_', '_']) (o := ['r', 'o', 't', 'a', 'r', 'e', 't', 'i', '_', 't', 'e', 's']) (by kernel_rfl) owner_next]; kernel_rfl
theorem entry_iter : entryFor table "set.__iter__" = some Builtin.«frozenset.__iter__» := entryFor_alias (id' := "frozenset.__iter__") (by kernel_rfl) rfl (by decide +kernel) (by kernel_rfl)
theorem slot_iti : Slot "set_iterator" "__iter__" "set_iterator.__iter__" :=
  .of (owner := "set_iterator") (n := "__iter__") (by rw [typeLookup_type, builtinLookup_eq_fast]; kernel_rfl) (by decide +kernel) (by decide +kernel) (by decide +kernel)
    (by first | exact .inl (by decide +kernel) | exact .inr (by decide +kernel)) (by rw [isSubtype_type]; kernel_rfl)
theorem entry_iti : entryFor table "set_iterator.__iter__" = some Builtin.«dict_keyiterator.__iter__» := entryFor_alias (id' := "dict_keyiterator.__iter__") (by kernel_rfl) rfl (by decide +kernel) (by kernel_rfl)
theorem args_iti (a : Value) : argsOk "set_iterator.__iter__" ⟨[a], []⟩ := by
  unfold argsOk; rw [signature?_of (id := "set_iterator.__iter__") (n := ['_', '_', 'r', 'e', 't', 'i', '_', '_']) (o := ['r', 'o', 't', 'a', 'r', 'e', 't', 'i', '_', 't', 'e', 's']) (by kernel_rfl) owner_next]; kernel_rfl
end SetIt
end
section
namespace SetIt
open PySem PyProof.Rows
theorem erase_perm {α : Type} : ∀ {l : List α} {i : Nat} (h : i < l.length), (l[i] :: l.eraseIdx i).Perm l
  | [], _, h => by simp at h
  | x :: r, 0, h => .refl _
  | x :: r, i + 1, h => by
    have h' : i < r.length := by simpa using h
    show (r[i] :: x :: r.eraseIdx i).Perm (x :: r)
    exact (List.Perm.swap _ _ _).trans ((erase_perm h').cons x)
theorem range_get {α : Type} : ∀ l : List α, (List.range l.length).filterMap (l[·]?) = l
  | [] => rfl
  | x :: r => by
    rw [List.length_cons, List.range_succ_eq_map, List.filterMap_cons, List.filterMap_map]
    show x :: (List.range r.length).filterMap (fun i => (x :: r)[i + 1]?) = x :: r
    have e : (fun i => (x :: r)[i + 1]?) = fun i => r[i]? := funext fun i => by simp
    rw [e, range_get r]
theorem pick_go {α : Type} (next : Nat → Nat) : ∀ (fuel k : Nat) (left : List α) (out : Array α), left.length = fuel → (pickOrder.go next fuel k left out).toList.Perm (out.toList ++ left)
  | 0, k, left, out, h => by
    have e : left = [] := List.length_eq_zero_iff.mp h
    subst e
    simp [pickOrder.go]
  | fuel + 1, k, left, out, h => by
    unfold pickOrder.go
    have hm : next k % left.length < left.length := Nat.mod_lt _ (by omega)
    rw [List.getElem?_eq_getElem hm]
    refine (pick_go next fuel (k + 1) _ _ (by rw [List.length_eraseIdx_of_lt hm]; omega)).trans ?_
    rw [Array.toList_push, List.append_assoc]
    exact List.Perm.append_left _ (erase_perm hm)
theorem pick_perm {α : Type} (next : Nat → Nat) (xs : Array α) : (pickOrder next xs).toList.Perm xs.toList := by
  have := pick_go next xs.size 0 xs.toList #[] (by simp)
  simpa [pickOrder] using this
section
variable {M : Model} {A : Around} {E : Value → Shared → Prop} {s : Shared}
theorem wpAny_choose {src : Source} {n : Nat} {Q : Nat → Shared → Prop} (hn : n ≠ 0) (h : ∀ i d, i < n → Q i { s with drawn := d }) : wpAny M A (choose src n) Q E s := fun _ _ _ =>
  ⟨hn, h _ _ (Nat.mod_lt _ (Nat.pos_of_ne_zero hn))⟩
theorem draw_perm {α : Type} : ∀ (n : Nat) (xs : List α) (s : Shared) (Q : List α → Shared → Prop), xs.length = n → (∀ ys d, ys.Perm xs → Q ys { s with drawn := d }) → wpAny M A (drawOrder n xs) Q E s
  | 0, xs, s, Q, h, k => by
    have e : xs = [] := List.length_eq_zero_iff.mp h
    subst e
    exact wpAny_pure (k [] s.drawn (.refl _))
  | n + 1, [], s, Q, h, k => by simp at h
  | n + 1, x :: r, s, Q, h, k => by
    unfold drawOrder
    refine wpAny_bind (wpAny_choose (by simp) fun i d hi => ?_)
    rw [List.getElem?_eq_getElem hi]
    refine wpAny_bind (draw_perm n _ _ _ (by rw [List.length_eraseIdx_of_lt hi]; simp only [List.length_cons] at h ⊢; omega) fun ys d' p => wpAny_pure (k _ d' ?_))
    exact (p.cons _).trans (erase_perm hi)
end
abbrev itObj (first : Value) (a : Addr) (i n ep : Nat) : Obj := { cls := .type "set_iterator", data := .fields #[first, .int i 0, .ref a, .int n 0, .int ep 0] }
/-- how the walk's first field stands at turn i, and the order in which the elements come -/
inductive Mode (w : World) (a : Addr) (es : Array (Int × Value)) (ep : Nat) (t : SetTable) (h : Heap) (i : Nat) : Addr → Value → List (Int × Value) → Prop
  | text (p : Addr) (z : Nat) : byText w = true → Mode w a es ep t h i p (.int z 0) (pickOrder (w.params.setOrder a ep) es).toList
  | plain (p : Addr) (z : Nat) : byText w = false → (!t.plain && decide (es.size > 1)) = false → t.led = true → Ris t.place → t.place.size = es.size → SetTable.below t.place z = i → Mode w a es ep t h i p (.int z 0) es.toList
  | drawn (p : Addr) (o : Obj) (n : Nat) (ps : List Nat) : byText w = false → h.get? p = some o → o.data = .seq (ps.map fun k => rawInt (k : Nat)).toArray n → ps.Perm (List.range es.size) → Mode w a es ep t h i p (.ref p) (ps.filterMap (es[·]?))
theorem Mode.perm {w : World} {a : Addr} {es : Array (Int × Value)} {ep : Nat} {t : SetTable} {h : Heap} {i : Nat} {p : Addr} {f : Value} {l : List (Int × Value)} (m : Mode w a es ep t h i p f l) : l.Perm es.toList := by
  cases m with
  | text => exact pick_perm _ _
  | plain => exact .refl _
  | drawn o n ps _ _ _ hp =>
    refine (hp.filterMap _).trans ?_
    have e : (List.range es.size).filterMap (es[·]?) = es.toList := by
      have z := range_get es.toList
      rw [Array.length_toList] at z
      have q : (fun i => es.toList[i]?) = fun i => es[i]? := funext fun i => Array.getElem?_toList
      rw [q] at z
      exact z
    rw [e]
section
variable {prog : Program} {w : World} {A : Around} {E : Value → Shared → Prop} {s : Shared} {I a p : Addr} {es : Array (Int × Value)} {ep : Nat} {t : SetTable} {order : List (Int × Value)}
theorem setNext_ok {i z : Nat} {o : Obj} {R : Option (Value × Nat) → Shared → Prop} (ga : s.heap.get? a = some o) (d : o.data = .set es ep t) (fit : t.fits es.size = true) (m : Mode w a es ep t s.heap i p (.int z 0) order)
    (h1 : ∀ e (z' : Nat), order[i]? = some e → (∀ h', Mode w a es ep t h' (i + 1) p (.int z' 0) order) → R (some (e.2, z')) s) (h0 : order[i]? = none → R none s) :
    wpAny (model prog w) A (setNext a (z : Int).toNat (i : Int).toNat (ep : Int).toNat) R E s := by
  rw [Int.toNat_natCast, Int.toNat_natCast, Int.toNat_natCast]
  unfold setNext
  refine wpAny_bind (wpAny_setState_of ga d fit ?_)
  dsimp only
  unfold setsByText
  refine wpAny_bind (wpAny_bind (wpAny_askSetting (wpAny_pure ?_)))
  show wpAny _ _ (if byText w = true then _ else _) _ _ _
  generalize hz : Value.int (z : Int) 0 = f at m
  cases m with
  | text z' hb =>
    obtain rfl : z = z' := by injection hz with e; exact Int.ofNat_inj.mp e
    rw [if_pos hb, if_neg (by simp)]
    refine wpAny_bind ?_
    unfold setWalk
    refine wpAny_bind (wpAny_setState_of ga d fit ?_)
    dsimp only
    unfold setsByText
    refine wpAny_bind (wpAny_bind (wpAny_askSetting (wpAny_pure ?_)))
    show wpAny _ _ (if byText w = true then _ else _) _ _ _
    rw [if_pos hb]
    refine wpAny_bind (wpAny_askSetting (wpAny_pure (wpAny_pure ?_)))
    show R ((pickOrder (w.params.setOrder a ep) es)[i]?.map fun e => (e.2, z)) s
    cases q : (pickOrder (w.params.setOrder a ep) es)[i]? with
    | none => exact h0 (by rw [Array.getElem?_toList]; exact q)
    | some e => exact h1 e z (by rw [Array.getElem?_toList]; exact q) fun h' => .text p z hb
  | plain z' hb hp hl R' sz bl =>
    obtain rfl : z = z' := by injection hz with e; exact Int.ofNat_inj.mp e
    rw [if_neg (by rw [hb]; exact Bool.false_ne_true), if_neg (by show ¬ ((!t.plain && decide (es.size > 1)) = true); rw [hp]; exact Bool.false_ne_true)]
    refine wpAny_bind ?_
    show wpAny _ _ (if (!t.led && !es.isEmpty) = true then _ else _) _ _ _
    rw [if_neg (by rw [hl]; simp)]
    refine wpAny_pure (wpAny_pure ?_)
    rw [bl]
    rcases Nat.lt_or_ge i es.size with hlt | hge
    · rw [Array.getElem?_eq_getElem hlt, Array.getElem?_eq_getElem (by rw [sz]; exact hlt)]
      refine h1 es[i] (t.place[i]'(by rw [sz]; exact hlt) + 1) (by simp [hlt]) fun h' => .plain p _ hb hp hl R' sz ?_
      have q := below_next R' i (by rw [sz]; exact hlt)
      have e2 : t.place.getD i 0 = t.place[i]'(by rw [sz]; exact hlt) := by simp [Array.getD, sz, hlt]
      rw [e2] at q
      exact q
    · rw [Array.getElem?_eq_none hge]
      exact h0 (by rw [Array.getElem?_toList]; exact Array.getElem?_eq_none hge)
  | drawn op n ps hb gp dp pm => cases hz
theorem stop_it {i : Nat} {f f' : Value} {Q : Option Value → Shared → Prop} (hh : A.handled = none) (g : s.heap.get? I = some { cls := .type "set_iterator", data := .fields #[f, .int i 0, f', .int es.size 0, .int ep 0] })
    (hQ : ∀ h', Heap.ExtBut I s.heap h' → Q none { s with heap := h' }) :
    wpAny (model prog w) A.in1 (setField (Value.ref I) 2 Value.none >>= fun _ => newExc (Value.type "StopIteration") [] >>= fun e => (raiseNew e : Sem PySem.Fin))
      (fun fin s' => ∃ v, fin = .done (.ret v) ∧ wpAny (model prog w) A (pure (some v)) Q E s')
      (fun e s' => wpAny (model prog w) A (isInstance e (.type "StopIteration") >>= fun b => if b = true then pure none else throw e) Q E s') s := by
  refine wpAny_bind (wpAny_setField_rec g (by simp) fun h1 g1 sb => ?_)
  refine wpAny_bind ?_
  simp only [newExc, newTuple]
  refine wpAny_bind (wpAny_newObj_type ?_ (by size_fits))
  refine wpAny_bind (m := firstArgMember _ _) (wpAny_of_eq (a := Value.none) (by first | rfl | (simp only [firstArgMember]; rfl)) ?_)
  refine wpAny_newObj_type ?_ (by size_fits)
  simp only [raiseNew]
  refine wpAny_bind (wpAny_handled ?_)
  rw [show A.in1.handled = none from hh]
  refine wpAny_bind (wpAny_pure (wpAny_throw ?_))
  refine wpAny_bind (wpAny_isInstance (T := "StopIteration") (b := true) ⟨_, Heap.get?_push_size _ rfl, rfl⟩ isSubtype_stop ?_)
  exact wpAny_pure (hQ _ ((sb.extBut.push _).push _))
theorem next_any {i : Nat} {f : Value} {o : Obj} {Q : Option Value → Shared → Prop} (hh : A.handled = none) (g : s.heap.get? I = some (itObj f a i es.size ep)) (ga : s.heap.get? a = some o) (d : o.data = .set es ep t) (fit : t.fits es.size = true)
    (m : Mode w a es ep t s.heap i p f order) (npI : p ≠ I)
    (h1 : ∀ e h' f', order[i]? = some e → Heap.SameBut I s.heap h' → h'.get? I = some (itObj f' a (i + 1) es.size ep) → Mode w a es ep t h' (i + 1) p f' order → Q (some e.2) { s with heap := h' })
    (h0 : ∀ h', order[i]? = none → Heap.ExtBut I s.heap h' → Q none { s with heap := h' }) : wpAny (model prog w) A (pyNext (.ref I)) Q E s := by
  have hT : s.TypeIs (.ref I) "set_iterator" := ⟨_, g, rfl⟩
  unfold pyNext
  refine wpAny_bind (wpAny_attempt (wpAny_callSpecial?_slot (name := Str.ofString "__next__") hT slot_next (wpAny_call_entry slot_next hT entry_next ?_ (args_next _))))
  unfold Builtin.«set_iterator.__next__»
  refine wpAny_bind (wpAny_pure ?_)
  refine wpAny_bind (wpAny_fieldsOf g rfl ?_)
  refine wpAny_bind (wpAny_setEntries_of ga d fit ?_)
  rw [if_neg (by simp)]
  have ordin : ∀ z : Nat, f = .int z 0 → wpAny (model prog w) A.in1 (setNext a (z : Int).toNat (i : Int).toNat (ep : Int).toNat >>= fun r => match r with
        | some (x, next) => setField (Value.ref I) 0 (rawInt (next : Nat)) >>= fun _ => setField (Value.ref I) 1 (rawInt ((i : Int) + 1)) >>= fun _ => ret x
        | none => setField (Value.ref I) 2 Value.none >>= fun _ => newExc (Value.type "StopIteration") [] >>= fun e => raiseNew e)
      (fun fin s' => ∃ v, fin = .done (.ret v) ∧ wpAny (model prog w) A (pure (some v)) Q E s')
      (fun e s' => wpAny (model prog w) A (isInstance e (.type "StopIteration") >>= fun b => if b = true then pure none else throw e) Q E s') s := fun z hz => by
    subst hz
    refine wpAny_bind (setNext_ok ga d fit m (fun e z' he hm => ?_) fun he => ?_)
    · refine wpAny_bind (wpAny_setField_rec g (by simp) fun h2 g2 sb2 => ?_)
      refine wpAny_bind (wpAny_setField_rec g2 (by simp) fun h3 g3 sb3 => ?_)
      exact wpAny_pure ⟨_, rfl, wpAny_pure (h1 e h3 _ he (sb2.trans sb3) g3 (hm h3))⟩
    · exact stop_it (es := es) (ep := ep) hh g fun h' x => h0 h' he x
  cases m with
  | text z hb => exact ordin z rfl
  | plain z hb hp hl R sz bl => exact ordin z rfl
  | drawn op n ps hb gp dp pm =>
    show wpAny _ _ (seqItems? (Value.ref p) >>= _) _ _ s
    refine wpAny_bind (wpAny_seqItems gp dp ?_)
    dsimp only
    rw [Int.toNat_natCast]
    have hget : (ps.map fun k => rawInt (k : Nat)).toArray[i]? = (ps[i]?).map fun k => rawInt (k : Nat) := by simp
    rw [hget]
    cases q : ps[i]? with
    | none =>
      have hn : (ps.filterMap (es[·]?))[i]? = none := List.getElem?_eq_none (Nat.le_trans (List.length_filterMap_le _ _) (List.getElem?_eq_none_iff.mp q))
      show wpAny _ _ (setField (Value.ref I) 0 (rawInt 0) >>= _) _ _ s
      refine wpAny_bind (wpAny_setField_rec g (by simp) fun h2 g2 sb2 => ?_)
      exact stop_it (es := es) (ep := ep) hh g2 fun h' x => h0 h' hn fun b ob hb e => x b ob hb (sb2.extBut b ob hb e)
    | some k =>
      have hk : k < es.size := by
        have z : k ∈ ps := List.mem_of_getElem? q
        exact List.mem_range.mp (pm.mem_iff.mp z)
      show wpAny _ _ (setNextDrawn a (k : Int).toNat (ep : Int).toNat >>= _) _ _ s
      refine wpAny_bind ?_
      rw [Int.toNat_natCast, Int.toNat_natCast]
      unfold setNextDrawn
      refine wpAny_bind (wpAny_setState_of ga d fit ?_)
      dsimp only
      rw [if_neg (by simp), Array.getElem?_eq_getElem hk]
      refine wpAny_pure ?_
      refine wpAny_bind (wpAny_setField_rec g (by simp) fun h2 g2 sb2 => ?_)
      have all : ∀ (l : List Nat), (∀ x ∈ l, x < es.size) → l.filterMap (es[·]?) = l.map fun x => es[x]?.getD (0, .none) := fun l hl => by
        induction l with
        | nil => rfl
        | cons x r ih =>
          rw [List.filterMap_cons, Array.getElem?_eq_getElem (hl x List.mem_cons_self), ih fun y hy => hl y (List.mem_cons_of_mem _ hy)]
          simp [hl x List.mem_cons_self]
      have he : (ps.filterMap (es[·]?))[i]? = some es[k] := by
        rw [all ps fun x hx => List.mem_range.mp (pm.mem_iff.mp hx), List.getElem?_map, q]
        simp [hk]
      exact wpAny_pure ⟨_, rfl, wpAny_pure (h1 es[k] h2 _ he sb2 g2 (.drawn p op n ps hb ((sb2.2 p npI).trans gp) dp pm))⟩
theorem Mode.keep {h h' : Heap} {i : Nat} {f : Value} (m : Mode w a es ep t h i p f order) (k : ∀ o, h.get? p = some o → h'.get? p = some o) : Mode w a es ep t h' i p f order := by
  cases m with
  | text z hb => exact .text p z hb
  | plain z hb hp hl R sz bl => exact .plain p z hb hp hl R sz bl
  | drawn op n ps hb gp dp pm => exact .drawn p op n ps hb (k _ gp) dp pm
theorem walks_set (hh : A.handled = none) (n1 : a ≠ I) (n2 : p ≠ I) (fit : t.fits es.size = true) (len : order.length = es.size) :
    Walks prog w A I [I, a, p] [I] es.size (fun i v => ∃ e, order[i]? = some e ∧ v = e.2)
      (fun i h => (∃ f, h.get? I = some (itObj f a i es.size ep) ∧ Mode w a es ep t h i p f order) ∧ ∃ o, h.get? a = some o ∧ o.data = .set es ep t) where
  sub := fun b hb => by simp at hb; simp [hb]
  frame := fun i h h' st k => by
    obtain ⟨⟨f, g, m⟩, o, ga, d⟩ := st
    exact ⟨⟨f, k I (by simp) _ g, m.keep fun o e => k p (by simp) o e⟩, o, k a (by simp) _ ga, d⟩
  item := fun i s Q E hi st hQ => by
    obtain ⟨⟨f, g, m⟩, o, ga, d⟩ := st
    refine next_any hh g ga d fit m n2 (fun e h' f' he sb g' m' => ?_) fun h' hn _ => ?_
    · exact hQ e.2 h' s.toks ⟨e, he, rfl⟩ ⟨⟨f', g', m'⟩, o, (sb.2 a n1).trans ga, d⟩ fun b ob hb e => (sb.2 b (by simpa using hb)).trans e
    · have := List.getElem?_eq_none_iff.mp hn
      omega
  done := fun s Q E st hQ => by
    obtain ⟨⟨f, g, m⟩, o, ga, d⟩ := st
    refine next_any hh g ga d fit m n2 (fun e h' f' he _ _ _ => ?_) fun h' _ x => ?_
    · have := (List.getElem?_eq_some_iff.mp he).1
      omega
    · exact hQ h' s.toks fun b ob hb e => x b ob (by simpa using hb) e
  self := fun i s Q E st hQ => by
    obtain ⟨⟨f, g, m⟩, _⟩ := st
    have hT : s.TypeIs (.ref I) "set_iterator" := ⟨_, g, rfl⟩
    refine wpAny_pyIter_slot hT slot_iti (wpAny_call_entry slot_iti hT entry_iti ?_ (args_iti _))
    show wpAny _ _ (ret (.ref I)) _ _ s
    exact wpAny_pure ⟨_, rfl, "set_iterator", _, hT, slot_next.lookup, hQ⟩
theorem iter_set {o : Obj} {Q : Value → Shared → Prop} (ga : s.heap.get? a = some o) (x : o.ExactSet) (d : o.data = .set es ep t) (fit : t.fits es.size = true) (T : Tab t) (led : t.led = !byText w) (small : es.size ≤ sizeLine)
    (hQ : ∀ I p f order h' dr, s.heap.objs.size ≤ I → (p = a ∨ s.heap.objs.size ≤ p) → p ≠ I → p < h'.objs.size → I < h'.objs.size → h'.get? I = some (itObj f a 0 es.size ep) → Mode w a es ep t h' 0 p f order → (∀ b ob, s.heap.get? b = some ob → h'.get? b = some ob) → Q (.ref I) { s with heap := h', drawn := dr }) :
    wpAny (model prog w) A (pyIter (.ref a)) Q E s := by
  have hT : s.TypeIs (.ref a) "set" := ⟨o, ga, x.1⟩
  have alt : a < s.heap.objs.size := Heap.lt_size ga
  refine wpAny_pyIter_slot hT PySem.F.slot_set_iter (wpAny_call_entry PySem.F.slot_set_iter hT entry_iter ?_ (PySem.F.args_set_iter_1 _))
  unfold Builtin.«frozenset.__iter__»
  refine wpAny_bind (m := Builtin.Frozenset.slot0 "__iter__" _) (wpAny_pure ?_)
  refine wpAny_bind (wpAny_bind (wpAny_setEntries_of ga d fit (wpAny_pure ?_)))
  refine wpAny_bind ?_
  unfold setDrawn
  refine wpAny_bind (wpAny_setState_of ga d fit ?_)
  dsimp only
  unfold setsByText
  refine wpAny_bind (wpAny_bind (wpAny_askSetting (wpAny_pure (wpAny_pure ?_))))
  show wpAny _ _ (if (!byText w && (!t.plain && decide (es.size > 1))) = true then _ else _) _ _ _
  have last : ∀ (s1 : Shared) (f : Value) (p : Addr) (order : List (Int × Value)) (dr : Drawn), s1.os = s.os → s1.gens = s.gens → s1.toks = s.toks → s1.drawn = dr → s.heap.objs.size ≤ s1.heap.objs.size → (p = a ∨ s.heap.objs.size ≤ p) → p < s1.heap.objs.size → (∀ b ob, s.heap.get? b = some ob → s1.heap.get? b = some ob) →
      (∀ h', (∀ b ob, s1.heap.get? b = some ob → h'.get? b = some ob) → Mode w a es ep t h' 0 p f order) →
      wpAny (model prog w) A.in1 (setEpoch a >>= fun e => newFields "set_iterator" [f, rawInt 0, .ref a, rawInt (es.size : Nat), rawInt (e : Nat)] >>= fun r => ret r)
        (fun fin s' => ∃ v, fin = PySem.Fin.done (.ret v) ∧ ∃ T' r, s'.TypeIs v T' ∧ typeLookup (.type T') "__next__" = pure (some r) ∧ Q v s') E s1 := fun s1 f p order dr e1 e2 e3 e4 hs hpa hp kp hm => by
    refine wpAny_bind (wpAny_setEpoch_of (kp a o ga) d fit ?_)
    refine wpAny_bind (wpAny_newObj_type (wpAny_pure ⟨_, rfl, "set_iterator", _, ⟨_, Heap.get?_push_size _ rfl, rfl⟩, slot_next.lookup, ?_⟩) (by size_fits))
    have z := hQ s1.heap.objs.size p f order (s1.heap.push { cls := .type "set_iterator", data := .fields #[f, rawInt 0, .ref a, rawInt (es.size : Nat), rawInt (ep : Nat)] }) dr hs hpa (Nat.ne_of_lt hp) (by rw [Heap.size_push]; exact Nat.lt_succ_of_lt hp) (by rw [Heap.size_push]; exact Nat.lt_succ_self _) (Heap.get?_push_size _ rfl)
      (hm _ fun b ob e => Heap.get?_push_of_some _ e) fun b ob e => Heap.get?_push_of_some _ (kp b ob e)
    obtain ⟨h1, g1, d1, k1, o1⟩ := s1
    subst e1 e2 e3 e4
    exact z
  by_cases hc : (!byText w && (!t.plain && decide (es.size > 1))) = true
  · rw [if_pos hc]
    have hb : byText w = false := by
      cases q : byText w with
      | false => rfl
      | true => rw [q] at hc; simp at hc
    refine wpAny_bind (draw_perm es.size (List.range es.size) _ _ (by simp) fun ps dr pm => ?_)
    refine wpAny_bind (wpAny_newTuple ?_ (by rw [List.length_map, pm.length_eq, List.length_range]; exact small))
    refine last _ (.ref s.heap.objs.size) s.heap.objs.size (ps.filterMap (es[·]?)) dr rfl rfl rfl rfl (by rw [Heap.size_push]; exact Nat.le_succ _) (.inr (Nat.le_refl _)) (by rw [Heap.size_push]; exact Nat.lt_succ_self _) (fun b ob e => Heap.get?_push_of_some _ e) fun h' kp => ?_
    exact .drawn _ { cls := .type "tuple", data := .seq (ps.map fun k => rawInt (k : Nat)).toArray } 0 ps hb (kp _ _ (Heap.get?_push_size _ rfl)) rfl pm
  · rw [if_neg hc]
    refine wpAny_bind (wpAny_pure ?_)
    cases hb : byText w with
    | true => exact last s _ a _ s.drawn rfl rfl rfl rfl (Nat.le_refl _) (.inl rfl) alt (fun _ _ e => e) fun h' _ => .text a 0 hb
    | false =>
      rw [hb] at hc led
      have hc' : (!t.plain && decide (es.size > 1)) = false := by simpa using hc
      have sz : t.place.size = es.size := by
        unfold SetTable.fits at fit
        simp only [Bool.and_eq_true, beq_iff_eq] at fit
        exact fit.1
      have R : Ris t.place := by
        cases hpl : t.plain with
        | true => exact T.ris hpl
        | false =>
          rw [hpl] at hc'
          have : es.size ≤ 1 := by simpa using hc'
          intro i j hij hj
          omega
      exact last s _ a _ s.drawn rfl rfl rfl rfl (Nat.le_refl _) (.inl rfl) alt (fun _ _ e => e) fun h' _ => .plain a 0 hb hc' led R sz (below_zero R)
end
end SetIt
end
section
namespace SetIt
open PySem PyProof.Rows
theorem look_len : typeLookup (.type "set") "__len__" = pure (some (.builtin "set.__len__")) := by rw [typeLookup_type, builtinLookup_eq_fast]; kernel_rfl
section
variable {prog : Program} {w : World} {A : Around} {E : Value → Shared → Prop} {s : Shared} {a : Addr} {l : List Int}
theorem hint_set {Q : Bool → Shared → Prop} (hT : s.TypeIs (.ref a) "set") (h : Q false s) : wpAny (model prog w) A (Builtin.List.listLengthHint (.ref a)) Q E s := by
  unfold Builtin.List.listLengthHint
  refine wpAny_bind (wpAny_specialOf hT look_len ?_)
  generalize hid : ("set.__len__" : String) = id0
  wp_delta
  rw [show splitId id0 = some ("set", "__len__") from by subst hid; decide +kernel]
  subst hid
  refine wpAny_bind (wpAny_isInstance (T := "set") (b := true) hT (by rw [isSubtype_type]; kernel_rfl) ?_)
  refine wpAny_ite_split (fun hab => absurd hab (by decide)) (fun _ => ?_)
  refine wpAny_ite_split (fun _ => ?_) (fun hab => absurd (by decide +kernel) hab)
  exact wpAny_bind (wpAny_typeOf hT (wpAny_pure h))
theorem ints_of_order {ks : List Int} {es order : List (Int × Value)} {vs : Array Value} (p : Paired IsEl ks es) (po : order.Perm es) (it : ItemsOf (fun i v => ∃ e, order[i]? = some e ∧ v = e.2) vs order.length) : ∃ ns, IntsAre vs.toList ns ∧ ns.Perm ks := by
  obtain ⟨ns, p2, pp⟩ := paired_perm po.symm p
  refine ⟨ns, ?_, pp.symm⟩
  have ev : vs.toList = order.map (·.2) := by
    apply List.ext_getElem?
    intro j
    rw [List.getElem?_map, Array.getElem?_toList]
    cases q : vs[j]? with
    | none =>
      have z : vs.size ≤ j := Array.getElem?_eq_none_iff.mp q
      rw [it.1] at z
      rw [List.getElem?_eq_none z]
      rfl
    | some v =>
      obtain ⟨e, he, hv⟩ := it.2 j v q
      rw [he, hv]
      rfl
  rw [ev]
  clear ev it po pp
  induction p2 with
  | nil => exact .nil
  | cons f _ ih =>
    obtain ⟨tk, rfl⟩ := f
    exact .cons _ _ ih
theorem collect_set {Q : List Value → Shared → Prop} (hh : A.handled = none) (S : SetL w s.heap a l)
    (hQ : ∀ vs ns h' tk dr, IntsAre vs ns → ns.Perm l → (∀ b o, s.heap.get? b = some o → h'.get? b = some o) → Q vs { s with heap := h', toks := tk, drawn := dr }) : wpAny (model prog w) A (collect (.ref a)) Q E s := by
  obtain ⟨o, es, ep, t, ks, ga, x, d, p, pm, nd, bnd, fit, T, led⟩ := S
  have small : es.size ≤ sizeLine := fits_of_scanBound bnd
  have alt : a < s.heap.objs.size := Heap.lt_size ga
  unfold collect
  refine wpAny_bind (wpAny_runValue (codeAny_builtin PySem.F.entry_proto_collect ?_))
  rw [Around.under_plainId PySem.F.plain_proto_collect _]
  show wpAny _ A.in1 (newList [] >>= fun l => again (.builtin "list.__iadd__" ⟨[l, .ref a], []⟩)) _ _ s
  refine wpAny_bind (wpAny_newObj_type (wpAny_pure ⟨plainId_quiet PySem.F.plain_list_iadd _, codeAny_builtin PySem.F.entry_list_iadd ?_⟩))
  rw [Around.under_plainId PySem.F.plain_list_iadd _]
  generalize hD : s.heap.objs.size = D at alt ⊢
  generalize hP : s.heap.push { cls := .type "list", data := .seq ([] : List Value).toArray } = h0
  have gD : h0.get? D = some { cls := .type "list", data := .seq (#[] : Array Value) 0 } := by rw [← hP, ← hD]; exact Heap.get?_push_size _ rfl
  have k0 : ∀ b o, s.heap.get? b = some o → h0.get? b = some o := fun b o e => hP ▸ Heap.get?_push_of_some _ e
  have sz0 : h0.objs.size = D + 1 := by rw [← hP, Heap.size_push, hD]
  have ne : D ≠ a := Nat.ne_of_gt alt
  show wpAny _ A.in1 (Builtin.List.listExtendWith (.ref D) (.ref a) (.ref D)) _ _ _
  unfold Builtin.List.listExtendWith
  refine wpAny_bind (wpAny_typeOf (T := "set") ⟨o, k0 a o ga, x.1⟩ ?_)
  have h1 : Builtin.List.listSameRef (.ref D) (.ref a) = false := by simp [Builtin.List.listSameRef, ne]
  have h2 : (Value.type "set" == Value.type "list") = false := by decide
  have h3 : (Value.type "set" == Value.type "tuple") = false := by decide
  simp only [h1, h2, h3, Bool.or_false, Bool.false_eq_true, if_false]
  refine wpAny_bind (iter_set (k0 a o ga) x d fit T led small fun I q f order h5 dr hI hqa hqI hq hI2 g5 m5 k5 => ?_)
  have hI' : D + 1 ≤ I := by rw [← sz0]; exact hI
  have po := m5.perm
  have len : order.length = es.size := by rw [po.length_eq, Array.length_toList]
  have qD : q ≠ D := by
    intro z
    rcases hqa with y | y
    · exact ne (z.symm.trans y)
    · have y' : D + 1 ≤ q := by rw [← sz0]; exact y
      rw [z] at y'
      exact absurd y' (Nat.not_succ_le_self _)
  have aI : a ≠ I := fun z => by rw [← z] at hI'; exact absurd (Nat.lt_of_lt_of_le alt (Nat.le_of_succ_le hI')) (Nat.lt_irrefl _)
  have DI : D ≠ I := fun z => by rw [← z] at hI'; exact absurd hI' (Nat.not_succ_le_self _)
  have W := walks_set (prog := prog) (w := w) (A := A.in1) (I := I) (a := a) (p := q) (es := es) (ep := ep) (t := t) (order := order) hh aI hqI fit len
  have Df : D ∉ [I, a, q] := by simp [DI, ne, Ne.symm qD]
  have key : ∀ (h : Heap) (c tk : Nat), (∀ b ob, b ≠ D → h5.get? b = some ob → h.get? b = some ob) → h.get? D = some { cls := .type "list", data := .seq (#[] : Array Value) c } →
      codeAny (model prog w) A (.builtin "list.extend.loop" ⟨[.ref D, .ref I, .ref D], []⟩) (fun r s' => match r with
        | .ok (.ret v) => wpAny (model prog w) A (match v with
          | .ref a => load a >>= fun o => match o.data with
            | .seq xs _ => pure xs.toList
            | _ => unsupported "internal:collect"
          | _ => unsupported "internal:collect") Q E s'
        | .ok _ => False
        | .error e => E e s') { s with heap := h, toks := tk, drawn := dr } := fun h c tk kp gc => by
    have st : (∃ f, h.get? I = some (itObj f a 0 es.size ep) ∧ Mode w a es ep t h 0 q f order) ∧ ∃ o, h.get? a = some o ∧ o.data = .set es ep t :=
      ⟨⟨f, kp I _ (Ne.symm DI) g5, m5.keep fun ob e => kp q ob qD e⟩, o, kp a o (Ne.symm ne) (k5 a o (k0 a o ga)), d⟩
    refine codeAny_extend_loopS W.toS small D Df (.ref D) es.size 0 _ #[] c rfl (Nat.zero_le _) st gc (ItemsOf.nil _) fun s' acc c' hm gD' hacc => ?_
    refine wpAny_bind (wpAny_load gD' (wpAny_pure ?_))
    obtain ⟨ns, hi, hp⟩ := ints_of_order p po (by rw [len]; exact hacc)
    have hk : ∀ b ob, s.heap.get? b = some ob → s'.heap.get? b = some ob := fun b ob e => by
      have bl : b < D := hD ▸ Heap.lt_size e
      refine hm.heap b ob (fun z => ?_) (kp b ob (Nat.ne_of_lt bl) (k5 b ob (k0 b ob e)))
      rcases List.mem_cons.mp z with y | y
      · exact Nat.ne_of_lt bl y
      · have y' : b = I := by simpa using y
        rw [y'] at bl
        exact absurd (Nat.lt_of_lt_of_le bl (Nat.le_of_succ_le hI')) (Nat.lt_irrefl _)
    have z := hQ acc.toList ns s'.heap s'.toks dr hi (hp.trans pm) hk
    obtain ⟨h', g', d', t', o'⟩ := s'
    have e1 : g' = s.gens := hm.gens
    have e2 : d' = dr := hm.drawn
    have e3 : o' = s.os := hm.os
    subst e1 e2 e3
    exact z
  refine wpAny_bind (wpAny_holding (hint_set ⟨o, k5 a o (k0 a o ga), x.1⟩ ?_))
  have g5D : h5.get? D = some { cls := .type "list", data := .seq (#[] : Array Value) 0 } := k5 D _ gD
  refine wpAny_ite_split (fun _ => ?_) (fun _ => wpAny_pure ⟨plainId_quiet PySem.F.plain_extend_loop _, key _ 0 _ (fun _ _ _ e => e) g5D⟩)
  refine wpAny_bind (wpAny_rule (wpAny_bind ?_))
  show wpAny _ _ (updateSeq D (·.push .none) >>= fun _ => updateSeq D (·.pop)) _ _ _
  refine wpAny_bind (wpAny_updateSeq g5D rfl ?_)
  have g6 := Heap.get?_update_self (Obj.mapSeq (·.push Value.none)) g5D rfl
  refine wpAny_updateSeq (hz := by seq_fits) g6 rfl ?_
  have g7 := Heap.get?_update_self (Obj.mapSeq (·.pop)) g6 rfl
  exact wpAny_pure ⟨plainId_quiet PySem.F.plain_extend_loop _, key _ _ _ (fun b ob hb e => (Heap.get?_update_other _ _ (Ne.symm hb)).trans ((Heap.get?_update_other _ _ (Ne.symm hb)).trans e)) g7⟩
end
end SetIt
end
section
namespace SetIt
open PySem PyProof.Rows
section
variable {prog : Program} {w : World} {A : Around} {E : Value → Shared → Prop} {s : Shared}
theorem sorted_of {v : Value} {Q : Value → Shared → Prop} (hc : wpAny (model prog w) A.in1 (collect v) (fun vs s' => ∃ ns, IntsAre vs ns ∧ vs.length < 64 ∧ ∀ (out : List Value) (ns' : List Int) (e : Nat) (h'' : Heap), IntsAre out ns' → ns'.Perm ns → ns'.Pairwise (· ≤ ·) →
      (∀ b o, s'.heap.get? b = some o → h''.get? b = some o) → h''.get? s'.heap.objs.size = some { cls := .type "list", data := .seq out.toArray e } → Q (.ref s'.heap.objs.size) { s' with heap := h'' }) E s) :
    wpAny (model prog w) A (call (.builtin "sorted") [v]) Q E s := by
  refine Calls.call_function_entry kind_sorted plain_sorted entry_sorted (args_sorted1 _) ?_
  unfold Builtin.«sorted»
  refine wpAny_bind (m := checkCount "sorted" 1 1 _) (wpAny_pure ?_)
  refine wpAny_bind (wpAny_mono hc (fun vs s' ⟨ns, hI, h64, fin⟩ => ?_) fun _ _ e => e)
  refine wpAny_bind (wpAny_newList ?_)
  have gL : (s'.heap.push (seqObj "list" vs.toArray 0)).get? s'.heap.objs.size = some (seqObj "list" vs.toArray 0) := Heap.get?_push_size _ rfl
  refine wpAny_bind (wpAny_holding (wpAny_call_entry slot_list_sort ⟨_, gL, rfl⟩ entry_list_sort (list_sort_tree gL hI h64 fun out ns' a1 a2 a3 => ⟨_, rfl, ?_⟩) (args_list_sort _)))
  obtain ⟨e, he⟩ := sortedHeap_at (out := out) gL
  refine wpAny_pure ⟨_, rfl, fin out.toList ns' e _ a1 a2 a3 (fun b o eb => ?_) he⟩
  have bl := Heap.lt_size eb
  exact (sortedHeap_old (Nat.ne_of_lt bl) (by rw [Heap.size_push]; exact Nat.lt_succ_of_lt bl)).trans (Heap.get?_push_of_some _ eb)
end
def srt (l : List Int) : List Int := l.mergeSort (fun a b => decide (a ≤ b))
theorem srt_perm (l : List Int) : (srt l).Perm l := List.mergeSort_perm _ _
theorem srt_sorted (l : List Int) : (srt l).Pairwise (· ≤ ·) := by
  have h := List.pairwise_mergeSort (le := fun a b : Int => decide (a ≤ b)) (fun a b c h1 h2 => by simp only [decide_eq_true_eq] at *; omega) (fun a b => by simp only [Bool.or_eq_true, decide_eq_true_eq]; omega) l
  exact h.imp fun h => of_decide_eq_true h
theorem sorted_uniq : ∀ {l m : List Int}, l.Perm m → l.Pairwise (· ≤ ·) → m.Pairwise (· ≤ ·) → l = m
  | [], m, p, _, _ => (List.nil_perm.mp p).symm
  | a :: l, [], p, _, _ => absurd p.length_eq (by simp)
  | a :: l, b :: m, p, h1, h2 => by
    have ha := List.pairwise_cons.mp h1
    have hb := List.pairwise_cons.mp h2
    have e : a = b := by
      have m1 : a ∈ b :: m := p.mem_iff.mp List.mem_cons_self
      have m2 : b ∈ a :: l := p.mem_iff.mpr List.mem_cons_self
      rcases List.mem_cons.mp m1 with z | z
      · exact z
      · rcases List.mem_cons.mp m2 with y | y
        · exact y.symm
        · have := ha.1 b y; have := hb.1 a z; omega
    subst e
    rw [sorted_uniq (List.Perm.cons_inv p) ha.2 hb.2]
theorem srt_of {l m : List Int} (p : m.Perm l) (h : m.Pairwise (· ≤ ·)) : m = srt l := sorted_uniq (p.trans (srt_perm l).symm) h (srt_sorted l)
end SetIt
end
section
namespace L2
open PySem PySem.Spec PyProof.Rows
mutual
def Deep (K : PySem.W.Frag) (H : Hp) : PyData → V → Prop
  | .none, v => v = .non
  | .bool b, v => v = .bl b
  | .int i, v => v = .int i
  | .str x, v => v = .str x
  | .list ds, v => ∃ a xs, v = .ref a ∧ SqL K H a xs ∧ DeepAll K H ds xs
  | .tuple ds, v => ∃ a xs, v = .ref a ∧ SqT K H a xs ∧ DeepAll K H ds xs
  | .dict _, _ => False
def DeepAll (K : PySem.W.Frag) (H : Hp) : List PyData → List V → Prop
  | [], vs => vs = []
  | d :: ds, vs => ∃ v r, vs = v :: r ∧ Deep K H d v ∧ DeepAll K H ds r
end
section
variable {X : Cx} {pins : List (Addr × Obj)} {σ : St} {H : Hp} {s : Shared}
mutual
theorem Deep.reads (I : Inv X pins σ H s) : ∀ (d : PyData) (v : V) (u : Value), Deep X.K H d v → RelV v u → ∃ as, Reads s.heap u d as
  | .none, v, u, h, r => by
    rw [Deep] at h
    subst h
    cases r
    exact ⟨_, .none⟩
  | .bool b, v, u, h, r => by
    rw [Deep] at h
    subst h
    cases r
    exact ⟨_, .bool b⟩
  | .int i, v, u, h, r => by
    rw [Deep] at h
    subst h
    obtain ⟨t, rfl⟩ := r
    exact ⟨_, .int i t⟩
  | .str x, v, u, h, r => by
    rw [Deep] at h
    subst h
    obtain ⟨t, rfl⟩ := r
    exact ⟨_, .str x t⟩
  | .list ds, v, u, h, r => by
    rw [Deep] at h
    obtain ⟨a, xs, rfl, hs, ha⟩ := h
    cases r
    obtain ⟨its, rv, ⟨o, n, g, c, _, d⟩, _⟩ := I.list hs
    obtain ⟨as, q⟩ := DeepAll.reads I ds xs its ha rv
    exact ⟨_, .list g c d (by simpa using q)⟩
  | .tuple ds, v, u, h, r => by
    rw [Deep] at h
    obtain ⟨a, xs, rfl, hs, ha⟩ := h
    cases r
    obtain ⟨its, rv, ⟨o, g, c, n, d⟩, _⟩ := I.tuple hs
    obtain ⟨as, q⟩ := DeepAll.reads I ds xs its ha rv
    exact ⟨_, .tuple g c d (by simpa using q)⟩
  | .dict _, v, u, h, r => by rw [Deep] at h; exact h.elim
theorem DeepAll.reads (I : Inv X pins σ H s) : ∀ (ds : List PyData) (vs : List V) (us : List Value), DeepAll X.K H ds vs → Vals vs us → ∃ as, ReadsAll s.heap us ds as
  | [], vs, us, h, r => by
    rw [DeepAll] at h
    subst h
    cases r
    exact ⟨_, .nil⟩
  | d :: ds, vs, us, h, r => by
    rw [DeepAll] at h
    obtain ⟨v, rest, rfl, h1, h2⟩ := h
    cases r with
    | cons r1 r2 =>
      obtain ⟨as, q1⟩ := Deep.reads I d v _ h1 r1
      obtain ⟨bs, q2⟩ := DeepAll.reads I ds rest _ h2 r2
      exact ⟨_, .cons q1 q2⟩
end
end
theorem deepAll_map {K : PySem.W.Frag} {H : Hp} {α : Type} {f : α → PyData} {g : α → V} (h : ∀ x, Deep K H (f x) (g x)) : ∀ l : List α, DeepAll K H (l.map f) (l.map g)
  | [] => by rw [List.map_nil, List.map_nil, DeepAll]
  | x :: r => by
    rw [List.map_cons, List.map_cons, DeepAll]
    exact ⟨_, _, rfl, h x, deepAll_map h r⟩
theorem deep_bl {K : PySem.W.Frag} {H : Hp} {b : Bool} : Deep K H (.bool b) (.bl b) := by rw [Deep]
theorem deep_list {K : PySem.W.Frag} {H : Hp} {a : Addr} {xs : List V} {ds : List PyData} (h : SqL K H a xs) (q : DeepAll K H ds xs) : Deep K H (.list ds) (.ref a) := by rw [Deep]; exact ⟨a, xs, rfl, h, q⟩
section
variable {X : Cx}
def rEqD (K : PySem.W.Frag) (neg : Bool) : R2 := fun x y H Q => ∃ da db, Deep K H da x ∧ Deep K H db y ∧ SeqAt.shaped da = true ∧ SeqAt.shaped db = true ∧ Q (.bl (if neg then !PyData.eqv da db else PyData.eqv da db)) H
theorem op_neD (hu : X.A.units + 64 < cLine) : OpR X (compareOp .NotEq) (rEqD X.K true) := by
  intro pins s σ H x y v u Q I rx ry h
  obtain ⟨da, db, h1, h2, s1, s2, q⟩ := h
  obtain ⟨as, ra⟩ := h1.reads I da x v rx
  obtain ⟨bs, rb⟩ := h2.reads I db y u ry
  exact SeqAt.compareNe_shaped ra rb s1 s2 hu ⟨.bl _, H, I, rfl, q⟩
abbrev SetO (w : World) (a : Addr) (l : List Int) : HO := .ext fun h => SetIt.SetL w h a l
theorem ints_vals : ∀ {ns : List Int} {us : List Value}, IntsAre us ns → Vals (ns.map V.int) us
  | _, _, .nil => .nil
  | _, _, .cons n t r => .cons ⟨t, rfl⟩ (ints_vals r)
theorem call_setL (hc : X.calm = true) : CallR X (.type "set") (fun xs H Q => ∃ p ns, xs = [.ref p] ∧ SqL X.K H p (ns.map V.int) ∧ ns.length + 1 < scanBound ∧ ∀ l, H l = none → Q (.ref l) (upd H l (SetO X.w l (SetIt.ded ns)))) := by
  intro pins s σ H xs us Q I r h
  obtain ⟨p, ns, rfl, hs, hb, q⟩ := h
  obtain ⟨u, rfl, ru⟩ := vals1 r
  cases ru
  obtain ⟨its, rv, pl, hz⟩ := I.list hs
  have hi : IntsAre its ns := intsAre_of rv
  refine SetIt.set_of_list (I.ok.hd hc) pl.isList (by simpa using hi) (by have := hi.length; simp; omega) fun h' tk S kp => ?_
  refine ⟨.ref s.heap.objs.size, _, I.laid (t' := tk) kp (Nat.le_refl _) (o := SetO X.w s.heap.objs.size (SetIt.ded ns)) ?_, rfl, q _ (I.hok.fresh (Nat.le_refl _))⟩
  obtain ⟨o, es, ep, t, ks, g, r⟩ := id S
  exact ⟨S, ⟨o, g⟩, fun h1 h2 z k => z.keep k⟩
theorem call_sortedS (hc : X.calm = true) : CallR X (.builtin "sorted") (fun xs H Q => ∃ a l, xs = [.ref a] ∧ H a = some (SetO X.w a l) ∧ l.length < 64 ∧ ∀ p, H p = none → Q (.ref p) (upd H p (.lst ((SetIt.srt l).map V.int)))) := by
  intro pins s σ H xs us Q I r h
  obtain ⟨a, l, rfl, ha, hb, q⟩ := h
  obtain ⟨u, rfl, ru⟩ := vals1 r
  cases ru
  have S : SetIt.SetL X.w s.heap a l := (I.hok a _ ha).1
  refine SetIt.sorted_of (SetIt.collect_set (I.ok.hd hc) S fun vs ns h' tk dr hi hp kp => ?_)
  refine ⟨ns, hi, by rw [hi.length, hp.length_eq]; exact hb, fun out ns' e h'' ho hp' hs kp' g => ?_⟩
  have I1 : Inv X pins σ H { s with heap := h', toks := tk, drawn := dr } := I.call (g' := s.gens) (ch := []) (Un.kept kp) (I.hok.kept kp) I.bare fun b z => absurd z (by simp)
  have e1 : ns' = SetIt.srt l := SetIt.srt_of (hp'.trans hp) hs
  subst e1
  exact ⟨.ref h'.objs.size, _, I1.laid (t' := tk) kp' (Nat.le_refl _) (show ObjOk X.prog X.w _ h'' _ (.lst _) from ⟨by rw [List.length_map, (SetIt.srt_perm l).length_eq, sizeLine_eq]; omega, out, e, ints_vals ho, g⟩), rfl, q _ (I1.hok.fresh (Nat.le_refl _))⟩
end
theorem call_sortedA {X : Cx} (hc : X.calm = true) : CallR X (.builtin "sorted") (fun xs H Q => ∃ a l, xs = [.ref a] ∧ H a = some (SetO X.w a l) ∧ l.length < 64 ∧ ∀ p H', Same H H' → H p = none → H' p = some (.lst ((SetIt.srt l).map V.int)) → Q (.ref p) H') := by
  intro pins s σ H xs us Q I r h
  obtain ⟨a, l, e, ha, hb, q⟩ := h
  exact call_sortedS hc pins s σ H xs us Q I r ⟨a, l, e, ha, hb, fun p hp => q p _ (fun b u g => by rw [upd_ne (ne_of_none g hp)]; exact g) hp upd_same⟩
theorem b_len : bootBuiltins "len" = some (.builtin "len") := by decide +kernel
theorem b_sorted : bootBuiltins "sorted" = some (.builtin "sorted") := by decide +kernel
theorem b_isinstance : bootBuiltins "isinstance" = some (.builtin "isinstance") := by decide +kernel
theorem b_set : bootBuiltins "set" = some (.type "set") := by decide +kernel
theorem b_list : bootBuiltins "list" = some (.type "list") := by decide +kernel
end L2
end
section
namespace L2
open PySem PySem.Spec PyProof.Rows
theorem yes_go {τ : St} {H : Hp} {A B : Hp → Prop} (h : A H) : tYes τ H fun b H3 => if b = true then A H3 else B H3 := by
  show if true = true then A H else B H
  rw [if_pos rfl]
  exact h
theorem Same.upd {H H' : Hp} (e : Same H H') {p : Addr} {o : HO} (h : H p = none) : Same H (upd H' p o) := fun b u q => by
  rw [upd_ne (ne_of_none q h)]
  exact e b u q
theorem Same.new {H : Hp} {p : Addr} {o : HO} (h : H p = none) : Same H (_root_.L2.upd H p o) := Same.upd (Same.refl H) h
end L2
namespace L3
open PySem PySem.Spec PyProof.Rows L2
structure GF (K : PySem.W.Frag) (mg : Str → Option Value) (x qual : Str) (st : Stmt) (ps : List Str) (f : Addr) (fd : FuncData) : Prop where
  fn : Fun K x qual st f fd
  bd : Binds K fd ps []
  mg : mg x = some (.ref f)
structure MF (K : PySem.W.Frag) (C : Addr) (x qual : Str) (st : Stmt) (ps : List Str) (f : Addr) (fd : FuncData) : Prop where
  fn : Fun K x qual st f fd
  bd : Binds K fd ps []
  mt : Meth K C x f
def PairV (H : Hp) (p : Int × Int) (v : V) : Prop := ∃ t, v = .ref t ∧ H t = some (.tup [.int p.1, .int p.2])
abbrev PairsV (H : Hp) (ps : List (Int × Int)) (xs : List V) : Prop := Paired (PairV H) ps xs
theorem PairV.same {H H' : Hp} {p : Int × Int} {v : V} (e : Same H H') (h : PairV H p v) : PairV H' p v := by
  obtain ⟨t, rfl, q⟩ := h
  exact ⟨t, rfl, e _ _ q⟩
theorem PairsV.same {H H' : Hp} {ps : List (Int × Int)} {xs : List V} (e : Same H H') (h : PairsV H ps xs) : PairsV H' ps xs := Paired.mapP h fun _ _ q => q.same e
theorem pairs_get {H : Hp} : ∀ {ps : List (Int × Int)} {xs : List V}, PairsV H ps xs → ∀ {i : Nat} {x : V}, xs[i]? = some x → ∃ p, ps[i]? = some p ∧ PairV H p x
  | _, _, .nil, i, x, e => by simp at e
  | _, _, .cons f t, 0, x, e => by simp at e; exact ⟨_, rfl, e ▸ f⟩
  | _, _, .cons f t, i + 1, x, e => by
    obtain ⟨a, h1, h2⟩ := pairs_get t (i := i) (x := x) (by simpa using e)
    exact ⟨a, by simpa using h1, h2⟩
def RowV (H : Hp) (r : List Int) (v : V) : Prop := ∃ l, v = .ref l ∧ H l = some (.lst (r.map V.int))
theorem RowV.same {H H' : Hp} {r : List Int} {v : V} (e : Same H H') (h : RowV H r v) : RowV H' r v := by
  obtain ⟨l, rfl, q⟩ := h
  exact ⟨l, rfl, e _ _ q⟩
abbrev RowsV (H : Hp) (rs : List (List Int)) (xs : List V) : Prop := Paired (RowV H) rs xs
theorem RowsV.same {H H' : Hp} {rs : List (List Int)} {xs : List V} (e : Same H H') (h : RowsV H rs xs) : RowsV H' rs xs := Paired.mapP h fun _ _ q => q.same e
theorem rows_get {H : Hp} : ∀ {rs : List (List Int)} {xs : List V}, RowsV H rs xs → ∀ {i : Nat} {r : List Int}, rs[i]? = some r → ∃ x, xs[i]? = some x ∧ RowV H r x
  | _, _, .nil, i, x, e => by simp at e
  | _, _, .cons f t, 0, x, e => by simp at e; exact ⟨_, rfl, e ▸ f⟩
  | _, _, .cons f t, i + 1, x, e => by
    obtain ⟨a, h1, h2⟩ := rows_get t (i := i) (r := x) (by simpa using e)
    exact ⟨a, by simpa using h1, h2⟩
def okDoor (n : Int) (p : Int × Int) : Prop := 0 ≤ p.1 ∧ p.1 < n ∧ 0 ≤ p.2 ∧ p.2 < n
structure OkNet (n : Int) (ps : List (Int × Int)) : Prop where
  lo : 1 ≤ n
  hi : n ≤ 40
  len : ps.length ≤ 100
  ok : ∀ p ∈ ps, okDoor n p
def ahead (ps : List (Int × Int)) (r : Int) : List Int := SetIt.srt (SetIt.ded ((ps.filter fun p => decide (p.1 = r)).map (·.2)))
def behind (ps : List (Int × Int)) (r : Int) : List Int := SetIt.srt (SetIt.ded ((ps.filter fun p => decide (p.2 = r)).map (·.1)))
theorem nodup_small : ∀ (n : Nat) (l : List Int), l.Nodup → (∀ x ∈ l, 0 ≤ x ∧ x < (n : Int)) → l.length ≤ n
  | 0, l, _, h => by
    cases l with
    | nil => exact Nat.le_refl _
    | cons a r => have := h a List.mem_cons_self; omega
  | n + 1, l, nd, h => by
    by_cases hn : (n : Int) ∈ l
    · have q := nodup_small n (l.erase (n : Int)) (nd.erase _) fun x hx => by
        have h1 := h x (List.mem_of_mem_erase hx)
        have h2 : x ≠ (n : Int) := fun z => by subst z; exact (nd.not_mem_erase) hx
        omega
      rw [List.length_erase_of_mem hn] at q
      omega
    · have q := nodup_small n l nd fun x hx => by
        have h1 := h x hx
        have h2 : x ≠ (n : Int) := fun z => by subst z; exact hn hx
        omega
      omega
theorem OkNet.ends {n : Int} {ps : List (Int × Int)} (o : OkNet n ps) (f : Int × Int → Bool) : (∀ x ∈ (ps.filter f).map (·.2), 0 ≤ x ∧ x < n) ∧ ∀ x ∈ (ps.filter f).map (·.1), 0 ≤ x ∧ x < n := by
  constructor
  · intro x hx
    obtain ⟨p, hp, rfl⟩ := List.mem_map.mp hx
    have := o.ok p (List.mem_filter.mp hp).1
    exact ⟨this.2.2.1, this.2.2.2⟩
  · intro x hx
    obtain ⟨p, hp, rfl⟩ := List.mem_map.mp hx
    have := o.ok p (List.mem_filter.mp hp).1
    exact ⟨this.1, this.2.1⟩
theorem ded_small {n : Int} (h0 : 1 ≤ n) (h1 : n ≤ 40) {l : List Int} (h : ∀ x ∈ l, 0 ≤ x ∧ x < n) : (SetIt.ded l).length < 64 := by
  have q := nodup_small n.toNat (SetIt.ded l) (SetIt.ded_nodup l) fun x hx => by
    have := h x ((SetIt.ded_mem l x).mp hx)
    omega
  omega
def But (x : Addr) (H H' : Hp) : Prop := ∀ b o, H b = some o → b ≠ x → H' b = some o
theorem But.pairs {x : Addr} {H H' : Hp} (e : But x H H') {o : HO} (hx : H x = some o) (no : ∀ ys, o ≠ .tup ys) {ps : List (Int × Int)} {xs : List V} (h : PairsV H ps xs) : PairsV H' ps xs := Paired.mapP h fun p v ⟨t, ev, q⟩ => ⟨t, ev, e _ _ q (ne_of q hx fun z => no _ z.symm)⟩
theorem But.seq {x : Addr} {H H' : Hp} (e : But x H H') {K : PySem.W.Frag} {a : Addr} {xs : List V} (n : a ≠ x) (h : SqL K H a xs) : SqL K H' a xs := by
  rcases h with (h | ⟨o, h⟩) | h
  · exact .inl (.inl (e _ _ h n))
  · exact .inl (.inr ⟨o, e _ _ h n⟩)
  · exact .inr h
theorem But.upd {x : Addr} {H : Hp} {o : HO} : But x H (upd H x o) := fun b u q n => by rw [upd_ne n]; exact q
theorem But.then {x : Addr} {H H1 H2 : Hp} (a : But x H H1) (b : But x H1 H2) : But x H H2 := fun c o q n => b c o (a c o q n) n
theorem Same.but {x : Addr} {H H1 : Hp} (a : Same H H1) : But x H H1 := fun c o q _ => a c o q
theorem pairs_snoc {H : Hp} {ps : List (Int × Int)} {xs : List V} {p : Int × Int} {v : V} (h : PairsV H ps xs) (q : PairV H p v) : PairsV H (ps ++ [p]) (xs ++ [v]) := Paired.snoc h q
theorem rows_snoc {H : Hp} {rs : List (List Int)} {xs : List V} {r : List Int} {v : V} (h : RowsV H rs xs) (q : RowV H r v) : RowsV H (rs ++ [r]) (xs ++ [v]) := Paired.snoc h q
def NewV (old : Hp) (xs : List V) : Prop := ∀ t, V.ref t ∈ xs → old t = none
theorem NewV.nil {old : Hp} : NewV old [] := fun t h => by simp at h
theorem NewV.snoc {old : Hp} {xs : List V} {t : Addr} (h : NewV old xs) (n : old t = none) : NewV old (xs ++ [.ref t]) := fun u hu => by
  rcases List.mem_append.mp hu with z | z
  · exact h u z
  · rw [List.mem_singleton] at z
    injection z with z
    rw [z]
    exact n
theorem pairs_put {old H : Hp} {ps : List (Int × Int)} {xs : List V} {h : Addr} {o u : HO} (q : PairsV H ps xs) (n : NewV old xs) (ho : old h = some u) : PairsV (upd H h o) ps xs := by
  induction q with
  | nil => exact .nil
  | cons f t ih =>
    obtain ⟨t', rfl, g⟩ := f
    refine .cons ⟨t', rfl, ?_⟩ (ih fun v hv => n v (List.mem_cons_of_mem _ hv))
    rw [upd_ne (fun z => by have := n t' List.mem_cons_self; rw [z, ho] at this; cases this)]
    exact g
theorem rows_put {old H : Hp} {rs : List (List Int)} {xs : List V} {h : Addr} {o u : HO} (q : RowsV H rs xs) (n : NewV old xs) (ho : old h = some u) : RowsV (upd H h o) rs xs := by
  induction q with
  | nil => exact .nil
  | cons f t ih =>
    obtain ⟨t', rfl, g⟩ := f
    refine .cons ⟨t', rfl, ?_⟩ (ih fun v hv => n v (List.mem_cons_of_mem _ hv))
    rw [upd_ne (fun z => by have := n t' List.mem_cons_self; rw [z, ho] at this; cases this)]
    exact g
theorem take_snoc {α : Type} {l : List α} {i : Nat} {x : α} (h : l[i]? = some x) : l.take (i + 1) = l.take i ++ [x] := by
  rw [List.take_add_one, h]
  rfl
end L3
end
section
namespace Mp
inductive Rch (ps : List (Int × Int)) (z : Int) : Int → Prop
  | start : z ≠ 0 → Rch ps z 0
  | step {a b : Int} : Rch ps z a → (a, b) ∈ ps → b ≠ z → Rch ps z b
noncomputable def rch (ps : List (Int × Int)) (z k : Int) : Bool := @decide (Rch ps z k) (Classical.propDecidable _)
theorem rch_iff {ps : List (Int × Int)} {z k : Int} : rch ps z k = true ↔ Rch ps z k := by unfold rch; exact @decide_eq_true_iff _ (Classical.propDecidable _)
theorem rch_not {ps : List (Int × Int)} {z k : Int} : rch ps z k = false ↔ ¬ Rch ps z k := by
  rw [← Bool.not_eq_true, rch_iff]
theorem Rch.ne {ps : List (Int × Int)} {z k : Int} (h : Rch ps z k) : k ≠ z := by
  cases h with
  | start h => exact fun e => h e.symm
  | step _ _ h => exact h
theorem Rch.closed {ps : List (Int × Int)} {z : Int} {S : Int → Prop} (h0 : z ≠ 0 → S 0) (hs : ∀ a b, S a → (a, b) ∈ ps → b ≠ z → S b) {k : Int} (h : Rch ps z k) : S k := by
  induction h with
  | start h => exact h0 h
  | step _ m n ih => exact hs _ _ ih m n
theorem Rch.lt {ps : List (Int × Int)} {z n : Int} (hn : 1 ≤ n) (ok : ∀ p ∈ ps, 0 ≤ p.2 ∧ p.2 < n) {k : Int} (h : Rch ps z k) : 0 ≤ k ∧ k < n := by
  cases h with
  | start _ => omega
  | step _ m _ => exact ok _ m
theorem Rch.mono {ps qs : List (Int × Int)} {z : Int} (hs : ∀ p ∈ ps, p ∈ qs) {k : Int} (h : Rch ps z k) : Rch qs z k := by
  induction h with
  | start h => exact .start h
  | step _ m n ih => exact .step ih (hs _ m) n
theorem Rch.any {ps : List (Int × Int)} {z y : Int} (hy : y < 0) (ok : ∀ p ∈ ps, 0 ≤ p.2) {k : Int} (h : Rch ps z k) : Rch ps y k := by
  induction h with
  | start h => exact .start (by omega)
  | step _ m n ih => exact .step ih m (by have := ok _ m; dsimp at this; omega)
/-- what holds of the row through the filling -/
structure Fill (n : Nat) (ps : List (Int × Int)) (z : Int) (met : List Bool) : Prop where
  len : met.length = n
  sound : ∀ k : Nat, met[k]? = some true → Rch ps z (k : Int)
  zero : z ≠ 0 → met[0]? = some true
def goesOn (met : List Bool) (z : Int) (p : Int × Int) : Prop := met[p.1.toNat]? = some true ∧ met[p.2.toNat]? = some false ∧ p.2 ≠ z
def fill0 (n : Nat) (z : Int) : List Bool := (List.range n).map fun k => decide (((k : Nat) : Int) = 0) && !decide (z = 0)
theorem Fill.first {n : Nat} (hn : 1 ≤ n) (ps : List (Int × Int)) (z : Int) : Fill n ps z (fill0 n z) := by
  refine ⟨by simp [fill0], fun k h => ?_, fun h => ?_⟩
  · unfold fill0 at h
    rw [List.getElem?_map] at h
    cases e : (List.range n)[k]? with
    | none => rw [e] at h; cases h
    | some x =>
      rw [e] at h
      have hx : k < n ∧ k = x := by
        have := List.getElem?_eq_some_iff.mp e
        obtain ⟨h1, h2⟩ := this
        rw [List.getElem_range] at h2
        exact ⟨by simpa using h1, h2⟩
      simp at h
      have h1 : ((k : Nat) : Int) = 0 := by have := h.1; have := hx.2; omega
      rw [h1]
      exact .start h.2
  · unfold fill0
    rw [List.getElem?_map, List.getElem?_range (by omega)]
    simp [h]
theorem Fill.put {n : Nat} {ps : List (Int × Int)} {z : Int} {met : List Bool} (f : Fill n ps z met) {p : Int × Int} (hp : p ∈ ps) (h0 : 0 ≤ p.1) (h1 : 0 ≤ p.2) (g : goesOn met z p) : Fill n ps z (met.set p.2.toNat true) := by
  refine ⟨by rw [List.length_set]; exact f.len, fun k h => ?_, fun h => ?_⟩
  · by_cases e : p.2.toNat = k
    · have : (k : Int) = p.2 := by omega
      rw [this]
      have r := f.sound _ g.1
      have e1 : ((p.1.toNat : Nat) : Int) = p.1 := by omega
      rw [e1] at r
      exact .step r hp g.2.2
    · rw [List.getElem?_set_ne e] at h
      exact f.sound k h
  · have := f.zero h
    by_cases e : p.2.toNat = 0
    · obtain ⟨_, g2, _⟩ := g
      rw [e, this] at g2
      cases g2
    · rw [List.getElem?_set_ne e]; exact this
theorem Fill.done {n : Nat} {ps : List (Int × Int)} {z : Int} {met : List Bool} (f : Fill n ps z met) (hn : 1 ≤ n) (ok : ∀ p ∈ ps, 0 ≤ p.1 ∧ p.1 < (n : Int) ∧ 0 ≤ p.2 ∧ p.2 < (n : Int)) (h : ∀ p ∈ ps, ¬ goesOn met z p) : met = (List.range n).map fun k => rch ps z ((k : Nat) : Int) := by
  have cl : ∀ k : Int, Rch ps z k → 0 ≤ k ∧ k < n ∧ met[k.toNat]? = some true := fun k hk => by
    refine Rch.closed (S := fun k => 0 ≤ k ∧ k < (n : Int) ∧ met[k.toNat]? = some true) (fun hz => ⟨Int.le_refl _, by omega, f.zero hz⟩) ?_ hk
    rintro a b ⟨a0, a1, ha⟩ m hb
    obtain ⟨o1, o2, o3, o4⟩ := ok _ m
    refine ⟨o3, o4, ?_⟩
    have hl : b.toNat < met.length := by rw [f.len]; dsimp at o4; omega
    have e : met[b.toNat]? = some met[b.toNat] := List.getElem?_eq_getElem hl
    cases q : met[b.toNat] with
    | true => rw [e, q]
    | false => exact absurd ⟨ha, by rw [e, q], hb⟩ (h _ m)
  refine List.ext_getElem? fun k => ?_
  by_cases hk : k < n
  · rw [List.getElem?_map, List.getElem?_range hk]
    have hl : k < met.length := by rw [f.len]; exact hk
    rw [List.getElem?_eq_getElem hl]
    show some met[k] = some (rch ps z (k : Int))
    congr 1
    cases q : met[k] with
    | true => exact (rch_iff.mpr (f.sound k (by rw [List.getElem?_eq_getElem hl, q]))).symm
    | false =>
      refine (rch_not.mpr fun r => ?_).symm
      have := (cl _ r).2.2
      rw [Int.toNat_natCast, List.getElem?_eq_getElem hl, q] at this
      cases this
  · rw [List.getElem?_eq_none (by rw [f.len]; omega), List.getElem?_eq_none (by simp; omega)]
def Walk (ps : List (Int × Int)) : List Int → Prop
  | [] => True
  | [_] => True
  | a :: b :: r => (a, b) ∈ ps ∧ Walk ps (b :: r)
structure IsWay (ps : List (Int × Int)) (l : List Int) (r : Int) : Prop where
  walk : Walk ps l
  head : l.head? = some 0
  last : l.getLast? = some r
theorem Walk.get {ps : List (Int × Int)} : ∀ {l : List Int}, Walk ps l → ∀ {i : Nat} {a b : Int}, l[i]? = some a → l[i + 1]? = some b → (a, b) ∈ ps
  | [], _, i, a, b, h, _ => by simp at h
  | [x], _, i, a, b, _, h => by simp at h
  | x :: y :: r, w, 0, a, b, h1, h2 => by
    simp at h1 h2
    rw [← h1, ← h2]
    exact w.1
  | x :: y :: r, w, i + 1, a, b, h1, h2 => Walk.get (l := y :: r) w.2 (i := i) (by simpa using h1) (by simpa using h2)
theorem Walk.rch {ps : List (Int × Int)} {z : Int} : ∀ {l : List Int}, Walk ps l → (∀ x ∈ l, x ≠ z) → (∀ a, l.head? = some a → Rch ps z a) → ∀ x ∈ l, Rch ps z x
  | [], _, _, _, x, h => by simp at h
  | [a], _, _, h0, x, h => by
    simp at h
    subst h
    exact h0 _ rfl
  | a :: b :: r, w, hz, h0, x, h => by
    have ra := h0 a rfl
    have rb : Rch ps z b := .step ra w.1 (hz b (by simp))
    rcases List.mem_cons.mp h with e | h
    · subst e; exact ra
    · exact Walk.rch (l := b :: r) w.2 (fun x hx => hz x (List.mem_cons_of_mem _ hx)) (fun c hc => by simp at hc; subst hc; exact rb) x h
theorem Walk.snoc {ps : List (Int × Int)} : ∀ {l : List Int} {a b : Int}, Walk ps l → l.getLast? = some a → (a, b) ∈ ps → Walk ps (l ++ [b])
  | [], a, b, _, h, _ => by simp at h
  | [x], a, b, _, h, m => by
    simp at h
    subst h
    exact ⟨m, True.intro⟩
  | x :: y :: r, a, b, w, h, m => ⟨w.1, Walk.snoc (l := y :: r) w.2 (by simpa using h) m⟩
theorem Rch.way {ps : List (Int × Int)} {z k : Int} (h : Rch ps z k) : ∃ l, IsWay ps l k ∧ ∀ x ∈ l, x ≠ z := by
  induction h with
  | start h => exact ⟨[0], ⟨True.intro, rfl, rfl⟩, fun x hx => by simp at hx; omega⟩
  | @step a b _ m n ih =>
    obtain ⟨l, w, hz⟩ := ih
    refine ⟨l ++ [b], ⟨Walk.snoc w.walk w.last m, ?_, by simp⟩, fun x hx => ?_⟩
    · cases l with
      | nil => have := w.head; simp at this
      | cons c r => have := w.head; simpa using this
    · rcases List.mem_append.mp hx with h | h
      · exact hz x h
      · simp at h; subst h; exact n
theorem IsWay.rch {ps : List (Int × Int)} {z k : Int} {l : List Int} (w : IsWay ps l k) (hz : ∀ x ∈ l, x ≠ z) : Rch ps z k := by
  have hk : k ∈ l := List.mem_of_getLast? w.last
  refine Walk.rch w.walk hz (fun a ha => ?_) k hk
  rw [w.head] at ha
  cases ha
  exact .start fun e => hz 0 (by have := w.head; cases l with | nil => simp at this | cons c r => simp at this; simp [this]) e.symm
abbrev Tr := List (Int × Option Int)
def ks (tr : Tr) : List Int := tr.map (·.1)
structure Tree (ps : List (Int × Int)) (z : Int) (tr : Tr) : Prop where
  nd : (ks tr).Nodup
  one : ∀ (i : Nat) (k : Int), tr[i]? = some (k, none) → k = 0
  two : ∀ (i : Nat) (k p : Int), tr[i]? = some (k, some p) → p ∈ ks (tr.take i) ∧ (p, k) ∈ ps ∧ k ≠ z
theorem Tree.first (ps : List (Int × Int)) (z : Int) : Tree ps z [(0, none)] := by
  refine ⟨by simp [ks], fun i k h => ?_, fun i k p h => ?_⟩
  · cases i with
    | zero => simp at h; omega
    | succ i => simp at h
  · cases i with
    | zero => simp at h
    | succ i => simp at h
theorem Tree.snoc {ps : List (Int × Int)} {z : Int} {tr : Tr} (t : Tree ps z tr) {k p : Int} (hk : k ∉ ks tr) (hp : p ∈ ks tr) (m : (p, k) ∈ ps) (hz : k ≠ z) : Tree ps z (tr ++ [(k, some p)]) := by
  refine ⟨?_, fun i j h => ?_, fun i j q h => ?_⟩
  · unfold ks at *
    rw [List.map_append, List.nodup_append]
    refine ⟨t.nd, by simp, fun a ha b hb => ?_⟩
    simp at hb
    subst hb
    exact fun e => hk (e ▸ ha)
  · by_cases hi : i < tr.length
    · rw [List.getElem?_append_left hi] at h
      exact t.one i j h
    · rw [List.getElem?_append_right (by omega)] at h
      cases e : i - tr.length with
      | zero => rw [e] at h; simp at h
      | succ n => rw [e] at h; simp at h
  · by_cases hi : i < tr.length
    · rw [List.getElem?_append_left hi] at h
      rw [List.take_append_of_le_length (by omega)]
      exact t.two i j q h
    · rw [List.getElem?_append_right (by omega)] at h
      cases e : i - tr.length with
      | zero =>
        rw [e] at h
        simp at h
        obtain ⟨h1, h2⟩ := h
        subst h1 h2
        have : i = tr.length := by omega
        rw [this, List.take_append_of_le_length (Nat.le_refl _), List.take_length]
        exact ⟨hp, m, hz⟩
      | succ n => rw [e] at h; simp at h
theorem ks_get {tr : Tr} {k : Int} (h : k ∈ ks tr) : ∃ (i : Nat) (p : Option Int), tr[i]? = some (k, p) := by
  unfold ks at h
  obtain ⟨⟨a, b⟩, m, e⟩ := List.mem_map.mp h
  obtain ⟨i, hi⟩ := List.mem_iff_getElem?.mp m
  exact ⟨i, b, by rw [hi]; simp at e; rw [e]⟩
theorem ks_take {tr : Tr} {i : Nat} {k : Int} (h : k ∈ ks (tr.take i)) : ∃ (j : Nat) (p : Option Int), j < i ∧ tr[j]? = some (k, p) := by
  obtain ⟨j, p, hj⟩ := ks_get h
  have hl : j < (tr.take i).length := by
    rcases Nat.lt_or_ge j (tr.take i).length with z | z
    · exact z
    · rw [List.getElem?_eq_none z] at hj; cases hj
  rw [List.length_take] at hl
  rw [List.getElem?_take_of_lt (by omega)] at hj
  exact ⟨j, p, by omega, hj⟩
theorem mem_ks {tr : Tr} {i : Nat} {k : Int} {p : Option Int} (h : tr[i]? = some (k, p)) : k ∈ ks tr := List.mem_map.mpr ⟨(k, p), List.mem_of_getElem? h, rfl⟩
theorem Tree.sound {ps : List (Int × Int)} {z : Int} {tr : Tr} (t : Tree ps z tr) (hz : z ≠ 0) : ∀ (n i : Nat) (k : Int) (p : Option Int), i ≤ n → tr[i]? = some (k, p) → Rch ps z k
  | 0, i, k, p, hi, h => by
    have e : i = 0 := by omega
    subst e
    cases p with
    | none => rw [t.one _ _ h]; exact .start hz
    | some q =>
      have := (t.two _ _ _ h).1
      simp [ks] at this
  | n + 1, i, k, p, hi, h => by
    cases p with
    | none => rw [t.one _ _ h]; exact .start hz
    | some q =>
      obtain ⟨h1, h2, h3⟩ := t.two _ _ _ h
      obtain ⟨j, r, hj, e⟩ := ks_take h1
      exact .step (Tree.sound t hz n j q r (by omega) e) h2 h3
theorem Tree.rch {ps : List (Int × Int)} {z : Int} {tr : Tr} (t : Tree ps z tr) (hz : z ≠ 0) {k : Int} (h : k ∈ ks tr) : Rch ps z k := by
  obtain ⟨i, p, e⟩ := ks_get h
  exact t.sound hz i i k p (Nat.le_refl _) e
/-- the rooms found are all that are reached -/
structure Found (ps : List (Int × Int)) (z : Int) (tr : Tr) : Prop where
  tree : Tree ps z tr
  all : ∀ k, k ∈ ks tr ↔ Rch ps z k
theorem Tree.found {ps : List (Int × Int)} {z : Int} {tr : Tr} (t : Tree ps z tr) (hz : z ≠ 0) (h0 : 0 ∈ ks tr) (cl : ∀ a b, a ∈ ks tr → (a, b) ∈ ps → b ≠ z → b ∈ ks tr) : Found ps z tr :=
  ⟨t, fun _ => ⟨t.rch hz, fun h => Rch.closed (S := fun k => k ∈ ks tr) (fun _ => h0) cl h⟩⟩
theorem found_none {ps : List (Int × Int)} : Found ps 0 [] := by
  refine ⟨⟨by simp [ks], fun i k h => by simp at h, fun i k p h => by simp at h⟩, fun k => ⟨fun h => by simp [ks] at h, fun h => ?_⟩⟩
  exact absurd (Rch.closed (S := fun _ => False) (fun h => (h rfl).elim) (fun _ _ h _ _ => h) h) id
/-- tracing back: what has been written down, behind the place -/
structure Back (ps : List (Int × Int)) (room : Int) (place : Option Int) (way : List Int) : Prop where
  walk : Walk ps (place.toList ++ way.reverse)
  last : (place.toList ++ way.reverse).getLast? = some room
theorem Back.first (ps : List (Int × Int)) (room : Int) : Back ps room (some room) [] := ⟨True.intro, rfl⟩
theorem Back.step {ps : List (Int × Int)} {z room p : Int} {q : Option Int} {way : List Int} (b : Back ps room (some p) way) (hq : ∀ r, q = some r → (r, p) ∈ ps) : Back ps room q (way ++ [p]) := by
  have e : q.toList ++ (way ++ [p]).reverse = q.toList ++ ((some p).toList ++ way.reverse) := by simp
  refine ⟨?_, ?_⟩
  · rw [e]
    cases q with
    | none => exact b.walk
    | some r => exact ⟨hq r rfl, b.walk⟩
  · rw [e]
    have h := b.last
    rw [List.getLast?_append, h]
    rfl
structure Bfs (ps : List (Int × Int)) (z : Int) (tr : Tr) (q : List Int) (r : Option Int) : Prop where
  tree : Tree ps z tr
  zero : 0 ∈ ks tr
  qk : ∀ k ∈ q, k ∈ ks tr
  cl : ∀ a ∈ ks tr, a ∈ q ∨ r = some a ∨ ∀ b, (a, b) ∈ ps → b ≠ z → b ∈ ks tr
theorem ks_snoc (tr : Tr) (k : Int) (p : Option Int) : ks (tr ++ [(k, p)]) = ks tr ++ [k] := by simp [ks]
theorem Bfs.first (ps : List (Int × Int)) (z : Int) : Bfs ps z [(0, none)] [0] none :=
  ⟨Tree.first ps z, by simp [ks], fun k h => by simp [ks] at *; exact h, fun a h => .inl (by simp [ks] at *; exact h)⟩
theorem Bfs.pop {ps : List (Int × Int)} {z r : Int} {tr : Tr} {q : List Int} (b : Bfs ps z tr (r :: q) none) : Bfs ps z tr q (some r) ∧ r ∈ ks tr := by
  refine ⟨⟨b.tree, b.zero, fun k h => b.qk k (List.mem_cons_of_mem _ h), fun a h => ?_⟩, b.qk r List.mem_cons_self⟩
  rcases b.cl a h with h | h | h
  · rcases List.mem_cons.mp h with e | h
    · exact .inr (.inl (by rw [e]))
    · exact .inl h
  · cases h
  · exact .inr (.inr h)
theorem Bfs.add {ps : List (Int × Int)} {z r k : Int} {tr : Tr} {q : List Int} (b : Bfs ps z tr q (some r)) (hr : r ∈ ks tr) (hk : k ∉ ks tr) (m : (r, k) ∈ ps) (hz : k ≠ z) : Bfs ps z (tr ++ [(k, some r)]) (q ++ [k]) (some r) := by
  refine ⟨b.tree.snoc hk hr m hz, ?_, fun j h => ?_, fun a h => ?_⟩
  · rw [ks_snoc]; exact List.mem_append_left _ b.zero
  · rw [ks_snoc]
    rcases List.mem_append.mp h with h | h
    · exact List.mem_append_left _ (b.qk j h)
    · exact List.mem_append_right _ h
  · rw [ks_snoc] at h ⊢
    rcases List.mem_append.mp h with h | h
    · rcases b.cl a h with h | h | h
      · exact .inl (List.mem_append_left _ h)
      · exact .inr (.inl h)
      · exact .inr (.inr fun c m n => List.mem_append_left _ (h c m n))
    · exact .inl (List.mem_append_right _ h)
theorem Bfs.close {ps : List (Int × Int)} {z r : Int} {tr : Tr} {q : List Int} (b : Bfs ps z tr q (some r)) (h : ∀ c, (r, c) ∈ ps → c ≠ z → c ∈ ks tr) : Bfs ps z tr q none := by
  refine ⟨b.tree, b.zero, b.qk, fun a ha => ?_⟩
  rcases b.cl a ha with h1 | h1 | h1
  · exact .inl h1
  · cases h1; exact .inr (.inr h)
  · exact .inr (.inr h1)
theorem Bfs.done {ps : List (Int × Int)} {z : Int} {tr : Tr} (b : Bfs ps z tr [] none) (hz : z ≠ 0) : Found ps z tr :=
  b.tree.found hz b.zero fun a c ha m n => by
    rcases b.cl a ha with h | h | h
    · simp at h
    · cases h
    · exact h c m n
end Mp
end
section
namespace L2
open PySem PySem.Spec PyProof.Rows
abbrev RC := List V → Hp → VK → Prop
abbrev rLenS (K : PySem.W.Frag) : RC := fun xs H Q => ∃ p ys, xs = [.ref p] ∧ (SqL K H p ys ∨ SqT K H p ys) ∧ Q (.int ys.length) H
abbrev rListOf (K : PySem.W.Frag) : RC := fun xs H Q => ∃ p ys, xs = [.ref p] ∧ (SqL K H p ys ∨ SqT K H p ys) ∧ ∀ l, H l = none → Q (.ref l) (upd H l (.lst ys))
abbrev rSetOf (w : World) (K : PySem.W.Frag) : RC := fun xs H Q => ∃ p ns, xs = [.ref p] ∧ SqL K H p (ns.map V.int) ∧ ns.length + 1 < scanBound ∧ ∀ l, H l = none → Q (.ref l) (upd H l (SetO w l (SetIt.ded ns)))
abbrev rSortedA (w : World) : RC := fun xs H Q => ∃ a l, xs = [.ref a] ∧ H a = some (SetO w a l) ∧ l.length < 64 ∧ ∀ p H', Same H H' → H p = none → H' p = some (.lst ((SetIt.srt l).map V.int)) → Q (.ref p) H'
abbrev rMax2 : RC := fun xs H Q => ∃ i j, xs = [.int i, .int j] ∧ Q (.int (if j > i then j else i)) H
abbrev tTru (K : PySem.W.Frag) (ta : TE) : TT := fun σ H Q => ta σ H fun x H' => ∃ k, TruV K x H' k ∧ Q k H'
abbrev rSortedD : RC := fun xs H Q => ∃ a kvs ns, xs = [.ref a] ∧ H a = some (.dK kvs) ∧ kvs.map (·.1) = ns.map (Sum.inl : Int → Key) ∧ ns.length < 64 ∧ ∀ p H', Same H H' → H p = none → H' p = some (.lst ((SetIt.srt ns).map V.int)) → Q (.ref p) H'
theorem keys_ints {P : Program} {w : World} : ∀ {kvs : List (Key × V)} {vs : List (Key × Value)} {ns : List Int} {acc : List Value}, KV kvs vs → kvs.map (·.1) = ns.map Sum.inl → acc.length = vs.length →
    (∀ (i : Nat) (v : Value), acc[i]? = some v → ∃ (k : Key) (x : Value), vs[i]? = some (k, x) ∧ (mixKind P w).is k v = true) → IntsAre acc ns
  | [], _, ns, acc, r, e, hl, h => by
    cases r
    cases ns with
    | nil =>
      cases acc with
      | nil => exact .nil
      | cons a b => simp at hl
    | cons a b => simp at e
  | (k, x) :: kr, _, ns, acc, r, e, hl, h => by
    cases r with
    | @cons _ q _ qs h1 h2 =>
      obtain ⟨hk, _⟩ := h1
      cases ns with
      | nil => simp at e
      | cons n nr =>
        simp at e
        cases acc with
        | nil => simp at hl
        | cons v ar =>
          obtain ⟨k', x', g, i⟩ := h 0 v rfl
          simp at g
          have ek : k' = Sum.inl n := by rw [g] at hk; dsimp at hk; rw [← hk]; exact e.1
          rw [ek] at i
          obtain ⟨t, hv⟩ := Value.isInt_shape (k := n) (v := v) i
          rw [hv]
          exact .cons n t (keys_ints (P := P) (w := w) h2 e.2 (by simpa using hl) fun j u hu => by simpa using h (j + 1) u (by simpa using hu))
theorem call_sortedD {X : Cx} (hc : X.calm = true) : CallR X (.builtin "sorted") rSortedD := by
  intro pins s σ H xs us Q I r h
  obtain ⟨a, kvs, ns, rfl, ha, hk, hb, q⟩ := h
  obtain ⟨u, rfl, ru⟩ := vals1 r
  cases ru
  obtain ⟨z, hd, vs, kv, dd⟩ := dk_of I.hok ha
  obtain ⟨o, es, ep, g1, g2⟩ := id dd
  have D : s.heap.DictAt (mixKind X.prog X.w) a vs ep := ⟨o, es, g1, g2⟩
  have el : kvs.length = ns.length := by have := congrArg List.length hk; simpa using this
  refine SetIt.sorted_of (PySem.W.kdu_collect (PySem.W.kdl_dict hd) (I.ok.hd hc) D (by rw [← kv.length]; exact z) fun h' tk acc kp it => ?_)
  have hi : IntsAre acc.toList ns := keys_ints (P := X.prog) (w := X.w) kv hk (by rw [Array.length_toList]; exact it.1) fun i v hv => it.2 i v (by simpa using hv)
  refine ⟨ns, hi, by rw [hi.length]; exact hb, fun out ns' e h'' ho hp' hs kp' g => ?_⟩
  have I1 : Inv X pins σ H { s with heap := h', toks := tk } := I.call (g' := s.gens) (ch := []) (Un.kept kp) (I.hok.kept kp) I.bare fun b z => absurd z (by simp)
  have e1 : ns' = SetIt.srt ns := SetIt.srt_of hp' hs
  subst e1
  exact ⟨.ref h'.objs.size, _, I1.laid (t' := tk) kp' (Nat.le_refl _) (show ObjOk X.prog X.w _ h'' _ (.lst _) from ⟨by rw [List.length_map, (SetIt.srt_perm ns).length_eq, sizeLine_eq]; omega, out, e, ints_vals ho, g⟩), rfl,
    q _ _ (Same.new (I1.hok.fresh (Nat.le_refl _))) (I1.hok.fresh (Nat.le_refl _)) upd_same⟩
end L2
namespace L3
open PySem PySem.Spec PyProof.Rows L2
def flds (n : Int) (pl on bk : Addr) : List (Str × V) := putF "backward" (.ref bk) (putF "onward" (.ref on) (putF "pairs" (.ref pl) (putF "size" (.int n) [])))
theorem flds_size (n : Int) (pl on bk : Addr) : (flds n pl on bk).lookup ("size" : Str) = some (.int n) := by
  unfold flds
  rw [lookup_putF, if_neg (by decide +kernel), lookup_putF, if_neg (by decide +kernel), lookup_putF, if_neg (by decide +kernel), lookup_putF, if_pos rfl]
theorem flds_pairs (n : Int) (pl on bk : Addr) : (flds n pl on bk).lookup ("pairs" : Str) = some (.ref pl) := by
  unfold flds
  rw [lookup_putF, if_neg (by decide +kernel), lookup_putF, if_neg (by decide +kernel), lookup_putF, if_pos rfl]
theorem flds_onward (n : Int) (pl on bk : Addr) : (flds n pl on bk).lookup ("onward" : Str) = some (.ref on) := by
  unfold flds
  rw [lookup_putF, if_neg (by decide +kernel), lookup_putF, if_pos rfl]
theorem flds_backward (n : Int) (pl on bk : Addr) : (flds n pl on bk).lookup ("backward" : Str) = some (.ref bk) := by
  unfold flds
  rw [lookup_putF, if_pos rfl]
theorem flds_no (n : Int) (pl on bk : Addr) {m : Str} (h1 : ¬ m = "backward") (h2 : ¬ m = "onward") (h3 : ¬ m = "pairs") (h4 : ¬ m = "size") : (flds n pl on bk).lookup m = none := by
  unfold flds
  rw [lookup_putF, if_neg h1, lookup_putF, if_neg h2, lookup_putF, if_neg h3, lookup_putF, if_neg h4]
  rfl
def rooms (n : Int) : List Int := (List.range n.toNat).map fun i => ((i : Nat) : Int)
/-- a net stands at x; all that it is made of is new beside the heap old -/
structure NetAt (C : Addr) (old H : Hp) (x : Addr) (n : Int) (ps : List (Int × Int)) : Prop where
  ob : ∃ dx pl on bk xs os bs, H x = some (.ins C dx (flds n pl on bk)) ∧ H pl = some (.lst xs) ∧ PairsV H ps xs ∧ H on = some (.lst os) ∧ RowsV H ((rooms n).map (ahead ps)) os ∧ H bk = some (.lst bs) ∧ RowsV H ((rooms n).map (behind ps)) bs ∧
    (old x = none ∧ old pl = none ∧ old on = none ∧ old bk = none) ∧ NewV old xs ∧ NewV old os ∧ NewV old bs
  ok : OkNet n ps
theorem NetAt.same {C : Addr} {old H H' : Hp} {x : Addr} {n : Int} {ps : List (Int × Int)} (h : NetAt C old H x n ps) (e : Same H H') : NetAt C old H' x n ps := by
  obtain ⟨⟨dx, pl, on, bk, xs, os, bs, h1, h2, h3, h4, h5, h6, h7, h8⟩, ok⟩ := h
  exact ⟨⟨dx, pl, on, bk, xs, os, bs, e _ _ h1, e _ _ h2, PairsV.same e h3, e _ _ h4, RowsV.same e h5, e _ _ h6, RowsV.same e h7, h8⟩, ok⟩
theorem NetAt.put {C : Addr} {old H : Hp} {x : Addr} {n : Int} {ps : List (Int × Int)} (h : NetAt C old H x n ps) {a : Addr} {o u : HO} (ha : old a = some u) : NetAt C old (upd H a o) x n ps := by
  obtain ⟨⟨dx, pl, on, bk, xs, os, bs, h1, h2, h3, h4, h5, h6, h7, ⟨m1, m2, m3, m4⟩, v1, v2, v3⟩, ok⟩ := h
  have ne : ∀ b, old b = none → b ≠ a := fun b hb z => by rw [z, ha] at hb; cases hb
  exact ⟨⟨dx, pl, on, bk, xs, os, bs, by rw [upd_ne (ne _ m1)]; exact h1, by rw [upd_ne (ne _ m2)]; exact h2, pairs_put h3 v1 ha, by rw [upd_ne (ne _ m3)]; exact h4, rows_put h5 v2 ha, by rw [upd_ne (ne _ m4)]; exact h6, rows_put h7 v3 ha, ⟨m1, m2, m3, m4⟩, v1, v2, v3⟩, ok⟩
theorem rooms_get {n : Int} {r : Int} (h0 : 0 ≤ r) (h1 : r < n) (f : Int → List Int) : ((rooms n).map f)[r.toNat]? = some (f r) := by
  unfold rooms
  rw [List.map_map, List.getElem?_map, List.getElem?_range (by omega)]
  show some (f ((r.toNat : Nat) : Int)) = some (f r)
  rw [Int.toNat_of_nonneg h0]
/-- what the top has made of the class, and of Python's own kinds -/
structure TG (K : PySem.W.Frag) (C : Addr) : Prop where
  cl : Cls K C
  n_size : NoAttr K C "size"
  n_pairs : NoAttr K C "pairs"
  n_onward : NoAttr K C "onward"
  n_backward : NoAttr K C "backward"
  k_int_int : PySem.W.kitOne K (.type "int") (.type "int") = some true
  k_int_bool : PySem.W.kitOne K (.type "int") (.type "bool") = some false
  k_bool_bool : PySem.W.kitOne K (.type "bool") (.type "bool") = some true
  k_list_list : PySem.W.kitOne K (.type "list") (.type "list") = some true
  k_tuple_tuple : PySem.W.kitOne K (.type "tuple") (.type "tuple") = some true
def cell (ns : List Int) (k : Nat) : Int := ns.getD k 0
def manyOf (ns : List Int) (at_ : Nat) (most : Int) : Int := 1 + cell ns at_ % most
def doorOf (ns : List Int) (at_ : Nat) (many : Int) (k : Nat) : Int × Int := (cell ns (at_ + 1 + k) % many, cell ns (at_ + 1 + k) / many % many)
def doorsOf (ns : List Int) (at_ : Nat) (most extra : Int) : List (Int × Int) := (List.range (cell ns at_ / most % (extra + 1)).toNat).map (doorOf ns at_ (manyOf ns at_ most))
theorem many_lo (ns : List Int) (at_ : Nat) {most : Int} (h : 0 < most) : 1 ≤ manyOf ns at_ most ∧ manyOf ns at_ most ≤ most := by
  unfold manyOf
  have := Int.emod_nonneg (cell ns at_) (by omega : most ≠ 0)
  have := Int.emod_lt_of_pos (cell ns at_) h
  omega
theorem drawn_ok (ns : List Int) (at_ : Nat) {most extra : Int} (h : 0 < most) (h1 : most ≤ 40) (h2 : 0 ≤ extra) (h3 : extra ≤ 100) : OkNet (manyOf ns at_ most) (doorsOf ns at_ most extra) := by
  have hm := many_lo ns at_ h
  refine ⟨hm.1, by omega, ?_, fun p hp => ?_⟩
  · unfold doorsOf
    rw [List.length_map, List.length_range]
    have := Int.emod_lt_of_pos (cell ns at_ / most) (by omega : (0 : Int) < extra + 1)
    omega
  · obtain ⟨k, _, rfl⟩ := List.mem_map.mp hp
    unfold doorOf
    have p0 : (0 : Int) < manyOf ns at_ most := by omega
    exact ⟨Int.emod_nonneg _ (by omega), Int.emod_lt_of_pos _ p0, Int.emod_nonneg _ (by omega), Int.emod_lt_of_pos _ p0⟩
theorem atI_int {α : Type} {xs : List α} {i : Int} {v : α} (h0 : 0 ≤ i) (h : xs[i.toNat]? = some v) : atI xs i = some v := by
  have e := atI_nat h
  rw [Int.toNat_of_nonneg h0] at e
  exact e
theorem ixN_int {n : Nat} {i : Int} (h0 : 0 ≤ i) (h1 : i < n) : ixN n i = some i.toNat := by
  unfold ixN
  rw [if_pos h0, if_pos h1]
theorem decV {a b : Int} : decide (V.int a = V.int b) = decide (a = b) := by
  rw [Bool.eq_iff_iff]
  simp
theorem map_get {α β : Type} {f : α → β} {l : List α} {i : Nat} {x : α} (h : l[i]? = some x) : (l.map f)[i]? = some (f x) := by rw [List.getElem?_map, h]; rfl
theorem deep_bls {K : PySem.W.Frag} {H : Hp} (bs : List Bool) : DeepAll K H (bs.map .bool) (bs.map V.bl) := deepAll_map (fun _ => deep_bl) bs
open Mp
def pv? : Option Int → V
  | none => .non
  | some i => .int i
def kvOf (tr : Tr) : List (Key × V) := tr.map fun p => (Sum.inl p.1, pv? p.2)
theorem kvOf_len (tr : Tr) : (kvOf tr).length = tr.length := by simp [kvOf]
theorem kvOf_keys (tr : Tr) : (kvOf tr).map (·.1) = (ks tr).map (Sum.inl : Int → Key) := by simp [kvOf, ks]
theorem valV_none {tr : Tr} {k : Int} (h : k ∉ ks tr) : valV (kvOf tr) (Sum.inl k) = none := by
  induction tr with
  | nil => rfl
  | cons p r ih =>
    have h1 : ¬ p.1 = k := fun e => h (by simp [ks, e])
    have h2 : k ∉ ks r := fun e => h (by simp [ks] at e ⊢; exact .inr e)
    show valV ((Sum.inl p.1, pv? p.2) :: kvOf r) (Sum.inl k) = none
    rw [valV_neg (fun e => h1 (Sum.inl.inj e))]
    exact ih h2
theorem valV_some {tr : Tr} {i : Nat} {k : Int} {p : Option Int} (nd : (ks tr).Nodup) (h : tr[i]? = some (k, p)) : valV (kvOf tr) (Sum.inl k) = some (pv? p) := by
  induction tr generalizing i with
  | nil => simp at h
  | cons q r ih =>
    have nd' : q.1 ∉ ks r ∧ (ks r).Nodup := by simpa [ks] using nd
    show valV ((Sum.inl q.1, pv? q.2) :: kvOf r) (Sum.inl k) = some (pv? p)
    cases i with
    | zero =>
      simp at h
      subst h
      exact valV_pos rfl
    | succ i =>
      have h' : r[i]? = some (k, p) := by simpa using h
      have hk : k ∈ ks r := mem_ks h'
      have h1 : ¬ q.1 = k := fun e => nd'.1 (e ▸ hk)
      rw [valV_neg (fun e => h1 (Sum.inl.inj e))]
      exact ih nd'.2 h'
theorem valV_iff {tr : Tr} {k : Int} (nd : (ks tr).Nodup) : (valV (kvOf tr) (Sum.inl k)).isSome = decide (k ∈ ks tr) := by
  by_cases h : k ∈ ks tr
  · obtain ⟨i, p, e⟩ := ks_get h
    rw [valV_some nd e, decide_eq_true h]
    rfl
  · rw [valV_none h, decide_eq_false h]
    rfl
theorem kvOf_put {tr : Tr} {k r : Int} (h : k ∉ ks tr) : putK (kvOf tr) (Sum.inl k) (.int r) = kvOf (tr ++ [(k, some r)]) := by
  rw [putK_new _ (valV_none h)]
  simp [kvOf, pv?]
theorem mem_ahead {ps : List (Int × Int)} {r b : Int} : b ∈ ahead ps r ↔ (r, b) ∈ ps := by
  unfold ahead
  rw [(SetIt.srt_perm _).mem_iff, SetIt.ded_mem, List.mem_map]
  constructor
  · rintro ⟨⟨x, y⟩, h, rfl⟩
    have h := List.mem_filter.mp h
    have e : x = r := of_decide_eq_true h.2
    rw [← e]
    exact h.1
  · intro h
    exact ⟨(r, b), List.mem_filter.mpr ⟨h, decide_eq_true rfl⟩, rfl⟩
theorem OkNet.lt {n : Int} {ps : List (Int × Int)} (o : OkNet n ps) {z k : Int} (h : Rch ps z k) : 0 ≤ k ∧ k < n := h.lt o.lo fun p hp => ⟨(o.ok p hp).2.2.1, (o.ok p hp).2.2.2⟩
theorem OkNet.tree {n : Int} {ps : List (Int × Int)} (o : OkNet n ps) {z : Int} (hz : z ≠ 0) {tr : Tr} (t : Tree ps z tr) : tr.length ≤ n.toNat := by
  have q := nodup_small n.toNat (ks tr) t.nd fun x hx => by
    have := o.lt (t.rch hz hx)
    have := o.lo
    omega
  simpa [ks] using q
theorem OkNet.found {n : Int} {ps : List (Int × Int)} (o : OkNet n ps) {z : Int} {tr : Tr} (t : Found ps z tr) : tr.length ≤ n.toNat := by
  have q := nodup_small n.toNat (ks tr) t.tree.nd fun x hx => by
    have := o.lt ((t.all x).mp hx)
    have := o.lo
    omega
  simpa [ks] using q
theorem NetAt.fld {C : Addr} {old H : Hp} {x : Addr} {n : Int} {ps : List (Int × Int)} (h : NetAt C old H x n ps) : ∃ dx pl on bk, H x = some (.ins C dx (flds n pl on bk)) := by
  obtain ⟨⟨dx, pl, on, bk, _, _, _, g, _⟩, _⟩ := h
  exact ⟨dx, pl, on, bk, g⟩
theorem NetAt.len_ahead {C : Addr} {old H : Hp} {x : Addr} {n : Int} {ps : List (Int × Int)} (h : NetAt C old H x n ps) (r : Int) : (ahead ps r).length < 64 := by
  unfold ahead
  rw [(SetIt.srt_perm _).length_eq]
  exact ded_small h.ok.lo h.ok.hi (h.ok.ends fun q => decide (q.1 = r)).1
noncomputable def reachedL (n : Int) (ps : List (Int × Int)) : List Int := (rooms n).filter (rch ps (-1))
theorem rooms_len (n : Int) : (rooms n).length = n.toNat := by simp [rooms]
theorem rooms_at {n r : Int} (h0 : 0 ≤ r) (h1 : r < n) : (rooms n)[r.toNat]? = some r := by
  unfold rooms
  rw [List.getElem?_map, List.getElem?_range (by omega)]
  show some ((r.toNat : Nat) : Int) = some r
  rw [Int.toNat_of_nonneg h0]
theorem mem_rooms {n k : Int} : k ∈ rooms n ↔ 0 ≤ k ∧ k < n := by
  unfold rooms
  rw [List.mem_map]
  constructor
  · rintro ⟨a, h, rfl⟩
    have := List.mem_range.mp h
    omega
  · rintro ⟨h0, h1⟩
    exact ⟨k.toNat, List.mem_range.mpr (by omega), by omega⟩
theorem rooms_sorted (n : Int) : (rooms n).Pairwise (· < ·) := by
  unfold rooms
  rw [List.pairwise_map]
  exact (List.pairwise_lt_range).imp fun h => by omega
theorem sorted_filter {l : List Int} {f : Int → Bool} (n : Int) (nd : l.Nodup) (h : ∀ k, k ∈ l ↔ 0 ≤ k ∧ k < n ∧ f k = true) : SetIt.srt l = (rooms n).filter f := by
  have s : ((rooms n).filter f).Pairwise (· < ·) := (rooms_sorted n).filter _
  have nd' : ((rooms n).filter f).Nodup := s.imp fun h => by omega
  refine (SetIt.srt_of ?_ (s.imp fun h => by omega)).symm
  refine (List.perm_ext_iff_of_nodup nd' nd).mpr fun k => ?_
  rw [List.mem_filter, mem_rooms, h k]
  exact ⟨fun h => ⟨h.1.1, h.1.2, h.2⟩, fun h => ⟨⟨h.1, h.2.1⟩, h.2.2⟩⟩
end L3
end
section
namespace L2
open PySem PySem.Spec PyProof.Rows
theorem ObjOk.there {P : Program} {w : World} {H : Hp} {h : Heap} {a : Addr} {o : HO} (x : ObjOk P w H h a o) : ∃ ob, h.get? a = some ob := by
  cases o with
  | lst xs => obtain ⟨_, _, _, _, e⟩ := x; exact ⟨_, e⟩
  | tup xs => obtain ⟨_, _, _, ob, e, _⟩ := x; exact ⟨_, e⟩
  | dK kvs => obtain ⟨_, _, _, _, o, _, _, e, _⟩ := x; exact ⟨_, e⟩
  | dT kvs => obtain ⟨_, _, _, _, o, _, _, e, _⟩ := x; exact ⟨_, e⟩
  | set S n => obtain ⟨o, _, _, _, e, _⟩ := x; exact ⟨_, e⟩
  | ins C dx fs => obtain ⟨_, _, _, e, _⟩ := x; exact ⟨_, e⟩
  | own y => exact x
  | xd fs => obtain ⟨_, ⟨_, _, _, e, _⟩, _⟩ := x; exact ⟨_, e⟩
  | rng lo hi => obtain ⟨_, _, _, e⟩ := x; exact ⟨_, e⟩
  | frz ob u => obtain ⟨e, _⟩ := x; exact ⟨_, e⟩
  | tbl ps => exact ⟨_, (show h.get? a = some _ from x)⟩
  | met f y => exact ⟨_, (show h.get? a = some _ from x)⟩
  | ext φ => exact x.2.1
/-- an exception of the class cls lies at ea, out of a call that began at (H, s); the frames l still run. B: all else as it stands -/
structure Fly (P : Program) (w : World) (base : Heap) (l : List Env) (H : Hp) (s : Shared) (ea : Addr) (cls : Value) (H' : Hp) (s' : Shared) : Prop where
  os : s'.os = s.os
  bare : AllBare s'.gens
  un : Un (frs l) [] H H' s.heap s'.heap
  hok : HOk P w H' s'.heap
  fly : ∃ B a0, Heap.FlyingW B l ea cls a0 s'.heap ∧ base.StaysIn B ∧ ∀ b o, s'.heap.get? b = some o → (H' b ≠ none ∨ (s.heap.get? b).isSome = true) → b ∉ frs l → B.get? b = some o
  ne : H' ea = none
  nes : s.heap.get? ea = none
def CX1 (P : Program) (w : World) (base : Heap) : CXT := fun l H s E e s' => ∃ ea cls H', e = .ref ea ∧ Fly P w base l H s ea cls H' s' ∧ E cls none H'
/-- a body that is a def's own -/
structure Own (X : Cx) : Prop where
  stk : X.stack = X.env :: X.outer
  frm : X.env.frame = some X.env.locals
  ex : X.ex = []
section
variable {X : Cx} {pins : List (Addr × Obj)} {σ : St} {H1 H' : Hp} {s1 s' : Shared} {ea : Addr} {cls : Value}
theorem Fly.inv (F : Fly X.prog X.w X.base X.stack H1 s1 ea cls H' s') (I : Inv X pins σ H1 s1) : Inv X pins σ H' s' := I.call' (ch := []) F.os F.un F.hok F.bare fun b z => absurd z (by simp)
theorem mem_fs (O : Own X) {b : Addr} : b ∈ frs X.stack ↔ b = X.env.locals ∨ b ∈ X.fs := by
  rw [O.stk]
  unfold Cx.fs frs
  rw [List.filterMap_cons, O.frm]
  exact List.mem_cons
theorem Inv.down (O : Own X) (I' : Inv X pins σ H' s') {h' : Heap} (keep : ∀ b o, s'.heap.get? b = some o → (H' b ≠ none ∨ (X.s₀.heap.get? b).isSome = true) → b ∉ X.fs → h'.get? b = some o) (ups : s'.heap.UpToSlots h') :
    Un X.fs [] X.H₀ H' X.s₀.heap h' ∧ HOk X.prog X.w H' h' := by
  have some_of : ∀ {b : Addr} {o : Obj}, X.s₀.heap.get? b = some o → (X.s₀.heap.get? b).isSome = true := fun e => by rw [e]; rfl
  have bs : Un X.fs [] X.H₀ H' X.s₀.heap s'.heap := O.ex ▸ I'.base
  have slot : ∀ b o, X.s₀.heap.get? b = some o → X.H₀ b = none → b ∈ X.fs → b ∉ ([] : List Addr) → ∃ sl, h'.get? b = some { o with slots := sl } := fun b o q n hb hx => by
    obtain ⟨sl, e⟩ := bs.slot b o q n hb hx
    obtain ⟨_, o', ho', hd⟩ := I'.ok.funs.mem hb
    rw [q] at ho'
    cases ho'
    obtain ⟨sl', e'⟩ := ups b _ e hd
    exact ⟨sl', e'⟩
  refine ⟨⟨fun b o q n hb hx => keep b o (bs.keep b o q n hb hx) (.inr (some_of q)) hb, slot, bs.free, fun b o q hx => ?_, bs.tups, bs.frzs, bs.tbls⟩, fun b u e => ?_⟩
  · by_cases hb : b ∈ X.fs
    · obtain ⟨sl, e⟩ := slot b o q (I'.ok.frf b hb) hb hx
      exact ⟨_, e⟩
    · obtain ⟨o', e⟩ := bs.there b o q hx
      exact ⟨o', keep b o' e (.inr (some_of q)) hb⟩
  · have tr : ∀ c, H' c ≠ none → c ∉ X.fs := fun c hc hb => hc (I'.stkFree c ((mem_fs O).mpr (.inr hb)))
    refine (I'.hok b u e).stay (fun c v hc q => ?_) (fun _ q => q) fun _ _ q => q
    have hc' : H' c ≠ none := by
      rcases hc with rfl | hc
      · rw [e]; exact fun z => by cases z
      · rw [hc]; exact fun z => by cases z
    exact keep c v q (.inl hc') (tr c hc')
theorem Inv.nl (I' : Inv X pins σ H' s') : H' X.env.locals = none ∧ X.s₀.heap.get? X.env.locals = none := by
  refine ⟨I'.free, ?_⟩
  cases q : X.s₀.heap.get? X.env.locals with
  | none => rfl
  | some o => exact absurd (Nat.lt_of_lt_of_le (Heap.lt_size q) I'.ok.above) (Nat.lt_irrefl _)
theorem Inv.nfs (O : Own X) (I' : Inv X pins σ H' s') {b : Addr} (hh : H' b ≠ none ∨ (X.s₀.heap.get? b).isSome = true) (hb : b ∉ X.fs) : b ∉ frs X.stack := fun z => by
  rcases (mem_fs O).mp z with z | z
  · rw [z] at hh
    rcases hh with h | h
    · exact h I'.nl.1
    · rw [I'.nl.2] at h; cases h
  · exact hb z
theorem Inv.old (O : Own X) (I : Inv X pins σ H1 s1) {b : Addr} (h : (X.s₀.heap.get? b).isSome = true) : (s1.heap.get? b).isSome = true := by
  obtain ⟨o, e⟩ := Option.isSome_iff_exists.mp h
  obtain ⟨o', e'⟩ := I.base.there b o e (by rw [O.ex]; simp)
  rw [e']; rfl
theorem fly_leaves {E : Value → Shared → Prop} (O : Own X) (I : Inv X pins σ H1 s1) (F : Fly X.prog X.w X.base X.stack H1 s1 ea cls H' s') :
    wpAny (model X.prog X.w) X.A (leaving X.env (.ref ea)) (fun _ s'' => Fly X.prog X.w X.base X.outer X.H₀ X.s₀ ea cls H' s'') E s' := by
  obtain ⟨B, a0, hfl, hB, hin⟩ := F.fly
  have I' := F.inv I
  refine wpAny_leaves_onW (outer := X.outer) (by rw [← O.stk]; exact I.ok.frames) O.frm (O.stk ▸ hfl) fun h' x1 x2 => ?_
  have inB : ∀ b o, s'.heap.get? b = some o → (H' b ≠ none ∨ (X.s₀.heap.get? b).isSome = true) → b ∉ X.fs → B.get? b = some o := fun b o e hh hb =>
    hin b o e (hh.imp id fun h => I.old O h) (I'.nfs O hh hb)
  obtain ⟨d1, d2⟩ := I'.down O (fun b o e hh hb => x1.1 b o (inB b o e hh hb)) x2
  refine ⟨F.os.trans I.os, F.bare, d1, d2, ⟨B, a0, x1, hB, fun b o e hh hb => ?_⟩, F.ne, ?_⟩
  · have th : ∃ o1, s'.heap.get? b = some o1 := by
      rcases hh with h | h
      · cases q : H' b with
        | none => exact (h q).elim
        | some u => exact (I'.hok b u q).there
      · exact Option.isSome_iff_exists.mp (I'.old O h)
    obtain ⟨o1, e1⟩ := th
    have e2 := inB b o1 e1 hh hb
    have e3 := x1.1 b o1 e2
    rw [e] at e3
    cases e3
    exact e2
  · cases q : X.s₀.heap.get? ea with
    | none => rfl
    | some o =>
      have := I.old O (by rw [q]; rfl : (X.s₀.heap.get? ea).isSome = true)
      rw [F.nes] at this
      cases this
theorem made_leaves {E : Value → Shared → Prop} {vs : List Value} {h1 : Heap} (O : Own X) (I : Inv X pins σ H1 s1) (hx : Heap.MadeExcOf s1.heap h1 ea cls vs) :
    wpAny (model X.prog X.w) X.A (leaving X.env (.ref ea)) (fun _ s'' => Fly X.prog X.w X.base X.outer X.H₀ X.s₀ ea cls H1 s'') E { s1 with heap := h1 } := by
  have hin : ∀ env ∈ (X.env :: X.outer), ∀ b, env.frame = some b → b ∈ frs X.stack := fun env he b hb => by rw [O.stk]; exact List.mem_filterMap.mpr ⟨env, he, hb⟩
  have fr : s1.heap.FunFrames X.base (X.env :: X.outer) := O.stk ▸ I.stack
  refine wpAny_leaves_madeW (base := PySem.W.hideAll s1.heap (frs X.stack)) (outer := X.outer) (by rw [← O.stk]; exact I.ok.frames) O.frm (fun b o q => PySem.W.of_hideAll _ q) (PySem.W.funFrames_hide fr hin) hx fun h' t x1 x2 x3 x4 => ?_
  have inB : ∀ b o, s1.heap.get? b = some o → (H1 b ≠ none ∨ (X.s₀.heap.get? b).isSome = true) → b ∉ X.fs → (PySem.W.hideAll s1.heap (frs X.stack)).get? b = some o := fun b o e hh hb => PySem.W.hideAll_get _ e (I.nfs O hh hb)
  obtain ⟨d1, d2⟩ := I.down O (fun b o e hh hb => x1.1 b o (inB b o e hh hb)) ((Heap.UpToSlots.of_keeps hx.keeps).trans x4)
  have nb : X.base.StaysIn (PySem.W.hideAll s1.heap (frs X.stack)) := fun b o q => PySem.W.hideAll_get _ (I.bk b o q) fun hm => by
    rw [(I.stack.mem hm).1] at q
    cases q
  refine ⟨I.os, I.bare, d1, d2, ⟨_, _, x1, nb, fun b o e hh hb => ?_⟩, ?_, ?_⟩
  · have th : ∃ o1, s1.heap.get? b = some o1 := by
      rcases hh with h | h
      · cases q : H1 b with
        | none => exact (h q).elim
        | some u => exact (I.hok b u q).there
      · exact Option.isSome_iff_exists.mp (I.old O h)
    obtain ⟨o1, e1⟩ := th
    have e2 := inB b o1 e1 hh hb
    have e3 := x1.1 b o1 e2
    rw [e] at e3
    cases e3
    exact e2
  · cases q : H1 ea with
    | none => rfl
    | some u =>
      obtain ⟨o, e⟩ := (I.hok ea u q).there
      rw [hx.new] at e
      cases e
  · cases q : X.s₀.heap.get? ea with
    | none => rfl
    | some o =>
      have := I.old O (by rw [q]; rfl : (X.s₀.heap.get? ea).isSome = true)
      rw [hx.new] at this
      cases this
end
theorem own_cx {CX : CXT} {P : Program} {w : World} {K : PySem.W.Frag} {mg : Str → Option Value} {base : Heap} {N : List Str} {qual : Str} {scope : Scope} {f : Addr} {cd : Value} {A : Around} {outer : List Env} {s : Shared} {H : Hp} {E : XK} :
    Own (cxOf CX P w K mg base N qual scope f cd A outer s H E) := ⟨rfl, rfl, rfl⟩
theorem pass1 {P : Program} {w : World} {K : PySem.W.Frag} {mg : Str → Option Value} {base : Heap} {N : List Str} {qual : Str} {scope : Scope} {f : Addr} {cd : Value} {A : Around} {outer : List Env} {s : Shared} {H : Hp} {E : XK} :
    Passes (CX1 P w base) (cxOf (CX1 P w base) P w K mg base N qual scope f cd A outer s H E) E := fun pins σ H1 s1 e s' I h => by
  obtain ⟨ea, cls, H', rfl, F, q⟩ := h
  exact wpAny_mono (fly_leaves own_cx I F) (fun _ s'' F' => ⟨ea, cls, H', rfl, F', q⟩) fun _ _ z => z
/-- what is known of an own error class -/
structure ExcCls (K : PySem.W.Frag) (mg : Str → Option Value) (x : Str) (C : Addr) : Prop where
  mg : mg x = some (.ref C)
  ok : ∃ bmB, PySem.W.excIn K C bmB "ValueError.__new__" = true ∧ ExcBaseFacts "ValueError" "ValueError.__new__" "ValueError.__init__" bmB
end L2
end
section
namespace L2
open PySem PySem.Spec PyProof.Rows
section
variable {prog : Program} {w : World} {A : Around} {E : Value → Shared → Prop} {s : Shared} {K : PySem.W.Frag} {x D : Addr} {ox : Obj}
/-- what is asked of an own error class for isinstance -/
structure ExcKit (K : PySem.W.Frag) (D : Addr) : Prop where
  ga : PySem.W.findIn K (.ref D) "__getattribute__" = some (some (.builtin "BaseException.__getattribute__"))
  gh : PySem.W.findIn K (.ref D) "__getattr__" = some none
  fa : PySem.W.findIn K (.ref D) "__class__" = some (some (.builtin "object.__class__"))
  fs : PySem.W.specialIn K (.builtin "object.__class__") "__get__" = some (some (.builtin "getset_descriptor.__get__"))
  ft : PySem.W.takesIn K (.builtin "object.__class__") = some true
  mo : PySem.W.mroIn K D (.type "object") = some true
  mb : PySem.W.mroIn K D (.type "BaseException") = some true
def ExcAt (h : Heap) (x D : Addr) : Prop := ∃ ox : Obj, h.get? x = some ox ∧ ox.cls = .ref D
theorem ExcAt.ty {M : Model} {h : Heap} (I : ExcAt h x D) : PySem.W.Looks M h (typeOf (.ref x)) (.ref D) := by
  obtain ⟨ox, g, c⟩ := I
  have z := (PySem.W.Looks.ld (M := M) (part := none) g).andThen (f := fun o => pure o.cls) PySem.W.Looks.now
  rw [c] at z
  exact z
theorem exc_find {M : Model} {h : Heap} (X : K.In h) (k : ExcKit K D) : PySem.W.Looks M h (Builtin.ObjectAttr.find (.ref x) (.ref D) "__class__") (.bind (.builtin "getset_descriptor.__get__") (.builtin "object.__class__")) := by
  have l1 := PySem.W.looks_findIn (M := M) X k.fa
  have l2 := PySem.W.looks_specialIn (M := M) X k.fs
  have l3 := PySem.W.looks_takesIn (M := M) X k.ft
  refine l1.andThen (l2.andThen ?_)
  refine PySem.W.Looks.andThen (a := some (Value.builtin "getset_descriptor.__get__", Value.builtin "object.__class__")) ?_ ?_
  · refine l3.andThen ?_
    exact PySem.W.Looks.now
  · exact PySem.W.Looks.tag PySem.W.Looks.now
open Builtin Builtin.ObjectAttr Builtin.Getset_descriptor in
theorem exc_get {R : Result → Shared → Prop} {tp : Value} (X : K.In s.heap) (I : ExcAt s.heap x D) (k : ExcKit K D) (h : R (.ok (.ret (.ref D))) s) :
    codeAny (model prog w) A (.call (.builtin "getset_descriptor.__get__") ⟨[.builtin "object.__class__", .ref x, tp], []⟩) R s := by
  obtain ⟨hh, g, d, t, os⟩ := s
  have la := I.ty (M := model prog w)
  have lb := PySem.W.looks_mroIn (M := model prog w) X k.mo
  refine codeAny_call_builtin PySem.W.KF.slot_gs.plain PySem.W.KF.entry_gs ?_
  refine PySem.W.KF.slot_gs.check _ _ _ _ _ _ _ _ PySem.W.KF.type_class (PySem.W.KF.args_gs _ _ _) ?_
  unfold Builtin.«getset_descriptor.__get__» descrGet
  rw [PySem.W.dga_obj]
  refine wpAny_bind ?_
  refine wpAny_pure ?_
  unfold descrGetter descrCheckInstance descrNameAndClass isInstance
  simp only [PySem.W.KF.owner_class]
  repeat lk
  refine ⟨Code.quiet_builtin _ (by decide +kernel), ?_⟩
  refine codeAny_builtin PySem.W.KF.entry_class ?_
  unfold Builtin.«object.__class__» shownTypeOf
  repeat lk
  exact h
theorem exc_class {Q : Option Value → Shared → Prop} (X : K.In s.heap) (I : ExcAt s.heap x D) (k : ExcKit K D) (h : Q (some (.ref D)) { s with toks := s.toks + 1 }) : wpAny (model prog w) A (getAttr? (.ref x) "__class__") Q E s := by
  obtain ⟨hh, g, d, t, os⟩ := s
  have L0 := I.ty (M := model prog w)
  have L1 := PySem.W.looks_findIn (M := model prog w) X k.ga
  have L2 := PySem.W.looks_findIn (M := model prog w) X k.gh
  have L3 := exc_find (x := x) (M := model prog w) X k
  have L4 := PySem.W.looks_mroIn (M := model prog w) X k.mb
  unfold getAttr? getAttrBy? getAttrBy
  refine wpAny_bind (wpAny_mkText (wpAny_bind (wpAny_attempt (wpAny_holding (wpAny_bind (L0.at (wpAny_bind (L1.at ?_))))))))
  have hne : (onTheHeap (Value.ref D) && Value.builtin "BaseException.__getattribute__" == Value.builtin "object.__getattribute__") = false := by
    rw [show (Value.builtin "BaseException.__getattribute__" == Value.builtin "object.__getattribute__") = false by decide +kernel]
    exact Bool.and_false _
  dsimp only
  rw [hne, if_neg Bool.false_ne_true]
  unfold getAttrByItsOwn hookBefore
  refine wpAny_bind ?_
  rw [show onTheHeap (Value.ref D) = true from rfl, if_pos rfl]
  refine L2.at ?_
  refine wpAny_bind (wpAny_attempt (wpAny_holding ?_))
  unfold callGetattribute
  rw [Bool.false_and, if_neg Bool.false_ne_true]
  unfold boundAndCalled
  rw [PySem.F.attr_ValueError.ga.bind (.ref x)]
  refine wpAny_bind (wpAny_pure ?_)
  refine wpAny_call ?_
  show codeAny _ _ (.call (.builtin "BaseException.__getattribute__") ⟨[.ref x, .str "__class__" t], []⟩) _ _
  have hpl : plainId "BaseException.__getattribute__" = true := PySem.F.attr_ValueError.ga.plain
  have hen := PySem.F.entry_bexc_ga
  refine codeAny_call_builtin hpl hen ?_
  have hk : builtinKind "BaseException.__getattribute__" = some .slot := by decide +kernel
  have hs : splitId "BaseException.__getattribute__" = some ("BaseException", "__getattribute__") := by decide +kernel
  have ha := PySem.F.args_bexc_ga (.ref x) (.str "__class__" t)
  have hi : PySem.W.Looks (model prog w) hh (isInstance (.ref x) (.type "BaseException")) true := L0.andThen L4
  have st := fun (R : Unit → Shared → Prop) (F : Value → Shared → Prop) (q : R () ⟨hh, g, d, t + 1, os⟩) => PySem.W.check_slot (M := model prog w) (A := A.in1) (E := F) (s := ⟨hh, g, d, t + 1, os⟩) (i := "BaseException.__getattribute__") (owner := "BaseException") (n := "__getattribute__") (self := .ref x) (rest := [.str "__class__" t]) (kw := []) (Q := R) hk hs hi ha q
  refine st _ _ ?_
  refine wpAny_bind (wpAny_pure ?_)
  refine wpAny_bind (wpAny_pure ?_)
  refine wpAny_bind (L0.at ?_)
  refine wpAny_bind (L3.at ?_)
  dsimp only
  refine wpAny_bind (wpAny_holding (wpAny_call (exc_get (s := ⟨hh, g, d, t + 1, os⟩) X I k ?_)))
  refine wpAny_pure ?_
  refine PySem.W.handed_on rfl ?_
  exact wpAny_pure h
theorem ExcKit.obj {K : PySem.W.Frag} {D : Addr} (k : ExcKit K D) : ∃ c d cd sl, K.lookup D = some ⟨c, d, .cls cd, sl⟩ := by
  have e := k.mo
  unfold PySem.W.mroIn at e
  obtain ⟨cd, e1, _⟩ := Option.bind_eq_some_iff.mp e
  unfold PySem.W.clsIn at e1
  cases q : K.lookup D with
  | none => rw [q] at e1; cases e1
  | some o =>
    obtain ⟨c, d, dt, sl⟩ := o
    cases dt with
    | cls z => exact ⟨_, _, _, _, rfl⟩
    | _ => rw [q] at e1; cases e1
theorem kitx_exc {K : PySem.W.Frag} {x D : Addr} (k : ExcKit K D) : PySem.W.KitX K (.ref x) (.ref D) (fun h => ExcAt h x D) where
  ty := fun _ _ _ I => I.ty
  it := fun _ _ Y _ => by
    obtain ⟨c, d, cd, sl, ho⟩ := k.obj
    intro A1 Q1 E1 s1 kp q1
    unfold isType loadHead
    refine wpAny_bind ?_
    refine wpAny_loadPart (kp _ _ (Y _ _ ho)) ?_
    exact wpAny_pure q1
  ne := fun h tp dd its n sl Y ht => by
    obtain ⟨c, d, cd, sl', ho⟩ := k.obj
    by_cases e : D = tp
    · subst e
      have z := Y _ _ ho
      rw [ht] at z
      cases z
    · exact beq_eq_false_iff_ne.mpr fun z => e (by cases z; rfl)
  ca := fun Y I q => exc_class Y I k q
abbrev ExcO (a D : Addr) : HO := .ext fun h => ExcAt h a D
theorem excO_ok {P : Program} {w : World} {H : Hp} {h : Heap} {a D : Addr} (e : ExcAt h a D) : ObjOk P w H h a (ExcO a D) := by
  refine ⟨e, ?_, fun h1 h2 q kp => ?_⟩
  · obtain ⟨ox, g, _⟩ := e
    exact ⟨ox, g⟩
  · obtain ⟨ox, g, c⟩ := q
    exact ⟨ox, kp _ g, c⟩
section
variable {X : Cx}
abbrev rIsx (K : PySem.W.Frag) : RC := fun xs H Q => ∃ a D c b, xs = [.ref a, c] ∧ H a = some (ExcO a D) ∧ ExcKit K D ∧ ((∃ C, c = .ref C ∧ PySem.W.kitOne K (.ref D) (.ref C) = some b) ∨ ∃ T, c = .ty T ∧ PySem.W.kitOne K (.ref D) (.type T) = some b) ∧ Q (.bl b) H
theorem call_isx : CallR X (.builtin "isinstance") (rIsx X.K) := by
  intro pins s σ H xs us Q I r h
  obtain ⟨a, D, c, b, rfl, ha, k, hc, q⟩ := h
  obtain ⟨u, u', rfl, rx, ru⟩ := vals2 r
  cases rx
  have o := (I.hok a _ ha).1
  rcases hc with ⟨C, rfl, e⟩ | ⟨T, rfl, e⟩
  · cases ru
    exact PySem.W.kia_one (kitx_exc k) I.kIn o e (fun z => nomatch z) fun tk => ⟨.bl b, H, I.tok tk, rfl, q⟩
  · cases ru
    exact PySem.W.kia_one (kitx_exc k) I.kIn o e (fun z => nomatch z) fun tk => ⟨.bl b, H, I.tok tk, rfl, q⟩
end
end
end L2
end
section
namespace L2
open PySem PySem.Spec PyProof.Rows
def IsExc (h : Heap) (C : Addr) (newId : String) (bmB : List Value) : Prop :=
  ∃ bm N nm qn bs hdct sn sub ab col dd k0 k1 k2 k3 k5 mN, h.get? C = some (excClassObj nm qn C N bs bm hdct sn sub ab col dd k0 k1 k2 k3 k5 newId) ∧ h.Ns N mN ∧ mN "__init__" = none ∧ OwnTail h bmB bm
theorem exc_obj {K : PySem.W.Frag} {h : Heap} {C : Addr} {bmB : List Value} {newId : String} (Y : K.In h) (q : PySem.W.excIn K C bmB newId = true) : IsExc h C newId bmB := by
  unfold PySem.W.excIn at q
  split at q
  · rename_i od z zs zo
    split at q
    · rename_i D tl a0 a1 a2 a3 i a5 zm zl
      rw [Bool.and_eq_true, Bool.and_eq_true, Bool.and_eq_true, Bool.and_eq_true, Bool.and_eq_true] at q
      obtain ⟨⟨⟨⟨⟨q1, q2⟩, q3⟩, q4⟩, q5⟩, q6⟩ := q
      have p1 := beq_iff_eq.mp q1
      have p2 := beq_iff_eq.mp q2
      have p6 := beq_iff_eq.mp q6
      obtain ⟨zn, zb, zr, zN, zq, zh, zsn, zsu, za, zc, zd⟩ := z
      dsimp only at zm q3 q5 p6
      subst p1 p2 zm
      have q3 : zd = false := by simpa using q3
      subst q3
      have q7 : zs = #[a0, a1, a2, a3, some (.builtin i), a5] := by
        apply Array.ext'
        exact zl
      subst q7
      exact ⟨tl, zN, zn, zq, zb, zh, zsn, zsu, za, zc, od, a0, a1, a2, a3, a5, _, Y _ _ zo, .of_isNs (PySem.W.isNs_of_in Y q5), PySem.W.nsMap_none_of_in Y q5 p6, PySem.W.tail_of_in Y q4⟩
    · cases q
  · cases q
theorem IsExc.keeps {h h' : Heap} {C : Addr} {bmB : List Value} {newId : String} (e : IsExc h C newId bmB) (k : ∀ b o, h.get? b = some o → h'.get? b = some o) : True := trivial
abbrev bmV : List Value := [.type "ValueError", .type "Exception", .type "BaseException", .type "object"]
/-- an own error class of the text -/
structure XCls (K : PySem.W.Frag) (mg : Str → Option Value) (x : Str) (C : Addr) : Prop where
  mg : mg x = some (.ref C)
  ex : PySem.W.excIn K C bmV "ValueError.__new__" = true
  kit : ExcKit K C
section
variable {P : Program} {w : World} {K : PySem.W.Frag} {mg : Str → Option Value} {base : Heap} {N : List Str} {qual : Str} {scope : Scope} {f : Addr} {cd : Value} {A : Around} {outer : List Env} {s : Shared} {H : Hp} {E : XK} {x : Str} {C : Addr}
  {e : Expr} {es : List Expr} {t : TA} {np cpos pos : Pos}
def tRaise (C : Addr) (E : XK) (t : TA) : TS := fun _ σ H => t σ H fun vs H1 => vs.length ≤ sizeLine ∧ E (.ref C) none H1
theorem ps_raise (hx : XCls K mg x C) (hg : Gl (cxOf (CX1 P w base) P w K mg base N qual scope f cd A outer s H E) x) (ha : PA (cxOf (CX1 P w base) P w K mg base N qual scope f cd A outer s H E) (e :: es) t)
    (he : starEach (e :: es) (cxOf (CX1 P w base) P w K mg base N qual scope f cd A outer s H E).env = (false, eval e (cxOf (CX1 P w base) P w K mg base N qual scope f cd A outer s H E).env) :: starEach es (cxOf (CX1 P w base) P w K mg base N qual scope f cd A outer s H E).env := by rfl)
    (hpl : (backTo cpos (starEach es (cxOf (CX1 P w base) P w K mg base N qual scope f cd A outer s H E).env)).any (·.1) = false := by rfl) (hd : (x == ("__debug__" : Str)) = false := by decide) :
    PS (cxOf (CX1 P w base) P w K mg base N qual scope f cd A outer s H E) (.Raise (some (.Call (.Name x np) (e :: es) [] cpos)) none pos) (tRaise C E t) := by
  intro pins s1 σ H1 D I h
  obtain ⟨bm, zN, nm, qn, bs, hdct, sn, sub, ab, col, dd, k0, k1, k2, k3, k5, mN, hC, hN, hni, T⟩ := exc_obj I.mod.kin hx.ex
  have FB := PySem.F.excBase_ValueError
  refine wpAny_Raise_call_subT (nm := nm) (q := qn) (C := C) (N := zN) (bs := bs) (bm := bm) (hdct := hdct) (sn := sn) (sub := sub) (ab := ab) (col := col) (dd := dd) (k0 := k0) (k1 := k1) (k2 := k2) (k3 := k3) (k5 := k5) FB (mN := mN) (T.hasType FB.hasBase) (I.ok.hd rfl) ?_ hni (ld_glob I hg hx.mg ⟨rfl, ?_⟩ hd)
  · rw [he]
    show (false || (backTo cpos (starEach es _)).any (·.1)) = false
    rw [hpl]
    rfl
  · have hA := ha cpos pins s1 σ H1 _ I h
    rw [he] at hA ⊢
    refine Calls.evalArgs_plain (thn hA fun us s2 ⟨vs, H2, I2, r, hl, q⟩ => ⟨rfl, ?_, I2.bk _ _ hC, hN.keeps I2.bk, T.keeps I2.bk, fun h' ea hm => ?_⟩)
    · have := r.length
      show us.length ≤ sizeLine
      omega
    · exact wpAny_mono (made_leaves own_cx I2 hm) (fun _ s'' F => ⟨ea, _, H2, rfl, F, q⟩) fun _ _ z => z
end
end L2
end
section
namespace L2
open PySem PySem.Spec PyProof.Rows
abbrev Cx.tried (X : Cx) (W : Value → Shared → Prop) (pn : List (Addr × Obj)) : Cx := { X with xe := W, pn := pn }
abbrev Cx.hand (X : Cx) (ea : Addr) : Cx := { X with A := X.A.mark (some (.ref ea)), calm := false, xe := fun _ _ => False }
section
variable {X : Cx} {pins pl : List (Addr × Obj)} {σ : St} {H H1 H' : Hp} {s s1 s' : Shared} {W : Value → Shared → Prop} {ea : Addr}
theorem Cx.Ok.tried (ok : X.Ok) (W : Value → Shared → Prop) (pn : List (Addr × Obj)) : (X.tried W pn).Ok :=
  ⟨ok.mod, ok.kind, ok.glob, ok.blt, ok.above, ok.inj, ok.has, ok.cab, ok.hd, ok.frames, ok.stk, ok.exf, ok.bs, ok.bsz, ok.noex, ok.exfs, ok.funs, ok.frf⟩
theorem Cx.Ok.untried {pn : List (Addr × Obj)} (ok : (X.tried W pn).Ok) : X.Ok :=
  ⟨ok.mod, ok.kind, ok.glob, ok.blt, ok.above, ok.inj, ok.has, ok.cab, ok.hd, ok.frames, ok.stk, ok.exf, ok.bs, ok.bsz, ok.noex, ok.exfs, ok.funs, ok.frf⟩
theorem Inv.tried (I : Inv X pins σ H s) (W : Value → Shared → Prop) : Inv (X.tried W (X.pn ++ pins)) [] σ H s :=
  ⟨I.ok.tried W _, I.os, I.bare, I.base, I.loc, I.cell, I.free, I.freeC, fun p hp => I.pin p (by simpa using hp), I.hok, I.len⟩
theorem Inv.untried (I : Inv (X.tried W (X.pn ++ pins)) pl σ H s) : Inv X pins σ H s :=
  ⟨I.ok.untried, I.os, I.bare, I.base, I.loc, I.cell, I.free, I.freeC, fun p hp => I.pin p (List.mem_append_left _ hp), I.hok, I.len⟩
theorem SP.untried {D : Ends} {f : Flow} (h : SP (X.tried W (X.pn ++ pins)) pl D f s') : SP X pins D f s' := by
  cases f with
  | next => obtain ⟨σ', H', I, q⟩ := h; exact ⟨σ', H', I.untried, q⟩
  | brk => obtain ⟨σ', H', I, q⟩ := h; exact ⟨σ', H', I.untried, q⟩
  | cont => obtain ⟨σ', H', I, q⟩ := h; exact ⟨σ', H', I.untried, q⟩
  | ret u => obtain ⟨v, σ', H', I, r, q⟩ := h; exact ⟨v, σ', H', I.untried, r, q⟩
theorem Inv.hand (I : Inv X pins σ H s) (ea : Addr) : Inv (X.hand ea) pins σ H s :=
  ⟨⟨I.ok.mod, I.ok.kind, I.ok.glob, I.ok.blt, I.ok.above, I.ok.inj, I.ok.has, I.ok.cab, (fun z => by cases z), I.ok.frames, I.ok.stk, I.ok.exf, I.ok.bs, I.ok.bsz, I.ok.noex, I.ok.exfs, I.ok.funs, I.ok.frf⟩, I.os, I.bare, I.base, I.loc, I.cell, I.free, I.freeC, I.pin, I.hok, I.len⟩
theorem Inv.unhand (hc : X.A.handled = none) (I : Inv (X.hand ea) pins σ H s) : Inv X pins σ H s :=
  ⟨⟨I.ok.mod, I.ok.kind, I.ok.glob, I.ok.blt, I.ok.above, I.ok.inj, I.ok.has, I.ok.cab, (fun _ => hc), I.ok.frames, I.ok.stk, I.ok.exf, I.ok.bs, I.ok.bsz, I.ok.noex, I.ok.exfs, I.ok.funs, I.ok.frf⟩, I.os, I.bare, I.base, I.loc, I.cell, I.free, I.freeC, I.pin, I.hok, I.len⟩
theorem Inv.blank (I : Inv X pins σ H s) : Inv X pins (List.replicate X.N.length none) H s := by
  refine ⟨I.ok, I.os, I.bare, I.base, ?_, I.cell, I.free, I.freeC, I.pin, I.hok, by simp⟩
  obtain ⟨m, hn, _⟩ := I.loc
  refine ⟨m, hn, fun i x v h1 h2 _ => ?_⟩
  rw [List.getElem?_replicate] at h2
  split at h2 <;> cases h2
theorem Inv.drop (I : Inv X pins σ H s) (i : Nat) : Inv X pins (σ.set i none) H s := by
  refine ⟨I.ok, I.os, I.bare, I.base, ?_, I.cell, I.free, I.freeC, I.pin, I.hok, by rw [List.length_set]; exact I.len⟩
  obtain ⟨m, hn, hl⟩ := I.loc
  refine ⟨m, hn, fun j x v h1 h2 h3 => hl j x v h1 ?_ h3⟩
  by_cases e : i = j
  · subst e
    rw [List.getElem?_set] at h2
    split at h2
    · split at h2 <;> cases h2
    · exact h2
  · rw [List.getElem?_set_ne e] at h2
    exact h2
theorem Inv.landed (O : Own X) (I1 : Inv X pins σ H1 s1) (I' : Inv X pins σ H' s') {h' : Heap} (keep : ∀ b o, s'.heap.get? b = some o → (H' b ≠ none ∨ (s1.heap.get? b).isSome = true) → b ∉ frs X.stack → h'.get? b = some o) (ups : s'.heap.UpToSlots h') :
    Inv X pins σ H' { s' with heap := h' } := by
  obtain ⟨d1, d2⟩ := I'.down O (h' := h') (fun b o e hh hb => keep b o e (hh.imp id fun h => I1.old O h) (I'.nfs O hh hb)) ups
  have cl : ∀ c v, s'.heap.IsCell c v → h'.IsCell c v := fun c v ⟨o, e, d⟩ => by
    obtain ⟨sl, e'⟩ := ups c o e fun vs z => by rw [d] at z; cases z
    exact ⟨_, e', d⟩
  refine ⟨I'.ok, I'.os, I'.bare, O.ex ▸ d1, ?_, fun x c e => ?_, I'.free, I'.freeC, fun p hp => ?_, d2, I'.len⟩
  · obtain ⟨m, hn, hl⟩ := I'.loc
    refine ⟨m, ups.ns hn, fun i x v a b c => ?_⟩
    obtain ⟨u, r, q⟩ := hl i x v a b c
    refine ⟨u, r, ?_⟩
    rcases q with q | ⟨q1, c, q2, q3⟩
    · exact .inl q
    · exact .inr ⟨q1, c, q2, cl _ _ q3⟩
  · obtain ⟨v, z⟩ := I'.cell x c e
    exact ⟨v, cl _ _ z⟩
  · obtain ⟨a, b, c, d, e⟩ := I'.pin p hp
    refine ⟨keep _ _ a (.inr ?_) fun z => ?_, b, c, d, e⟩
    · rw [(I1.pin p hp).1]
      rfl
    · rcases (mem_fs O).mp z with z | z
      · exact c z
      · exact d z
end
section
variable {M : Model} {A : Around} {E : Value → Shared → Prop} {s : Shared} {env : Env}
theorem name_goes {n : Str} {pos : Pos} {m : Str → Option Value} {Q : Unit → Shared → Prop} (hl : env.kindOf n = some .local) (hn : s.heap.Ns env.locals m) (hp : (env.scope.kind == .class || (env.scope.kind == .module && env.locals != env.globals)) = false)
    (h : ∀ h' v, h'.Ns env.locals (fun x => if x = n then v else m x) → Heap.SameBut env.locals s.heap h' → Q () { s with heap := h', toks := s.toks + 1 }) : wpAny M A (do bindName env n .none; unbindBehindTheSuite env n pos) Q E s := by
  refine wpAny_bind (wpAny_bindName (wpAny_storeName_local hl hn (fun g1 n1 b1 => ?_) hp))
  unfold unbindBehindTheSuite
  refine wpAny_onRaise ?_
  unfold unbindName
  refine wpAny_bind ?_
  refine wpAny_point ?_
  refine wpAny_bind ?_
  unfold deleteName
  simp only [hl, hp]
  rw [if_neg Bool.false_ne_true]
  refine wpAny_bind (wpAny_nsDel_keeps n1 fun g2 v n2 b2 => ?_)
  simp only [if_true, Option.isSome_some, Bool.not_true, Bool.false_eq_true, if_false]
  refine wpAny_pure ?_
  refine wpAny_point (h g2 v ?_ (b1.trans b2))
  have e : (fun x => if x = n then v else (fun x => if x = n then some Value.none else m x) x) = fun x => if x = n then v else m x := by
    funext x
    by_cases z : x = n
    · rw [if_pos z, if_pos z]
    · rw [if_neg z, if_neg z]
      exact if_neg z
  rw [← e]
  exact n2
end
section
variable {X : Cx} {pins : List (Addr × Obj)} {σ : St} {H : Hp} {s : Shared}
theorem Inv.track1 {D : Addr} {o : HO} (I : Inv X pins σ H s) (hn : H D = none) (hL : D ≠ X.env.locals) (h1 : X.s₀.heap.get? D = none) (h2 : ∀ x c, X.env.cells.lookup x = some c → c ≠ D) (h3 : ∀ p ∈ X.pn ++ pins, p.1 ≠ D) (ho : ObjOk X.prog X.w (upd H D o) s.heap D o) : Inv X pins σ (upd H D o) s := by
  have nD : ∀ b u, H b = some u → b ≠ D := fun b u e z => by rw [z, hn] at e; cases e
  have up : ∀ b u, H b = some u → upd H D o b = some u := fun b u e => by rw [upd_ne (nD b u e)]; exact e
  refine ⟨I.ok, I.os, I.bare, ⟨I.base.keep, I.base.slot, fun b ob q nn hx => ?_, I.base.there, fun b xs q => up _ _ (I.base.tups b xs q), fun b ob u q => up _ _ (I.base.frzs b ob u q), fun b ps q => ?_⟩, I.loc, I.cell, ?_, fun x c e => ?_, fun p hp => ?_, fun b u e => ?_, I.len⟩
  · rw [upd_ne fun z => by rw [z, h1] at q; cases q]
    exact I.base.free b ob q nn hx
  · obtain ⟨more, z⟩ := I.base.tbls b ps q
    exact ⟨more, up _ _ z⟩
  · rw [upd_ne (Ne.symm hL)]
    exact I.free
  · rw [upd_ne (h2 x c e)]
    exact I.freeC x c e
  · obtain ⟨a, b, c⟩ := I.pin p hp
    refine ⟨a, ?_, c⟩
    rw [upd_ne (h3 p hp)]
    exact b
  · by_cases hb : b = D
    · subst hb
      rw [upd_same] at e
      cases e
      exact ho
    · rw [upd_ne hb] at e
      exact (I.hok b u e).stay (fun _ _ _ q => q) (fun c q => up _ _ q) fun c ys q => up _ _ q
end
theorem Inv.gone {X : Cx} {pins : List (Addr × Obj)} {σ : St} {H : Hp} {s : Shared} {m : Str → Option Value} {n : Str} {i : Nat} {g : Heap} {v : Option Value} (Z : Inv X pins σ H s) (hN : X.N.Nodup) (hi : X.N[i]? = some n)
    (hlo : ∀ (j : Nat) (x : Str) (u : V), X.N[j]? = some x → σ[j]? = some (some u) → Vis X.env.scope x → ∃ y, RelV u y ∧ Look X.env s.heap m x y) (gn : g.Ns X.env.locals (fun x => if x = n then v else m x)) (sb : Heap.SameBut X.env.locals s.heap g) (tk : Nat) :
    Inv X pins (σ.set i none) H { s with heap := g, toks := tk } := by
  have old : ∀ b o, X.s₀.heap.get? b = some o → b ≠ X.env.locals := fun b o e z => by
    rw [z, Z.nl.2] at e
    cases e
  refine ⟨Z.ok, Z.os, Z.bare, ⟨fun b o q nn hb hx => (sb.2 b (old b o q)).trans (Z.base.keep b o q nn hb hx), fun b o q nn hb hx => ?_, Z.base.free, fun b o q hx => ?_, Z.base.tups, Z.base.frzs, Z.base.tbls⟩, ⟨_, gn, fun j x u a b c => ?_⟩, fun x c e => ?_, Z.free, Z.freeC, fun p hp => ?_, fun b u e => ?_, by rw [List.length_set]; exact Z.len⟩
  · obtain ⟨sl, e⟩ := Z.base.slot b o q nn hb hx
    exact ⟨sl, (sb.2 b (old b o q)).trans e⟩
  · obtain ⟨o', e⟩ := Z.base.there b o q hx
    exact ⟨o', (sb.2 b (old b o q)).trans e⟩
  · have hij : j ≠ i := fun z => by
      subst z
      rw [List.getElem?_set] at b
      split at b
      · split at b <;> cases b
      · rename_i h
        exact h rfl
    rw [List.getElem?_set_ne (Ne.symm hij)] at b
    obtain ⟨y, r, q⟩ := hlo j x u a b c
    have hx : ¬ x = n := fun z => hij (nodup_ix hN (z ▸ a) hi)
    refine ⟨y, r, ?_⟩
    rcases q with ⟨q1, q2⟩ | ⟨q1, d, q2, q3⟩
    · exact .inl ⟨q1, (if_neg hx).trans q2⟩
    · exact .inr ⟨q1, d, q2, q3.sameBut sb (Z.cne x d q2)⟩
  · obtain ⟨w, q⟩ := Z.cell x c e
    exact ⟨w, q.sameBut sb (Z.cne x c e)⟩
  · obtain ⟨a, b, c, d⟩ := Z.pin p hp
    exact ⟨(sb.2 _ c).trans a, b, c, d⟩
  · have tr : ∀ c, H c ≠ none → c ≠ X.env.locals := fun c hc z => hc (by rw [z]; exact Z.free)
    refine (Z.hok b u e).stay (fun c w hc q => (sb.2 c (tr c ?_)).trans q) (fun _ q => q) fun _ _ q => q
    rcases hc with rfl | hc
    · rw [e]; exact fun z => by cases z
    · rw [hc]; exact fun z => by cases z
def tTry (K : PySem.W.Frag) (CP : Addr) (len i : Nat) (tb : XK → TS) (th : TS) : TS := fun D σ H =>
  tb (fun cls _ H' => ∃ D0, cls = .ref D0 ∧ PySem.W.exmOne K cls (.ref CP) = some true ∧ ∀ ea, H' ea = none →
    th { nx := fun σ' H2 => D.nx (σ'.set i none) H2, rt := D.rt } ((List.replicate len none).set i (some (.ref ea))) (upd H' ea (ExcO ea D0))) D σ H
section
variable {X : Cx} {body suite : List Stmt} {b₀ : Stmt} {c n : Str} {np hpos pos : Pos} {CP : Addr} {i : Nat} {tb : XK → TS} {th : TS}
theorem ps_try (O : Own X) (hc : X.calm = true) (hP : X.mg c = some (.ref CP)) (hg : Gl X c) (hN : X.N.Nodup) (hi : X.N[i]? = some n) (hl : X.env.scope.names.lookup n = some .local)
    (hb : ∀ (W : Value → Shared → Prop) (pn : List (Addr × Obj)) (Ew : XK), Passes (CX1 X.prog X.w X.base) (X.tried W pn) Ew → PSs (X.tried W pn) body (tb Ew)) (hh : ∀ ea, PSs (X.hand ea) (b₀ :: suite) th)
    (hd : (c == ("__debug__" : Str)) = false := by decide) : PS X (.Try body [.ExceptHandler (some (.Name c np)) (some n) (b₀ :: suite) hpos] [] [] pos) (tTry X.K CP X.N.length i tb th) := by
  intro pins s σ H D I h
  have hhd := I.ok.hd hc
  refine wpAny_Try_except ?_
  refine thn (hb _ (X.pn ++ pins) _ ?hp [] s σ H D (I.tried _) h) fun f s1 q => ?hn
  case hn =>
    cases f with
    | next => exact wpAny_execs_nil (SP.untried q)
    | brk => exact SP.untried (f := .brk) q
    | cont => exact SP.untried (f := .cont) q
    | ret u => exact SP.untried (f := .ret u) q
  case hp =>
    intro pins1 σ1 H1 s1 e s' I1 hx
    obtain ⟨ea, cls, H', rfl, F, D0, rfl, hm, hq⟩ := hx
    have J1 : Inv X pins σ1 H1 s1 := I1.untried
    have J' : Inv X pins σ1 H' s' := Fly.inv (X := X) F J1
    obtain ⟨B, a0, hfl, hB, hin⟩ := F.fly
    have fr : X.A.frames = some (X.env :: X.outer) := by rw [← O.stk]; exact I.ok.frames
    refine wpAny_looks_onW fr O.frm (O.stk ▸ hfl) fun h4 held4 ups4 => ?_
    refine wpAny_landsW held4 fun h5 fl5 ups5 => ?_
    have kp5 : ∀ b o, s'.heap.get? b = some o → (H' b ≠ none ∨ (s1.heap.get? b).isSome = true) → b ∉ frs X.stack → h5.get? b = some o := fun b o e hh hb => fl5.1 b o (hin b o e hh hb)
    have J5 := J1.landed O J' kp5 (ups4.trans ups5)
    refine wpAny_handleBy_cons (codeAny_handlers_test (ld_glob (X := X.hand ea) (J5.hand ea) hg hP ?_ hd)) (by intro z; cases z)
    have T5 : ExcAt h5 ea D0 := by
      obtain ⟨ob, g, c⟩ := fl5.there
      exact ⟨ob, g, c⟩
    refine (PySem.W.exm_one J5.kIn T5.ty hm).at ?_
    refine codeAny_handlers_suite_as ?_
    refine lands_againW fl5 fun h6 fl6 ups6 => ?_
    have kp6 : ∀ b o, s'.heap.get? b = some o → (H' b ≠ none ∨ (s1.heap.get? b).isSome = true) → b ∉ frs X.stack → h6.get? b = some o := fun b o e hh hb => fl6.1 b o (hin b o e hh hb)
    have J6 := J1.landed O J' kp6 ((ups4.trans ups5).trans ups6)
    have T6 : ExcAt h6 ea D0 := by
      obtain ⟨ob, g, c⟩ := fl6.there
      exact ⟨ob, g, c⟩
    have nes := F.nes
    have n1 : ea ≠ X.env.locals := fun z => by
      obtain ⟨m, ⟨o, _, _, g, _⟩, _⟩ := J1.loc
      rw [z, g] at nes
      cases nes
    have n2 : ∀ x c, X.env.cells.lookup x = some c → c ≠ ea := fun x c e z => by
      obtain ⟨v, o, g, _⟩ := J1.cell x c e
      rw [← z, g] at nes
      cases nes
    have n3 : ∀ p ∈ X.pn ++ pins, p.1 ≠ ea := fun p hp z => by
      have g := (J1.pin p hp).1
      rw [z, nes] at g
      cases g
    have n4 : X.s₀.heap.get? ea = none := by
      cases q : X.s₀.heap.get? ea with
      | none => rfl
      | some o =>
        have := J1.old O (by rw [q]; rfl : (X.s₀.heap.get? ea).isSome = true)
        rw [nes] at this
        cases this
    have J7 := J6.blank.track1 (o := ExcO ea D0) F.ne n1 n4 n2 n3 (excO_ok T6)
    refine store_ok (X := X.hand ea) (v := .ref ea) (J7.hand ea) hN hi (.inl hl) rfl (fun s8 J8 => ?_) (.inr hl)
    refine wpAny_mono (hh ea pins s8 _ _ _ J8 (hq ea F.ne)) (fun f s9 q9 => ?_) fun _ _ z => False.elim z
    have fin : ∀ {σ9 : St} {H9 : Hp} {Qu : Unit → Shared → Prop}, Inv (X.hand ea) pins σ9 H9 s9 → (∀ s10, Inv X pins (σ9.set i none) H9 s10 → Qu () s10) → wpAny (model X.prog X.w) X.A (do bindName X.env n .none; unbindBehindTheSuite X.env n hpos) Qu X.xe s9 := fun {σ9 H9 Qu} J9 k9 => by
      have Z := J9.unhand hhd
      obtain ⟨m, hn, hlo⟩ := Z.loc
      exact name_goes hl hn (by rw [I.ok.kind]; rfl) fun g v gn sb => k9 _ (Z.gone hN hi hlo gn sb _)
    cases f with
    | next =>
      obtain ⟨σ9, H9, J9, k9⟩ := q9
      exact fin J9 fun s10 J10 => ⟨_, _, J10, k9⟩
    | brk =>
      obtain ⟨σ9, H9, J9, k9⟩ := q9
      exact k9.elim
    | cont =>
      obtain ⟨σ9, H9, J9, k9⟩ := q9
      exact k9.elim
    | ret u =>
      obtain ⟨v, σ9, H9, J9, r9, k9⟩ := q9
      exact fin J9 fun s10 J10 => ⟨v, _, _, J10, r9, k9⟩
end
end L2
end
section
namespace L2
open PySem PySem.Spec PyProof.Rows
theorem b_ValueError : bootBuiltins "ValueError" = some (.type "ValueError") := by decide +kernel
section
variable {P : Program} {w : World} {K : PySem.W.Frag} {mg : Str → Option Value} {base : Heap} {k : Nat} {f : Addr} {fd : FuncData} {ps : List Str} {sp sp' : Sp}
theorem FnOk.up (F : FnOk P w K mg base CX0 k f fd ps sp) : FnOk P w K mg base (CX1 P w base) k f fd ps sp :=
  ⟨F.len, fun A outer s H args us vs Q E hr e0 hb hv hs => codeAny_mono (F.run A outer s H args us vs Q E hr e0 hb hv hs) fun r s' h => by
    cases r with
    | ok fl => cases fl <;> exact h
    | error e => exact False.elim h⟩
theorem FnOk.or {CX : CXT} (F : FnOk P w K mg base CX k f fd ps sp) (G : FnOk P w K mg base CX k f fd ps sp') : FnOk P w K mg base CX k f fd ps (fun vs H Q E => sp vs H Q E ∨ sp' vs H Q E) :=
  ⟨fun vs H Q E h => h.elim (F.len vs H Q E) (G.len vs H Q E), fun A outer s H args us vs Q E hr e0 hb hv hs => hs.elim (F.run A outer s H args us vs Q E hr e0 hb hv) (G.run A outer s H args us vs Q E hr e0 hb hv)⟩
theorem Fun.okx {x qual : Str} {st : Stmt} {N : List Str} (F : Fun K x qual st f fd) (S : FnScope N ps (defScope st)) (len : ∀ vs H Q E, sp vs H Q E → vs.length = ps.length)
    (hbody : ∀ (cdv : Value) (A : Around) (outer : List Env) (s : Shared) (H : Hp) (vs : List V) (Q : VK) (E : XK), Room k (A.deeper (envOfC qual (defScope st) s.heap.objs.size f cdv)) → sp vs H Q E →
      ∃ t, PSs (cxOf (CX1 P w base) P w K mg base N qual (defScope st) f cdv A outer s H E) (defBody st) t ∧ t { nx := fun _ H' => Q .non H', rt := Q } (start N vs) H) : FnOk P w K mg base (CX1 P w base) (k + 1) f fd ps sp := by
  obtain ⟨oc, od, kV, doc, pm, an, cdv, ct, osl, rfl, lk, hcd⟩ := F.ex
  exact fn_of lk hcd S len fun A outer s H vs Q E hr hsp => hbody cdv A outer s H vs Q E hr hsp
end
theorem own_nox {CX : CXT} {P : Program} {w : World} {K : PySem.W.Frag} {mg : Str → Option Value} {base : Heap} {N : List Str} {qual : Str} {scope : Scope} {f : Addr} {cd : Value} {A : Around} {outer : List Env} {s : Shared} {H : Hp} {E : XK} :
    Own (cxOf CX P w K mg base N qual scope f cd A outer s H E).nox := ⟨rfl, rfl, rfl⟩
/-- the error classes of the text -/
structure XA where
  PassError : Addr
  NoNet : Addr
  NoRoom : Addr
  Unreached : Addr
end L2
end
section
namespace L2
open PySem PySem.Spec PyProof.Rows
section
variable {X : Cx} {a b : Str} {v : Expr} {tv : TE} {j j2 : Nat} {p1 p2 p3 pos : Pos}
end
section
variable {X : Cx} {pins : List (Addr × Obj)} {σ : St} {H1 : Hp} {s1 : Shared} {ea : Addr} {cls a0 : Value}
theorem fly_of (O : Own X) (I : Inv X pins σ H1 s1) {h' : Heap} (x1 : Heap.FlyingW (PySem.W.hideAll s1.heap (frs X.stack)) X.outer ea cls a0 h') (x4 : s1.heap.UpToSlots h') (hn : s1.heap.get? ea = none) :
    Fly X.prog X.w X.base X.outer X.H₀ X.s₀ ea cls H1 { s1 with heap := h' } := by
  have inB : ∀ b o, s1.heap.get? b = some o → (H1 b ≠ none ∨ (X.s₀.heap.get? b).isSome = true) → b ∉ X.fs → (PySem.W.hideAll s1.heap (frs X.stack)).get? b = some o := fun b o e hh hb => PySem.W.hideAll_get _ e (I.nfs O hh hb)
  obtain ⟨d1, d2⟩ := I.down O (fun b o e hh hb => x1.1 b o (inB b o e hh hb)) x4
  have nb : X.base.StaysIn (PySem.W.hideAll s1.heap (frs X.stack)) := fun b o q => PySem.W.hideAll_get _ (I.bk b o q) fun hm => by
    rw [(I.stack.mem hm).1] at q
    cases q
  refine ⟨I.os, I.bare, d1, d2, ⟨_, _, x1, nb, fun b o e hh hb => ?_⟩, ?_, ?_⟩
  · have th : ∃ o1, s1.heap.get? b = some o1 := by
      rcases hh with h | h
      · cases q : H1 b with
        | none => exact (h q).elim
        | some u => exact (I.hok b u q).there
      · exact Option.isSome_iff_exists.mp (I.old O h)
    obtain ⟨o1, e1⟩ := th
    have e2 := inB b o1 e1 hh hb
    have e3 := x1.1 b o1 e2
    rw [e] at e3
    cases e3
    exact e2
  · cases q : H1 ea with
    | none => rfl
    | some u =>
      obtain ⟨o, e⟩ := (I.hok ea u q).there
      rw [hn] at e
      cases e
  · cases q : X.s₀.heap.get? ea with
    | none => rfl
    | some o =>
      have := I.old O (by rw [q]; rfl : (X.s₀.heap.get? ea).isSome = true)
      rw [hn] at this
      cases this
def XW (X : Cx) (E : XK) : Value → Shared → Prop := fun e s' => ∃ (ea : Addr) (cls : Value) (H1 : Hp) (pins : List (Addr × Obj)) (σ1 : St) (h0 : Heap), e = .ref ea ∧ E cls none H1 ∧ Inv X pins σ1 H1 { s' with heap := h0 } ∧ h0.get? ea = none ∧
  ((∃ vs, Heap.MadeExcOf h0 s'.heap ea cls vs) ∨ ∃ a0, Heap.HeldW (PySem.W.hideAll h0 (frs X.stack)) X.stack ea cls a0 X.env.locals s'.heap ∧ h0.UpToSlots s'.heap)
theorem xw_leaves {E : XK} {Ex : Value → Shared → Prop} (O : Own X) {e : Value} {s' : Shared} (h : XW X E e s') :
    wpAny (model X.prog X.w) X.A (leaving X.env e) (fun _ s'' => CX1 X.prog X.w X.base X.outer X.H₀ X.s₀ E e s'') Ex s' := by
  obtain ⟨ea, cls, H1, pins, σ1, h0, rfl, q, I, hn, st⟩ := h
  rcases st with ⟨vs, hx⟩ | ⟨a0, hd, ups⟩
  · have z := made_leaves (E := Ex) (s1 := { s' with heap := h0 }) (h1 := s'.heap) O I hx
    exact wpAny_mono z (fun _ s'' F => ⟨ea, _, H1, rfl, F, q⟩) fun _ _ z => z
  · unfold leaving
    refine wpAny_bind (wpAny_noteFrame_againW O.frm hd.2.2.2 ?_)
    refine wpAny_landsW hd fun h' fl up => ?_
    obtain ⟨k1, k2, k3, k4⟩ := fl
    have tl : ∀ (B : Heap) (l : List Env), l = X.env :: X.outer → h'.FunFrames B l → h'.FunFrames B X.outer := fun B l e k => by
      subst e
      obtain ⟨_, _, k⟩ := k
      exact k
    have k3 := tl _ _ O.stk k3
    exact ⟨ea, _, H1, rfl, fly_of O I ⟨k1, k2, k3, k4⟩ (ups.trans up) hn, q⟩
theorem held_again {M : Model} {A : Around} {E : Value → Shared → Prop} {s : Shared} {B : Heap} {l : List Env} {e L : Addr} {cls a0 : Value} {Q : Unit → Shared → Prop} (R : Heap.HeldW B l e cls a0 L s.heap)
    (h : ∀ h', Heap.HeldW B l e cls a0 L h' → s.heap.UpToSlots h' → Q () { s with heap := h' }) : wpAny M A (setFlight (.ref e) (some L)) Q E s := by
  obtain ⟨b1, b2, b3, oe, vs, T, oT, ts, he, hc, hd, h1, hnT, hTe, hT, hdT, h3⟩ := R
  have z3 : 3 < ts.size := (Array.getElem?_eq_some_iff.mp h3).1
  have other : ∀ b, b ≠ T → (s.heap.update T (Obj.mapFields (·.setIfInBounds 3 (rawInt L)))).get? b = s.heap.get? b := fun b hb => Heap.get?_update_other _ _ (Ne.symm hb)
  have norec : ∀ b o, s.heap.get? b = some o → (∀ vs, o.data ≠ .fields vs) → b ≠ T := fun b o hb hf q => by
    rw [q, hT] at hb
    cases hb
    exact hf ts hdT
  unfold setFlight
  refine wpAny_bind (wpAny_field he hd h1 ?_)
  rw [if_pos (by simp : (Value.ref T != Value.none) = true)]
  refine wpAny_setField hT hdT z3 (h _ ⟨fun b o hb => ?_, b2, ?_, ?_⟩ fun b o hb hf => ⟨o.slots, ?_⟩)
  · exact (other b fun q => by rw [q, hnT] at hb; cases hb).trans (b1 b o hb)
  · exact b3.of_keeps fun b o hb hf => ⟨o, (other b (norec b o hb hf)).trans hb, rfl⟩
  · refine ⟨oe, vs, T, _, _, (other e (Ne.symm hTe)).trans he, hc, hd, h1, hnT, hTe, Heap.get?_update_self _ hT ?_, Obj.data_mapFields hdT _, by simp [z3]⟩
    exact Obj.isFreed_of_fields (Obj.data_mapFields hdT _)
  · exact (other b (norec b o hb hf)).trans hb
theorem xw_held {E : XK} (O : Own X) {s' : Shared} {pins : List (Addr × Obj)} {σ1 : St} {H1 : Hp} {h0 : Heap} {ea : Addr} {cls a0 : Value} (q : E cls none H1) (I : Inv X pins σ1 H1 { s' with heap := h0 }) (hn : h0.get? ea = none)
    (hd : Heap.HeldW (PySem.W.hideAll h0 (frs X.stack)) X.stack ea cls a0 X.env.locals s'.heap) (ups : h0.UpToSlots s'.heap) : cameBackBy (model X.prog X.w) X.A X.env (XW X E) (.ref ea) s' := by
  obtain ⟨_, _, _, oe, vs, T, oT, ts, he, hc, hdt, h1, _⟩ := id hd
  unfold cameBackBy
  refine wpAny_bind (wpAny_field he hdt h1 ?_)
  rw [if_neg (by simp : ¬ (Value.ref T == Value.none) = true)]
  rw [O.frm]
  refine held_again hd fun h' hd' up => ?_
  exact ⟨ea, cls, H1, pins, σ1, h0, rfl, q, I, hn, .inr ⟨a0, hd', ups.trans up⟩⟩
theorem xw_passes {E : XK} (O : Own X) : PassesOwn (model X.prog X.w) X.A X.env (XW X E) := by
  intro e s' h
  obtain ⟨ea, cls, H1, pins, σ1, h0, rfl, q, I, hn, st⟩ := h
  unfold notedBy
  have hin : ∀ env ∈ (X.env :: X.outer), ∀ b, env.frame = some b → b ∈ frs X.stack := fun env he b hb => by rw [O.stk]; exact List.mem_filterMap.mpr ⟨env, he, hb⟩
  rcases st with ⟨vs, hx⟩ | ⟨a0, hd, ups⟩
  · obtain ⟨t, he, htn, ht⟩ := hx.there
    have fr0 : h0.FunFrames X.base (X.env :: X.outer) := O.stk ▸ I.stack
    have fr := PySem.W.funFrames_hide fr0 hin
    unfold noteFrame
    simp only [O.frm]
    have g1 : (#[Value.ref t, .none, .none, .none, .bool false, .none] : Array Value)[1]? = some Value.none := rfl
    refine wpAny_bind (wpAny_field he rfl g1 ?_)
    rw [if_neg (by simp)]
    refine wpAny_entryW (base := PySem.W.hideAll h0 (frs X.stack)) (outer := X.outer) (a0 := .ref t) (by rw [← O.stk]; exact I.ok.frames) (fr.of_keeps fun b o hb _ => ⟨o, hx.keeps b o hb, rfl⟩) O.frm he (fun b o hb => hx.keeps b o (PySem.W.of_hideAll _ hb)) ?_ rfl (by simp) rfl fun h' nt => ?_
    · cases z : (PySem.W.hideAll h0 (frs X.stack)).get? ea with
      | none => rfl
      | some o =>
        have := PySem.W.of_hideAll _ z
        rw [hn] at this
        cases this
    · obtain ⟨k1, k2, k3, k4⟩ := nt
      refine xw_held O (s' := { s' with heap := h' }) q I hn ⟨k1, ?_, O.stk ▸ k2, k3⟩ ((Heap.UpToSlots.of_keeps hx.keeps).trans k4)
      cases z : (PySem.W.hideAll h0 (frs X.stack)).get? ea with
      | none => rfl
      | some o =>
        have := PySem.W.of_hideAll _ z
        rw [hn] at this
        cases this
  · exact wpAny_noteFrame_againW O.frm hd.2.2.2 (xw_held O q I hn hd ups)
end
def RaisesTo (X : Cx) (E : XK) : Prop := ∀ (pins : List (Addr × Obj)) (σ : St) (H1 : Hp) (s1 : Shared) (ea C : Addr) (h1 : Heap) (vs : List Value), Inv X pins σ H1 s1 → Heap.MadeExcOf s1.heap h1 ea (.ref C) vs → E (.ref C) none H1 → X.xe (.ref ea) { s1 with heap := h1 }
section
variable {X : Cx} {E : XK} {x : Str} {C : Addr} {e : Expr} {es : List Expr} {t : TA} {np cpos pos : Pos}
theorem ps_raiseT (hc : X.calm = true) (hr : RaisesTo X E) (hx : XCls X.K X.mg x C) (hg : Gl X x) (ha : PA X (e :: es) t)
    (he : starEach (e :: es) X.env = (false, eval e X.env) :: starEach es X.env := by rfl) (hpl : (backTo cpos (starEach es X.env)).any (·.1) = false := by rfl) (hd : (x == ("__debug__" : Str)) = false := by decide) :
    PS X (.Raise (some (.Call (.Name x np) (e :: es) [] cpos)) none pos) (tRaise C E t) := by
  intro pins s1 σ H1 D I h
  obtain ⟨bm, zN, nm, qn, bs, hdct, sn, sub, ab, col, dd, k0, k1, k2, k3, k5, mN, hC, hN, hni, T⟩ := exc_obj I.mod.kin hx.ex
  have FB := PySem.F.excBase_ValueError
  refine wpAny_Raise_call_subT (nm := nm) (q := qn) (C := C) (N := zN) (bs := bs) (bm := bm) (hdct := hdct) (sn := sn) (sub := sub) (ab := ab) (col := col) (dd := dd) (k0 := k0) (k1 := k1) (k2 := k2) (k3 := k3) (k5 := k5) FB (mN := mN) (T.hasType FB.hasBase) (I.ok.hd hc) ?_ hni (ld_glob I hg hx.mg ⟨rfl, ?_⟩ hd)
  · rw [he]
    show (false || (backTo cpos (starEach es _)).any (·.1)) = false
    rw [hpl]
    rfl
  · have hA := ha cpos pins s1 σ H1 _ I h
    rw [he] at hA ⊢
    refine Calls.evalArgs_plain (thn hA fun us s2 ⟨vs, H2, I2, r, hl, q⟩ => ⟨rfl, ?_, I2.bk _ _ hC, hN.keeps I2.bk, T.keeps I2.bk, fun h' ea hm => hr pins σ H2 s2 ea C h' us I2 hm q⟩)
    have := r.length
    show us.length ≤ sizeLine
    omega
theorem raises_xw : RaisesTo (X.wish (XW X E)) E := fun pins σ H1 s1 ea C h1 vs I hm q => by
  refine ⟨ea, _, H1, pins, σ, s1.heap, rfl, q, I.unwish, hm.new, .inl ⟨vs, hm⟩⟩
theorem PS.xw {P : Program} {w : World} {K : PySem.W.Frag} {mg : Str → Option Value} {base : Heap} {N : List Str} {qual : Str} {scope : Scope} {f : Addr} {cd : Value} {A : Around} {outer : List Env} {s : Shared} {H : Hp} {E : XK} {st : Stmt} {t : TS}
    (h : PS ((cxOf (CX1 P w base) P w K mg base N qual scope f cd A outer s H E).wish (XW (cxOf (CX1 P w base) P w K mg base N qual scope f cd A outer s H E) E)) st t) : PS (cxOf (CX1 P w base) P w K mg base N qual scope f cd A outer s H E) st t := fun pins s1 σ H1 D I hw =>
  wpAny_mono (h pins s1 σ H1 D (I.wish _) hw) (fun _ _ q => q.unwish) fun e s' z => wpAny_mono (xw_leaves (Ex := fun e' s'' => CX1 P w base outer H s E e' s'') own_cx z) (fun _ _ y => y) fun _ _ y => y
end
end L2
end
section
namespace L3
open PySem PySem.Spec PyProof.Rows L2
/-- what the law asks of the error classes -/
structure TXA (K : PySem.W.Frag) (x : XA) : Prop where
  e_U : ExcKit K x.Unreached
  m_U : PySem.W.exmOne K (.ref x.Unreached) (.ref x.PassError) = some true
  k_U_U : PySem.W.kitOne K (.ref x.Unreached) (.ref x.Unreached) = some true
  k_U_V : PySem.W.kitOne K (.ref x.Unreached) (.type "ValueError") = some true
  k_U_R : PySem.W.kitOne K (.ref x.Unreached) (.ref x.NoRoom) = some false
  e_N : ExcKit K x.NoNet
  m_N : PySem.W.exmOne K (.ref x.NoNet) (.ref x.PassError) = some true
  k_N_N : PySem.W.kitOne K (.ref x.NoNet) (.ref x.NoNet) = some true
  k_N_V : PySem.W.kitOne K (.ref x.NoNet) (.type "ValueError") = some true
  k_N_RU : PySem.W.kitAny K (.ref x.NoNet) [.ref x.NoRoom, .ref x.Unreached] = some false
end L3
end
section
namespace L3
open PySem PySem.Spec PyProof.Rows L2 Mp
def sp_is_room (K : PySem.W.Frag) (C : Addr) : Sp := fun vs H Q _ => ∃ n r : Int, vs = [.int n, .int r] ∧ Q (.bl (decide (0 ≤ r) && decide (r < n))) H
def sp_check_net (K : PySem.W.Frag) (C : Addr) : Sp := fun vs H Q _ => ∃ (n : Int) (a : Addr) (ps : List (Int × Int)) (xs : List V), vs = [.int n, .ref a] ∧ SqL K H a xs ∧ PairsV H ps xs ∧ OkNet n ps ∧ Q .non H
def sp_rooms_led_into (K : PySem.W.Frag) (C : Addr) : Sp := fun vs H Q _ => ∃ (a : Addr) (r : Int) (ps : List (Int × Int)) (xs : List V) (n : Int), vs = [.ref a, .int r] ∧ SqL K H a xs ∧ PairsV H ps xs ∧ OkNet n ps ∧
  ∀ p H', Same H H' → H p = none → H' p = some (.lst ((ahead ps r).map V.int)) → Q (.ref p) H'
def sp_rooms_led_from (K : PySem.W.Frag) (C : Addr) : Sp := fun vs H Q _ => ∃ (a : Addr) (r : Int) (ps : List (Int × Int)) (xs : List V) (n : Int), vs = [.ref a, .int r] ∧ SqL K H a xs ∧ PairsV H ps xs ∧ OkNet n ps ∧
  ∀ p H', Same H H' → H p = none → H' p = some (.lst ((behind ps r).map V.int)) → Q (.ref p) H'
def sp_Net_init (K : PySem.W.Frag) (C : Addr) : Sp := fun vs H Q _ => ∃ (x dx : Addr) (n : Int) (a : Addr) (ps : List (Int × Int)) (xs : List V) (old : Hp), vs = [.ref x, .int n, .ref a] ∧ H x = some (.ins C dx []) ∧ SqL K H a xs ∧ a ≠ x ∧ PairsV H ps xs ∧ OkNet n ps ∧
  old x = none ∧ (∀ b, H b = none → old b = none) ∧ ∀ H', NetAt C old H' x n ps → (∀ b o, H b = some o → b ≠ x → H' b = some o) → Q .non H'
def sp_Net_rooms (K : PySem.W.Frag) (C : Addr) : Sp := fun vs H Q _ => ∃ (x : Addr) (n : Int) (ps : List (Int × Int)) (old : Hp), vs = [.ref x] ∧ NetAt C old H x n ps ∧ Q (.int n) H
def sp_Net_doors (K : PySem.W.Frag) (C : Addr) : Sp := fun vs H Q _ => ∃ (x : Addr) (n : Int) (ps : List (Int × Int)) (old : Hp), vs = [.ref x] ∧ NetAt C old H x n ps ∧ ∀ p xs, H p = none → PairsV H ps xs → Q (.ref p) (upd H p (.lst xs))
def sp_Net_leads (K : PySem.W.Frag) (C : Addr) : Sp := fun vs H Q _ => ∃ (x : Addr) (r n : Int) (ps : List (Int × Int)) (old : Hp), vs = [.ref x, .int r] ∧ NetAt C old H x n ps ∧ 0 ≤ r ∧ r < n ∧ ∀ p, H p = none → Q (.ref p) (upd H p (.lst ((ahead ps r).map V.int)))
def spx_Net_leads (K : PySem.W.Frag) (C : Addr) (x : XA) : Sp := fun vs H Q E => ∃ (y : Addr) (r n : Int) (ps : List (Int × Int)) (old : Hp), vs = [.ref y, .int r] ∧ NetAt C old H y n ps ∧ ¬ (0 ≤ r ∧ r < n) ∧ E (.ref x.NoRoom) none H
def spo_Net_leads (K : PySem.W.Frag) (C : Addr) (x : XA) : Sp := fun vs H Q E => sp_Net_leads K C vs H Q E ∨ spx_Net_leads K C x vs H Q E
def sp_Net_led (K : PySem.W.Frag) (C : Addr) : Sp := fun vs H Q _ => ∃ (x : Addr) (r n : Int) (ps : List (Int × Int)) (old : Hp), vs = [.ref x, .int r] ∧ NetAt C old H x n ps ∧ 0 ≤ r ∧ r < n ∧ ∀ p, H p = none → Q (.ref p) (upd H p (.lst ((behind ps r).map V.int)))
def spx_Net_led (K : PySem.W.Frag) (C : Addr) (x : XA) : Sp := fun vs H Q E => ∃ (y : Addr) (r n : Int) (ps : List (Int × Int)) (old : Hp), vs = [.ref y, .int r] ∧ NetAt C old H y n ps ∧ ¬ (0 ≤ r ∧ r < n) ∧ E (.ref x.NoRoom) none H
def spo_Net_led (K : PySem.W.Frag) (C : Addr) (x : XA) : Sp := fun vs H Q E => sp_Net_led K C vs H Q E ∨ spx_Net_led K C x vs H Q E
def sp_Net_check_room (K : PySem.W.Frag) (C : Addr) : Sp := fun vs H Q _ => ∃ (x : Addr) (r n : Int) (ps : List (Int × Int)) (old : Hp), vs = [.ref x, .int r] ∧ NetAt C old H x n ps ∧ 0 ≤ r ∧ r < n ∧ Q .non H
def spx_Net_check_room (K : PySem.W.Frag) (C : Addr) (x : XA) : Sp := fun vs H Q E => ∃ (y : Addr) (r n : Int) (ps : List (Int × Int)) (old : Hp), vs = [.ref y, .int r] ∧ NetAt C old H y n ps ∧ ¬ (0 ≤ r ∧ r < n) ∧ E (.ref x.NoRoom) none H
def spo_Net_check_room (K : PySem.W.Frag) (C : Addr) (x : XA) : Sp := fun vs H Q E => sp_Net_check_room K C vs H Q E ∨ spx_Net_check_room K C x vs H Q E
def sp_steps_past (K : PySem.W.Frag) (C : Addr) : Sp := fun vs H Q _ => ∃ (x : Addr) (c : V) (n : Int) (ps : List (Int × Int)) (old : Hp) (z : Int), vs = [.ref x, c] ∧ NetAt C old H x n ps ∧ ((c = .non ∧ z = -1) ∨ c = .int z) ∧
  ∀ d tr H', Same H H' → H d = none → H' d = some (.dK (kvOf tr)) → Found ps z tr → Q (.ref d) H'
def sp_trace_way (K : PySem.W.Frag) (C : Addr) : Sp := fun vs H Q _ => ∃ (d : Addr) (r : Int) (ps : List (Int × Int)) (z : Int) (tr : Tr), vs = [.ref d, .int r] ∧ H d = some (.dK (kvOf tr)) ∧ Tree ps z tr ∧ r ∈ ks tr ∧ tr.length ≤ 1000 ∧
  ∀ l w H', Same H H' → H l = none → H' l = some (.lst (w.map V.int)) → IsWay ps w r → (∀ y ∈ w, y ∈ ks tr) → w.length ≤ 1000 → w.Nodup → Q (.ref l) H'
def sp_check_all_reached (K : PySem.W.Frag) (C : Addr) : Sp := fun vs H Q _ => ∃ (x a : Addr) (rs : List Int) (n : Int) (ps : List (Int × Int)) (old : Hp), vs = [.ref x, .ref a] ∧ NetAt C old H x n ps ∧ SqL K H a (rs.map V.int) ∧ (∀ k ∈ rs, Rch ps (-1) k) ∧ ∀ H', Same H H' → Q .non H'
def spx_check_all_reached (K : PySem.W.Frag) (C : Addr) (x : XA) : Sp := fun vs H Q E => ∃ (y a : Addr) (rs : List Int) (n : Int) (ps : List (Int × Int)) (old : Hp), vs = [.ref y, .ref a] ∧ NetAt C old H y n ps ∧ SqL K H a (rs.map V.int) ∧ (((∀ k ∈ rs, 0 ≤ k ∧ k < n) ∧ (∃ k ∈ rs, ¬ Rch ps (-1) k) ∧ ∀ H', Same H H' → E (.ref x.Unreached) none H') ∨ ((∃ k ∈ rs, ¬ (0 ≤ k ∧ k < n)) ∧ ∀ H', Same H H' → E (.ref x.NoRoom) none H'))
def spo_check_all_reached (K : PySem.W.Frag) (C : Addr) (x : XA) : Sp := fun vs H Q E => sp_check_all_reached K C vs H Q E ∨ spx_check_all_reached K C x vs H Q E
def sp_check_reached (K : PySem.W.Frag) (C : Addr) : Sp := fun vs H Q _ => ∃ (x : Addr) (r n : Int) (ps : List (Int × Int)) (old : Hp), vs = [.ref x, .int r] ∧ NetAt C old H x n ps ∧ Rch ps (-1) r ∧ ∀ H', Same H H' → Q .non H'
def spx_check_reached (K : PySem.W.Frag) (C : Addr) (x : XA) : Sp := fun vs H Q E => ∃ (y : Addr) (r n : Int) (ps : List (Int × Int)) (old : Hp), vs = [.ref y, .int r] ∧ NetAt C old H y n ps ∧ ((0 ≤ r ∧ r < n ∧ ¬ Rch ps (-1) r ∧ ∀ H', Same H H' → E (.ref x.Unreached) none H') ∨ (¬ (0 ≤ r ∧ r < n) ∧ ∀ H', Same H H' → E (.ref x.NoRoom) none H'))
def spo_check_reached (K : PySem.W.Frag) (C : Addr) (x : XA) : Sp := fun vs H Q E => sp_check_reached K C vs H Q E ∨ spx_check_reached K C x vs H Q E
def sp_reached (K : PySem.W.Frag) (C : Addr) : Sp := fun vs H Q _ => ∃ (x : Addr) (n : Int) (ps : List (Int × Int)) (old : Hp), vs = [.ref x] ∧ NetAt C old H x n ps ∧ ∀ l H', Same H H' → H l = none → H' l = some (.lst ((reachedL n ps).map V.int)) → Q (.ref l) H'
def sp_way_to (K : PySem.W.Frag) (C : Addr) : Sp := fun vs H Q _ => ∃ (x : Addr) (r n : Int) (ps : List (Int × Int)) (old : Hp), vs = [.ref x, .int r] ∧ NetAt C old H x n ps ∧ Rch ps (-1) r ∧
  ∀ l w H', Same H H' → H l = none → H' l = some (.lst (w.map V.int)) → IsWay ps w r → w.length ≤ 1000 → w.Nodup → Q (.ref l) H'
def spx_way_to (K : PySem.W.Frag) (C : Addr) (x : XA) : Sp := fun vs H Q E => ∃ (y : Addr) (r n : Int) (ps : List (Int × Int)) (old : Hp), vs = [.ref y, .int r] ∧ NetAt C old H y n ps ∧ ((0 ≤ r ∧ r < n ∧ ¬ Rch ps (-1) r ∧ ∀ H', Same H H' → E (.ref x.Unreached) none H') ∨ (¬ (0 ≤ r ∧ r < n) ∧ ∀ H', Same H H' → E (.ref x.NoRoom) none H'))
def spo_way_to (K : PySem.W.Frag) (C : Addr) (x : XA) : Sp := fun vs H Q E => sp_way_to K C vs H Q E ∨ spx_way_to K C x vs H Q E
def sp_way_past (K : PySem.W.Frag) (C : Addr) : Sp := fun vs H Q _ => ∃ (x : Addr) (r o n : Int) (ps : List (Int × Int)) (old : Hp), vs = [.ref x, .int r, .int o] ∧ NetAt C old H x n ps ∧ 0 ≤ o ∧ o < n ∧ Rch ps (-1) r ∧
  (∀ l w H', Same H H' → H l = none → H' l = some (.lst (w.map V.int)) → IsWay ps w r → (∀ y ∈ w, y ≠ o) → w.length ≤ 1000 → Rch ps o r → Q (.ref l) H') ∧ ∀ H', Same H H' → ¬ Rch ps o r → Q .non H'
def spx_way_past (K : PySem.W.Frag) (C : Addr) (x : XA) : Sp := fun vs H Q E => ∃ (y : Addr) (r o n : Int) (ps : List (Int × Int)) (old : Hp), vs = [.ref y, .int r, .int o] ∧ NetAt C old H y n ps ∧ ((¬ (0 ≤ o ∧ o < n) ∧ ∀ H', Same H H' → E (.ref x.NoRoom) none H') ∨ (0 ≤ o ∧ o < n ∧ ((0 ≤ r ∧ r < n ∧ ¬ Rch ps (-1) r ∧ ∀ H', Same H H' → E (.ref x.Unreached) none H') ∨ (¬ (0 ≤ r ∧ r < n) ∧ ∀ H', Same H H' → E (.ref x.NoRoom) none H'))))
def spo_way_past (K : PySem.W.Frag) (C : Addr) (x : XA) : Sp := fun vs H Q E => sp_way_past K C vs H Q E ∨ spx_way_past K C x vs H Q E
def sp_law_cell_at (K : PySem.W.Frag) (C : Addr) : Sp := fun vs H Q _ => ∃ (a : Addr) (ns : List Int) (k : Nat), vs = [.ref a, .int k] ∧ SqL K H a (ns.map V.int) ∧ Q (.int (cell ns k)) H
def sp_law_net (K : PySem.W.Frag) (C : Addr) : Sp := fun vs H Q _ => ∃ (a : Addr) (ns : List Int) (at_ : Nat) (most extra : Int), vs = [.ref a, .int at_, .int most, .int extra] ∧ SqL K H a (ns.map V.int) ∧ 0 < most ∧ most ≤ 40 ∧ 0 ≤ extra ∧ extra ≤ 100 ∧
  ∀ t l xs H', Same H H' → H t = none → H l = none → H' t = some (.tup [.int (manyOf ns at_ most), .ref l]) → H' l = some (.lst xs) → PairsV H' (doorsOf ns at_ most extra) xs → Q (.ref t) H'
def sp_law (K : PySem.W.Frag) (C : Addr) : Sp := fun vs H Q _ => ∃ (a : Addr) (ns : List Int), vs = [.ref a] ∧ SqL K H a (ns.map V.int) ∧ ns.length ≤ 63 ∧ ∀ H', Q (.bl true) H'
end L3
end
section
namespace L3
open PySem PySem.Spec PyProof.Rows L2 Mp
def tr_trace_way (w : World) (K : PySem.W.Frag) (C : Addr) : TS :=
    (tSeq (tAsg (tLst tNil) (gName 2))
      (tSeq (tAsg (tVar 1) (gName 3))
      (tSeq (tWhile (tB (tNotN (tVar 3))) (tSeq (tDrop (tBM K "list" (rAppend) (tVar 2) (tCons (tVar 3) tNil)))
        (tAsg (tDGet (tVar 0) (tVar 3)) (gName 3))))
      (tSeq (tDrop (tBM0 K "list" rReverse (tVar 2)))
      (tRet (tVar 2))))))
theorem ks_take_le {tr : Tr} {i j : Nat} (h : i ≤ j) {k : Int} (hk : k ∈ ks (tr.take i)) : k ∈ ks (tr.take j) := by
  obtain ⟨n, p, hn, e⟩ := ks_take hk
  refine mem_ks (i := n) (p := p) ?_
  rw [List.getElem?_take_of_lt (by omega)]
  exact e
theorem ks_take_not {tr : Tr} {j : Nat} {k : Int} {p : Option Int} (nd : (ks tr).Nodup) (e : tr[j]? = some (k, p)) : k ∉ ks (tr.take j) := fun hk => by
  obtain ⟨i, q, hi, e2⟩ := ks_take hk
  have h1 : (ks tr)[j]? = some k := by unfold ks; rw [List.getElem?_map, e]; rfl
  have h2 : (ks tr)[i]? = some k := by unfold ks; rw [List.getElem?_map, e2]; rfl
  obtain ⟨l1, q1⟩ := List.getElem?_eq_some_iff.mp h1
  obtain ⟨l2, q2⟩ := List.getElem?_eq_some_iff.mp h2
  have := (List.getElem_inj nd).mp (q1.trans q2.symm)
  omega
theorem ln_trace_way {K : PySem.W.Frag} {C : Addr} {vs : List V} {H : Hp} {Q : VK} {E : XK} (h : sp_trace_way K C vs H Q E) : vs.length = 2 := by
  obtain ⟨d, r, ps, z, tr, rfl, _⟩ := h
  rfl
theorem rd_trace_way {w : World} {K : PySem.W.Frag} {C : Addr} (T : TG K C) {vs : List V} {H : Hp} {Q : VK} {E : XK} (h : sp_trace_way K C vs H Q E) : tr_trace_way w K C { nx := fun _ H' => Q .non H', rt := Q } (start ["step_before", "room", "way", "place"] vs) H := by
  obtain ⟨d, r, ps, z, tr, rfl, hd, t, hr, hl, k⟩ := h
  refine ⟨Nat.zero_le _, fun l hnl => ?_⟩
  refine ⟨_, rfl, ?_⟩
  refine ⟨fun m σ H2 => ∃ (place : Option Int) (way : List Int), σ = [some (.ref d), some (.int r), some (.ref l), some (pv? place)] ∧ Same H H2 ∧ H2 l = some (.lst (way.map V.int)) ∧ Back ps r place way ∧ (∀ p, place = some p → p ∈ ks (tr.take m)) ∧
    (place = none → way.getLast? = some 0) ∧ (∀ y ∈ way, y ∈ ks tr) ∧ way.length + m ≤ tr.length ∧ way.Nodup ∧ (∀ y ∈ way, y ∉ ks (tr.take m)), ⟨tr.length, some r, [], rfl, Same.new hnl, upd_same, Back.first ps r, (fun p e => by cases e; rw [List.take_length]; exact hr), (fun e => by cases e), (fun y hy => by simp at hy), (by simp), (by simp), (fun y hy => by simp at hy)⟩, ?_⟩
  rintro m σ H2 ⟨place, way, rfl, e2, g2, B, hp, hn, hk, hm, wn, wt⟩
  refine ⟨_, rfl, _, rfl, ?_⟩
  cases place with
  | none =>
    refine iteF ⟨_, rfl, .inl ⟨rfl, _, SqL.of g2⟩, l, _, rfl, rfl, g2, _, rfl, k l way.reverse _ (Same.upd e2 hnl) hnl (by rw [upd_same, List.map_reverse]) ⟨B.walk, (by rw [List.head?_reverse]; exact hn rfl), B.last⟩ (fun y hy => hk y (List.mem_reverse.mp hy)) (by rw [List.length_reverse]; omega) ((List.reverse_perm way).nodup_iff.mpr wn)⟩
  | some p =>
    refine iteT ⟨fun σ' H' => ∃ m', m' < m ∧ ∃ (place : Option Int) (way : List Int), σ' = [some (.ref d), some (.int r), some (.ref l), some (pv? place)] ∧ Same H H' ∧ H' l = some (.lst (way.map V.int)) ∧ Back ps r place way ∧ (∀ p, place = some p → p ∈ ks (tr.take m')) ∧
      (place = none → way.getLast? = some 0) ∧ (∀ y ∈ way, y ∈ ks tr) ∧ way.length + m' ≤ tr.length ∧ way.Nodup ∧ (∀ y ∈ way, y ∉ ks (tr.take m')), fun _ _ h => h, ?_⟩
    obtain ⟨j, pp, hj, ej⟩ := ks_take (hp p rfl)
    refine ⟨_, rfl, .inl ⟨rfl, _, SqL.of g2⟩, _, rfl, l, _, .int p, rfl, rfl, g2, small1000 (by rw [List.length_map]; omega), ?_⟩
    have hd2 : upd H2 l (.lst (way.map V.int ++ [.int p])) d = some (.dK (kvOf tr)) := by rw [upd_ne (ne_of_none hd hnl)]; exact e2 _ _ hd
    have gg : DGet (upd H2 l (.lst (way.map V.int ++ [.int p]))) d (.int p) (some (pv? pp)) := by
      have q := DGet.k (k := Sum.inl p) hd2
      rw [valV_some t.nd ej] at q
      exact q
    refine ⟨_, rfl, _, rfl, d, _, rfl, gg, j, hj, pp, way ++ [p], rfl, Same.upd e2 hnl, (by rw [upd_same, List.map_append]; rfl), B.step (z := z) fun q e => ?_, fun q e => ?_, fun e => ?_, fun y hy => ?_, ?_, ?_, ?_⟩
    · subst e
      exact (t.two _ _ _ ej).2.1
    · subst e
      exact (t.two _ _ _ ej).1
    · subst e
      rw [t.one _ _ ej]
      simp
    · rcases List.mem_append.mp hy with h | h
      · exact hk y h
      · rw [List.mem_singleton] at h
        rw [h]
        exact mem_ks ej
    · rw [List.length_append, List.length_singleton]
      omega
    · rw [List.nodup_append]
      refine ⟨wn, by simp, fun a ha b hb z => ?_⟩
      rw [List.mem_singleton.mp hb] at z
      exact wt a ha (z ▸ hp p rfl)
    · intro y hy z
      rcases List.mem_append.mp hy with h | h
      · exact wt y h (ks_take_le (Nat.le_of_lt hj) z)
      · rw [List.mem_singleton.mp h] at z
        exact ks_take_not t.nd ej z
end L3
end
section
namespace L3
open PySem PySem.Spec PyProof.Rows L2 Mp
def tr_is_room (w : World) (K : PySem.W.Frag) (C : Addr) : TS :=
    (tRet (tChain (rI0 fun i j => .bl (decide (i ≤ j))) (rI0 fun i j => .bl (decide (i < j))) (tC (.int 0)) (tVar 1) (tVar 0)))
theorem ln_is_room {K : PySem.W.Frag} {C : Addr} {vs : List V} {H : Hp} {Q : VK} {E : XK} (h : sp_is_room K C vs H Q E) : vs.length = 2 := by
  obtain ⟨n, r, rfl, _⟩ := h
  rfl
theorem rd_is_room {w : World} {K : PySem.W.Frag} {C : Addr} (T : TG K C) {vs : List V} {H : Hp} {Q : VK} {E : XK} (h : sp_is_room K C vs H Q E) : tr_is_room w K C { nx := fun _ H' => Q .non H', rt := Q } (start ["rooms", "room"] vs) H := by
  obtain ⟨n, r, rfl, k⟩ := h
  -- return 0 <= room < rooms
  refine ⟨_, rfl, _, _, rfl, rfl, _, rfl, ?_⟩
  refine ite2 (fun h => ?_) (fun h => ?_)
  · refine ⟨_, rfl, _, _, rfl, rfl, ?_⟩
    rw [h, Bool.true_and] at k
    exact k
  · rw [Bool.eq_false_iff.mpr h, Bool.false_and] at k
    exact k
end L3
end
section
namespace L3
open PySem PySem.Spec PyProof.Rows L2 Mp
def tr_rooms_led_into (w : World) (K : PySem.W.Frag) (C : Addr) : TS :=
    (tRet (tCB (rSortedA w) (tCons (tCB (rSetOf w K) (tCons (tComp (iList K (tVar 0)) 2 [1] (gTup K 2 (gCons (gName 0) (gCons (gName 1) gNil))) (tTest (tOp rEq (tVar 0) (tVar 2))) (tVar 1)) tNil)) tNil)))
theorem ln_rooms_led_into {K : PySem.W.Frag} {C : Addr} {vs : List V} {H : Hp} {Q : VK} {E : XK} (h : sp_rooms_led_into K C vs H Q E) : vs.length = 2 := by
  obtain ⟨a, r, ps, xs, n, rfl, _⟩ := h
  rfl
theorem rd_rooms_led_into {w : World} {K : PySem.W.Frag} {C : Addr} (T : TG K C) {vs : List V} {H : Hp} {Q : VK} {E : XK} (h : sp_rooms_led_into K C vs H Q E) : tr_rooms_led_into w K C { nx := fun _ H' => Q .non H', rt := Q } (start ["doors", "room"] vs) H := by
  obtain ⟨a, r, ps, xs, n, rfl, hs, hp, ok, k⟩ := h
  refine ⟨_, rfl, a, rfl, ⟨_, hs⟩, comp_list (K := K) (a := a) (xs := xs) (fun i acc τ H2 => H2 = H ∧ (∃ u v, τ = [u, v, some (.int r)]) ∧ acc = (((ps.take i).filter fun p => decide (p.1 = r)).map (·.2)).map V.int)
    (by have := hp.length; have := ok.len; rw [sizeLine_eq]; omega) ⟨rfl, ⟨none, none, rfl⟩, rfl⟩ ?_ ?_ ?_⟩
  · rintro i acc τ H2 hi ⟨rfl, _, rfl⟩
    refine ⟨hs, ?_⟩
    rw [List.length_map, List.length_map]
    exact Nat.le_trans (List.length_filter_le _ _) (by rw [List.length_take]; omega)
  · rintro i y acc τ H2 hi ⟨rfl, ⟨u, v, rfl⟩, rfl⟩
    obtain ⟨p, hpi, t, rfl, ht⟩ := pairs_get hp hi
    have et : ps.take (i + 1) = ps.take i ++ [p] := by rw [List.take_add_one, hpi]; rfl
    refine ⟨t, _, rfl, SqT.of ht, rfl, _, _, rfl, _, _, rfl, rfl, ?_⟩
    refine ⟨_, rfl, _, rfl, rfl, _, rfl, ?_⟩
    refine ite2 (fun h => ?_) (fun h => ?_)
    · have hq : p.1 = r := by injection (of_decide_eq_true h)
      refine ⟨_, rfl, rfl, ⟨_, _, rfl⟩, ?_⟩
      rw [et, List.filter_append, List.map_append, List.map_append]
      simp [hq]
    · have hq : ¬ p.1 = r := fun z => h (by rw [z]; exact decide_eq_true rfl)
      refine ⟨rfl, ⟨_, _, rfl⟩, ?_⟩
      rw [et, List.filter_append, List.map_append, List.map_append]
      simp [hq]
  · rintro acc τ H2 ⟨rfl, _, rfl⟩ q hq
    have el : xs.length = ps.length := hp.length.symm
    rw [el, List.take_length]
    have hsm := (ok.ends fun p => decide (p.1 = r)).1
    refine ⟨q, _, rfl, SqL.of upd_same, ?_, fun l hl => ⟨l, _, rfl, upd_same, ded_small ok.lo ok.hi hsm, fun p H' e n g => k p H' (((Same.new hq).trans (Same.new hl)).trans e) (((Same.new hq).trans (Same.new hl)).free n) g⟩⟩
    have := ok.len
    have := List.length_filter_le (fun p : Int × Int => decide (p.1 = r)) ps
    rw [List.length_map]
    unfold scanBound
    omega
end L3
end
section
namespace L3
open PySem PySem.Spec PyProof.Rows L2 Mp
def tr_rooms_led_from (w : World) (K : PySem.W.Frag) (C : Addr) : TS :=
    (tRet (tCB (rSortedA w) (tCons (tCB (rSetOf w K) (tCons (tComp (iList K (tVar 0)) 2 [1] (gTup K 2 (gCons (gName 0) (gCons (gName 1) gNil))) (tTest (tOp rEq (tVar 1) (tVar 2))) (tVar 0)) tNil)) tNil)))
theorem ln_rooms_led_from {K : PySem.W.Frag} {C : Addr} {vs : List V} {H : Hp} {Q : VK} {E : XK} (h : sp_rooms_led_from K C vs H Q E) : vs.length = 2 := by
  obtain ⟨a, r, ps, xs, n, rfl, _⟩ := h
  rfl
theorem rd_rooms_led_from {w : World} {K : PySem.W.Frag} {C : Addr} (T : TG K C) {vs : List V} {H : Hp} {Q : VK} {E : XK} (h : sp_rooms_led_from K C vs H Q E) : tr_rooms_led_from w K C { nx := fun _ H' => Q .non H', rt := Q } (start ["doors", "room"] vs) H := by
  obtain ⟨a, r, ps, xs, n, rfl, hs, hp, ok, k⟩ := h
  refine ⟨_, rfl, a, rfl, ⟨_, hs⟩, comp_list (K := K) (a := a) (xs := xs) (fun i acc τ H2 => H2 = H ∧ (∃ u v, τ = [u, v, some (.int r)]) ∧ acc = (((ps.take i).filter fun p => decide (p.2 = r)).map (·.1)).map V.int)
    (by have := hp.length; have := ok.len; rw [sizeLine_eq]; omega) ⟨rfl, ⟨none, none, rfl⟩, rfl⟩ ?_ ?_ ?_⟩
  · rintro i acc τ H2 hi ⟨rfl, _, rfl⟩
    refine ⟨hs, ?_⟩
    rw [List.length_map, List.length_map]
    exact Nat.le_trans (List.length_filter_le _ _) (by rw [List.length_take]; omega)
  · rintro i y acc τ H2 hi ⟨rfl, ⟨u, v, rfl⟩, rfl⟩
    obtain ⟨p, hpi, t, rfl, ht⟩ := pairs_get hp hi
    have et : ps.take (i + 1) = ps.take i ++ [p] := by rw [List.take_add_one, hpi]; rfl
    refine ⟨t, _, rfl, SqT.of ht, rfl, _, _, rfl, _, _, rfl, rfl, ?_⟩
    refine ⟨_, rfl, _, rfl, rfl, _, rfl, ?_⟩
    refine ite2 (fun h => ?_) (fun h => ?_)
    · have hq : p.2 = r := by injection (of_decide_eq_true h)
      refine ⟨_, rfl, rfl, ⟨_, _, rfl⟩, ?_⟩
      rw [et, List.filter_append, List.map_append, List.map_append]
      simp [hq]
    · have hq : ¬ p.2 = r := fun z => h (by rw [z]; exact decide_eq_true rfl)
      refine ⟨rfl, ⟨_, _, rfl⟩, ?_⟩
      rw [et, List.filter_append, List.map_append, List.map_append]
      simp [hq]
  · rintro acc τ H2 ⟨rfl, _, rfl⟩ q hq
    have el : xs.length = ps.length := hp.length.symm
    rw [el, List.take_length]
    have hsm := (ok.ends fun p => decide (p.2 = r)).2
    refine ⟨q, _, rfl, SqL.of upd_same, ?_, fun l hl => ⟨l, _, rfl, upd_same, ded_small ok.lo ok.hi hsm, fun p H' e n g => k p H' (((Same.new hq).trans (Same.new hl)).trans e) (((Same.new hq).trans (Same.new hl)).free n) g⟩⟩
    have := ok.len
    have := List.length_filter_le (fun p : Int × Int => decide (p.2 = r)) ps
    rw [List.length_map]
    unfold scanBound
    omega
end L3
end
section
namespace L3
open PySem PySem.Spec PyProof.Rows L2 Mp
def tr_Net_rooms (w : World) (K : PySem.W.Frag) (C : Addr) : TS :=
    (tRet (tFld K (tVar 0) "size"))
theorem ln_Net_rooms {K : PySem.W.Frag} {C : Addr} {vs : List V} {H : Hp} {Q : VK} {E : XK} (h : sp_Net_rooms K C vs H Q E) : vs.length = 1 := by
  obtain ⟨x, n, ps, old, rfl, _⟩ := h
  rfl
theorem rd_Net_rooms {w : World} {K : PySem.W.Frag} {C : Addr} (T : TG K C) {vs : List V} {H : Hp} {Q : VK} {E : XK} (h : sp_Net_rooms K C vs H Q E) : tr_Net_rooms w K C { nx := fun _ H' => Q .non H', rt := Q } (start ["self"] vs) H := by
  obtain ⟨x, n, ps, old, rfl, N, k⟩ := h
  obtain ⟨⟨dx, pl, on, bk, xs, os, bs, h1, _⟩, ok⟩ := id N
  exact ⟨_, rfl, x, C, dx, _, _, rfl, h1, T.cl, T.n_size, flds_size _ _ _ _, k⟩
end L3
end
section
namespace L3
open PySem PySem.Spec PyProof.Rows L2 Mp
def tr_Net_doors (w : World) (K : PySem.W.Frag) (C : Addr) : TS :=
    (tRet (tCB (rListOf K) (tCons (tFld K (tVar 0) "pairs") tNil)))
theorem ln_Net_doors {K : PySem.W.Frag} {C : Addr} {vs : List V} {H : Hp} {Q : VK} {E : XK} (h : sp_Net_doors K C vs H Q E) : vs.length = 1 := by
  obtain ⟨x, n, ps, old, rfl, _⟩ := h
  rfl
theorem rd_Net_doors {w : World} {K : PySem.W.Frag} {C : Addr} (T : TG K C) {vs : List V} {H : Hp} {Q : VK} {E : XK} (h : sp_Net_doors K C vs H Q E) : tr_Net_doors w K C { nx := fun _ H' => Q .non H', rt := Q } (start ["self"] vs) H := by
  obtain ⟨x, n, ps, old, rfl, N, k⟩ := h
  obtain ⟨⟨dx, pl, on, bk, xs, os, bs, h1, h2, h3, _⟩, ok⟩ := id N
  exact ⟨_, rfl, x, C, dx, _, _, rfl, h1, T.cl, T.n_pairs, flds_pairs _ _ _ _, pl, xs, rfl, .inl (SqL.of h2), fun l hl => k l xs hl h3⟩
end L3
end
section
namespace L3
open PySem PySem.Spec PyProof.Rows L2 Mp
def tr_law_cell_at (w : World) (K : PySem.W.Frag) (C : Addr) : TS :=
    (tSeq (tIfS (tTest (tOp (rI0 fun i j => .bl (decide (i < j))) (tVar 1) (tCB (rLenS K) (tCons (tVar 0) tNil)))) (tRet (tOp (rIxL K) (tVar 0) (tVar 1))) tNext)
      (tRet (tC (.int 0))))
theorem ln_law_cell_at {K : PySem.W.Frag} {C : Addr} {vs : List V} {H : Hp} {Q : VK} {E : XK} (h : sp_law_cell_at K C vs H Q E) : vs.length = 2 := by
  obtain ⟨a, ns, k, rfl, _⟩ := h
  rfl
theorem rd_law_cell_at {w : World} {K : PySem.W.Frag} {C : Addr} (T : TG K C) {vs : List V} {H : Hp} {Q : VK} {E : XK} (h : sp_law_cell_at K C vs H Q E) : tr_law_cell_at w K C { nx := fun _ H' => Q .non H', rt := Q } (start ["script", "k"] vs) H := by
  obtain ⟨a, ns, k, rfl, hs, q⟩ := h
  refine ⟨_, rfl, _, rfl, a, _, rfl, .inl hs, _, _, rfl, rfl, _, rfl, ?_⟩
  refine ite2 (fun h => ?_) (fun h => ?_)
  · have h' : k < ns.length := by have z := of_decide_eq_true h; rw [List.length_map] at z; omega
    refine ⟨_, rfl, _, rfl, a, _, _, .int (cell ns k), rfl, rfl, hs, atI_nat ?_, q⟩
    unfold cell
    rw [List.getElem?_map, List.getElem?_eq_getElem h']
    simp [List.getD, h']
  · have h' : ns.length ≤ k := by
      rcases Nat.lt_or_ge k ns.length with z | z
      · exact absurd (decide_eq_true (by rw [List.length_map]; omega)) h
      · exact z
    unfold cell at q
    have z : ns.getD k 0 = 0 := by simp [List.getD, List.getElem?_eq_none h']
    rw [z] at q
    exact q
end L3
end
section
namespace L3
open PySem PySem.Spec PyProof.Rows L2 Mp
end L3
namespace L3
open PySem PySem.Spec PyProof.Rows L2 Mp
end L3
end
section
namespace Mp
def Dom (ps : List (Int × Int)) (g r : Int) : Prop := Rch ps (-1) r ∧ ¬ Rch ps g r
section
variable {ps : List (Int × Int)}
theorem Rch.any' (ok : ∀ p ∈ ps, 0 ≤ p.2) {z k : Int} (h : Rch ps z k) : Rch ps (-1) k := h.any (by omega) ok
theorem Dom.self {r : Int} (h : Rch ps (-1) r) : Dom ps r r := ⟨h, fun z => z.ne rfl⟩
theorem Dom.zero {r : Int} (h : Rch ps (-1) r) : Dom ps 0 r := ⟨h, fun z => Rch.closed (S := fun _ => False) (fun h => (h rfl).elim) (fun _ _ h _ _ => h) z⟩
theorem dom_way {g r : Int} : Dom ps g r ↔ Rch ps (-1) r ∧ ∀ l, IsWay ps l r → g ∈ l := by
  constructor
  · rintro ⟨h, n⟩
    refine ⟨h, fun l w => ?_⟩
    by_cases z : g ∈ l
    · exact z
    · exact absurd (w.rch (z := g) fun x hx e => z (by rw [← e]; exact hx)) n
  · rintro ⟨h, a⟩
    refine ⟨h, fun z => ?_⟩
    obtain ⟨l, w, av⟩ := z.way
    exact av g (a l w) rfl
theorem IsWay.all {z k : Int} {l : List Int} (w : IsWay ps l k) (hz : ∀ x ∈ l, x ≠ z) {x : Int} (hx : x ∈ l) : Rch ps z x := by
  refine Walk.rch w.walk hz (fun a ha => ?_) x hx
  rw [w.head] at ha
  cases ha
  exact .start fun e => hz 0 (by have := w.head; cases l with | nil => simp at this | cons c r => simp at this; simp [this]) e.symm
theorem Dom.reached (ok : ∀ p ∈ ps, 0 ≤ p.2) {g r : Int} (h : Dom ps g r) : Rch ps (-1) g := by
  obtain ⟨l, w, _⟩ := h.1.way
  have m := (dom_way.mp h).2 l w
  have av : ∀ x ∈ l, x ≠ -1 := by
    intro x hx e
    obtain ⟨l', w', av'⟩ := h.1.way
    subst e
    have hw := w.walk
    have hh := w.head
    -- -1 has no door into it
    have key : ∀ (l : List Int), Walk ps l → (∀ a, l.head? = some a → a ≠ -1) → ∀ x ∈ l, x ≠ -1 := by
      intro l
      induction l with
      | nil => intro _ _ x hx; simp at hx
      | cons a t ih =>
        intro hw h0 x hx
        rcases List.mem_cons.mp hx with e | hx
        · rw [e]; exact h0 a rfl
        · cases t with
          | nil => simp at hx
          | cons b t =>
            refine ih hw.2 (fun c hc => ?_) x hx
            simp at hc
            subst hc
            have := ok _ hw.1
            dsimp at this
            omega
    exact key l hw (fun a ha => by rw [hh] at ha; cases ha; omega) _ hx rfl
  exact w.all av m
theorem Dom.trans {a b c : Int} (h1 : Dom ps a b) (h2 : Dom ps b c) : Dom ps a c := by
  refine ⟨h2.1, fun z => ?_⟩
  obtain ⟨l, w, av⟩ := z.way
  exact h1.2 (w.all av ((dom_way.mp h2).2 l w))
theorem Walk.tail {a : Int} {t : List Int} (h : Walk ps (a :: t)) : Walk ps t := by
  cases t with
  | nil => trivial
  | cons b r => exact h.2
theorem Walk.append_left : ∀ {l m : List Int}, Walk ps (l ++ m) → Walk ps l
  | [], _, _ => trivial
  | [_], _, _ => trivial
  | a :: b :: r, m, h => ⟨h.1, Walk.append_left (l := b :: r) (m := m) h.2⟩
theorem Walk.append_right : ∀ {l m : List Int}, Walk ps (l ++ m) → Walk ps m
  | [], _, h => h
  | a :: r, m, h => Walk.append_right (l := r) (m := m) (Walk.tail h)
theorem Walk.join : ∀ {l m : List Int} {x : Int}, Walk ps (l ++ [x]) → Walk ps (x :: m) → Walk ps (l ++ x :: m)
  | [], m, x, _, h => h
  | [a], m, x, h1, h2 => ⟨h1.1, h2⟩
  | a :: b :: r, m, x, h1, h2 => ⟨h1.1, Walk.join (l := b :: r) (m := m) h1.2 h2⟩
theorem split_first {x : Int} : ∀ {l : List Int}, x ∈ l → ∃ a b, l = a ++ x :: b ∧ x ∉ a
  | [], h => by simp at h
  | y :: r, h => by
    by_cases e : y = x
    · exact ⟨[], r, by rw [e]; rfl, by simp⟩
    · have h' : x ∈ r := by
        rcases List.mem_cons.mp h with z | z
        · exact absurd z.symm e
        · exact z
      obtain ⟨a, b, e1, e2⟩ := split_first h'
      refine ⟨y :: a, b, by rw [e1]; rfl, fun z => ?_⟩
      rcases List.mem_cons.mp z with z | z
      · exact e z.symm
      · exact e2 z
theorem split_last (P : Int → Prop) : ∀ {l : List Int}, (∃ x ∈ l, P x) → ∃ a x b, l = a ++ x :: b ∧ P x ∧ ∀ y ∈ b, ¬ P y
  | [], ⟨_, h, _⟩ => by simp at h
  | y :: r, h => by
    by_cases e : ∃ x ∈ r, P x
    · obtain ⟨a, x, b, e1, e2, e3⟩ := split_last P e
      exact ⟨y :: a, x, b, by rw [e1]; rfl, e2, e3⟩
    · obtain ⟨x, hx, px⟩ := h
      have : x = y := by
        rcases List.mem_cons.mp hx with z | z
        · exact z
        · exact absurd ⟨x, z, px⟩ e
      subst this
      exact ⟨[], x, r, rfl, px, fun z hz pz => e ⟨z, hz, pz⟩⟩
theorem IsWay.upto {k x : Int} {a b : List Int} (w : IsWay ps (a ++ x :: b) k) : IsWay ps (a ++ [x]) x := by
  refine ⟨?_, ?_, by simp⟩
  · have h := w.walk
    rw [show a ++ x :: b = (a ++ [x]) ++ b by simp] at h
    exact h.append_left
  · have h := w.head
    cases a with
    | nil => simpa using h
    | cons c r => simpa using h
theorem IsWay.onto {k x : Int} {l a b : List Int} (w : IsWay ps l x) (v : IsWay ps (a ++ x :: b) k) : IsWay ps (l ++ b) k := by
  have hl : l ≠ [] := fun e => by have := w.head; rw [e] at this; cases this
  have el : l = l.dropLast ++ [x] := by
    have e := List.dropLast_concat_getLast hl
    have g := w.last
    rw [List.getLast?_eq_some_getLast hl] at g
    have g := Option.some.inj g
    rw [g] at e
    exact e.symm
  have w1 := w.walk
  rw [el] at w1
  have w2 : Walk ps (x :: b) := v.walk.append_right
  refine ⟨?_, ?_, ?_⟩
  · rw [el, List.append_assoc]
    exact Walk.join w1 w2
  · have h := w.head
    cases l with
    | nil => exact absurd rfl hl
    | cons c r => simpa using h
  · have h := v.last
    rw [List.getLast?_append] at h ⊢
    cases b with
    | nil =>
      simp at h ⊢
      rw [w.last, h]
    | cons c r =>
      simp at h ⊢
      rw [List.getLast?_eq_some_getLast (by simp)] at h ⊢
      simpa using h
theorem Dom.chain (ok : ∀ p ∈ ps, 0 ≤ p.2) {a b c : Int} (h1 : Dom ps a c) (h2 : Dom ps b c) : Dom ps a b ∨ Dom ps b a := by
  by_cases ha : Rch ps a b
  · by_cases hb : Rch ps b a
    · exfalso
      obtain ⟨u, wu, au⟩ := ha.way
      obtain ⟨v, wv, av⟩ := hb.way
      obtain ⟨l, w, _⟩ := h1.1.way
      have m := (dom_way.mp h1).2 l w
      obtain ⟨p, x, q, e, px, nq⟩ := split_last (fun y => y = a ∨ y = b) ⟨a, m, .inl rfl⟩
      subst e
      rcases px with rfl | rfl
      · have z := IsWay.onto wv w
        have := (dom_way.mp h2).2 _ z
        rcases List.mem_append.mp this with h | h
        · exact av _ h rfl
        · exact nq _ h (.inr rfl)
      · have z := IsWay.onto wu w
        have := (dom_way.mp h1).2 _ z
        rcases List.mem_append.mp this with h | h
        · exact au _ h rfl
        · exact nq _ h (.inl rfl)
    · exact .inr ⟨h1.reached ok, hb⟩
  · exact .inl ⟨h2.reached ok, ha⟩
theorem Dom.anti {a b : Int} (h1 : Dom ps a b) (h2 : Dom ps b a) : a = b := by
  by_cases e : a = b
  · exact e
  exfalso
  -- ways to a grow shorter without end
  have key : ∀ (n : Nat) (l : List Int), l.length ≤ n → ¬ IsWay ps l a := by
    intro n
    induction n with
    | zero =>
      intro l hl w
      cases l with
      | nil => have := w.head; cases this
      | cons c r => simp at hl
    | succ n ih =>
      intro l hl w
      have m := (dom_way.mp h2).2 l w
      obtain ⟨p, q, e1, _⟩ := split_first m
      subst e1
      have wb := w.upto
      have m2 := (dom_way.mp h1).2 _ wb
      obtain ⟨p', q', e2, _⟩ := split_first m2
      have hq : q ≠ [] := fun z => by
        have := w.last
        rw [z] at this
        simp at this
        exact e this.symm
      have wa : IsWay ps (p' ++ [a]) a := by
        rw [e2] at wb
        exact wb.upto
      refine ih _ ?_ wa
      have l1 := congrArg List.length e2
      simp at l1 hl ⊢
      have : 0 < q.length := List.length_pos_iff.mpr hq
      omega
  obtain ⟨l, w, _⟩ := h2.1.way
  exact key l.length l (Nat.le_refl _) w
end
theorem pairwise_uniq {α : Type} {R : α → α → Prop} (anti : ∀ a b, R a b → R b a → a = b) : ∀ {l m : List α}, l.Nodup → m.Nodup → (∀ x, x ∈ l ↔ x ∈ m) → l.Pairwise R → m.Pairwise R → l = m
  | [], m, _, _, h, _, _ => by
    cases m with
    | nil => rfl
    | cons a r => exact absurd ((h a).mpr (by simp)) (by simp)
  | a :: r, [], _, _, h, _, _ => absurd ((h a).mp (by simp)) (by simp)
  | a :: r, b :: s, n1, n2, h, p1, p2 => by
    have n1' := List.nodup_cons.mp n1
    have n2' := List.nodup_cons.mp n2
    have p1' := List.pairwise_cons.mp p1
    have p2' := List.pairwise_cons.mp p2
    have e : a = b := by
      by_cases z : a = b
      · exact z
      have h1 : a ∈ s := by
        rcases List.mem_cons.mp ((h a).mp (by simp)) with y | y
        · exact absurd y z
        · exact y
      have h2 : b ∈ r := by
        rcases List.mem_cons.mp ((h b).mpr (by simp)) with y | y
        · exact absurd y.symm z
        · exact y
      exact anti a b (p1'.1 b h2) (p2'.1 a h1)
    subst e
    congr 1
    refine pairwise_uniq anti n1'.2 n2'.2 (fun x => ⟨fun hx => ?_, fun hx => ?_⟩) p1'.2 p2'.2
    · rcases List.mem_cons.mp ((h x).mp (List.mem_cons_of_mem _ hx)) with y | y
      · exact absurd (y ▸ hx) n1'.1
      · exact y
    · rcases List.mem_cons.mp ((h x).mpr (List.mem_cons_of_mem _ hx)) with y | y
      · exact absurd (y ▸ hx) n2'.1
      · exact y
/-- the guards of r, one behind the other as they guard one another -/
structure IsGuards (ps : List (Int × Int)) (r : Int) (l : List Int) : Prop where
  nd : l.Nodup
  mem : ∀ g, g ∈ l ↔ Dom ps g r
  ord : l.Pairwise (Dom ps)
end Mp
end
section
namespace L3
open PySem PySem.Spec PyProof.Rows L2 Mp
theorem comp_lst_pure {K : PySem.W.Frag} {H : Hp} {l : Addr} {α : Type} {xs : List V} {ys : List α} {caps : L2.St} {τ : L2.St} {tt : TT} {te : TE} {Q : VK} (R : α → V → Prop) (p : α → Bool) (f : α → V) (hl : SqL K H l xs) (hz : xs.length ≤ sizeLine) (hn : ys.length = xs.length)
    (hR : ∀ (i : Nat) v, xs[i]? = some v → ∃ y, ys[i]? = some y ∧ R y v) (hτ : τ = none :: caps)
    (ht : ∀ (y : α) (v : V) (P : Bool → Hp → Prop), y ∈ ys → R y v → P (p y) H → tt (some v :: caps) H P)
    (he : ∀ (y : α) (v : V) (P : VK), y ∈ ys → R y v → p y = true → P (f y) H → te (some v :: caps) H P)
    (hq : ∀ a, H a = none → Q (.ref a) (upd H a (.lst ((ys.filter p).map f)))) :
    ∃ W : Nat → Nat → List V → L2.St → Hp → Prop, (∃ c, W 0 c [] τ H) ∧ CompStep (Itl K l) (gName 0) tt te Q W := by
  refine comp_list (fun i acc τ H2 => H2 = H ∧ (∃ u, τ = u :: caps) ∧ acc = ((ys.take i).filter p).map f) hz ⟨rfl, ⟨none, hτ⟩, rfl⟩ ?_ ?_ ?_
  · rintro i acc τ H2 hi ⟨rfl, _, rfl⟩
    refine ⟨hl, ?_⟩
    rw [List.length_map]
    exact Nat.le_trans (List.length_filter_le _ _) (by rw [List.length_take]; omega)
  · rintro i x acc τ H2 hi ⟨rfl, ⟨u, rfl⟩, rfl⟩
    obtain ⟨y, hy, ry⟩ := hR i x hi
    have hm := List.mem_of_getElem? hy
    refine ht y x _ hm ry (ite2 (fun h => he y x _ hm ry h ⟨rfl, ⟨_, rfl⟩, ?_⟩) fun h => ⟨rfl, ⟨_, rfl⟩, ?_⟩)
    · rw [take_snoc hy, List.filter_append, List.map_append, List.filter_cons, if_pos h]
      rfl
    · rw [take_snoc hy, List.filter_append, List.map_append, List.filter_cons, if_neg h]
      exact (List.append_nil _).symm
  · rintro acc τ H2 ⟨rfl, _, rfl⟩ a ha
    rw [List.take_of_length_le (by omega)]
    exact hq a ha
theorem comp_int_pure {K : PySem.W.Frag} {H : Hp} {l : Addr} {ys : List Int} {caps : L2.St} {τ : L2.St} {tt : TT} {te : TE} {Q : VK} (p : Int → Bool) (f : Int → V) (hl : SqL K H l (ys.map V.int)) (hz : ys.length ≤ 1000) (hτ : τ = none :: caps)
    (ht : ∀ (y : Int) (P : Bool → Hp → Prop), y ∈ ys → P (p y) H → tt (some (.int y) :: caps) H P)
    (he : ∀ (y : Int) (P : VK), y ∈ ys → p y = true → P (f y) H → te (some (.int y) :: caps) H P)
    (hq : ∀ a, H a = none → Q (.ref a) (upd H a (.lst ((ys.filter p).map f)))) :
    ∃ W : Nat → Nat → List V → L2.St → Hp → Prop, (∃ c, W 0 c [] τ H) ∧ CompStep (Itl K l) (gName 0) tt te Q W :=
  comp_lst_pure (fun y v => v = .int y) p f hl (by rw [List.length_map, sizeLine_eq]; omega) (by rw [List.length_map]) (fun i v h => by
    rw [List.getElem?_map] at h
    cases e : ys[i]? with
    | none => rw [e] at h; cases h
    | some y => rw [e] at h; cases h; exact ⟨y, rfl, rfl⟩) hτ (fun y v P hm e h => by subst e; exact ht y P hm h) (fun y v P hm e hp h => by subst e; exact he y P hm hp h) hq
noncomputable def domB (ps : List (Int × Int)) (g k : Int) : Bool := rch ps (-1) k && !rch ps g k
theorem domB_iff {ps : List (Int × Int)} {g k : Int} : domB ps g k = true ↔ Dom ps g k := by
  unfold domB Dom
  rw [Bool.and_eq_true, rch_iff, Bool.not_eq_true', ← Bool.not_eq_true, rch_iff]
noncomputable def domRow (n : Int) (ps : List (Int × Int)) (g : Int) : List Bool := (rooms n).map (domB ps g)
def TabAt (H : Hp) (n : Int) (ps : List (Int × Int)) (t : Addr) : Prop :=
  ∃ rs : List Addr, H t = some (.lst (rs.map V.ref)) ∧ rs.length = n.toNat ∧ ∀ (i : Nat) r, rs[i]? = some r → H r = some (.lst ((domRow n ps (i : Int)).map V.bl))
theorem TabAt.same {H H' : Hp} {n : Int} {ps : List (Int × Int)} {t : Addr} (h : TabAt H n ps t) (e : Same H H') : TabAt H' n ps t := by
  obtain ⟨rs, a, b, c⟩ := h
  exact ⟨rs, e _ _ a, b, fun i r hr => e _ _ (c i r hr)⟩
theorem TabAt.row {H : Hp} {n : Int} {ps : List (Int × Int)} {t : Addr} (h : TabAt H n ps t) {g : Int} (g0 : 0 ≤ g) (g1 : g < n) :
    ∃ (vs : List V) (r : Addr), H t = some (.lst vs) ∧ vs.length = n.toNat ∧ atI vs g = some (.ref r) ∧ H r = some (.lst ((domRow n ps g).map V.bl)) := by
  obtain ⟨rs, a, b, c⟩ := h
  have hl : g.toNat < rs.length := by omega
  have hg : rs[g.toNat]? = some rs[g.toNat] := List.getElem?_eq_getElem hl
  refine ⟨_, rs[g.toNat], a, by rw [List.length_map, b], atI_int g0 (map_get hg), ?_⟩
  have := c _ _ hg
  rwa [show ((g.toNat : Nat) : Int) = g by omega] at this
theorem atI_neg2 {α : Type} (m : List α) (g r : α) : atI (m ++ [g, r]) (-2) = some g := by
  unfold atI ixN
  rw [if_neg (by decide), if_pos (by simp; omega)]
  have : (-2 + ((m ++ [g, r]).length : Int)).toNat = m.length := by simp; omega
  rw [this]
  simp
theorem inV_int {x : Int} {ns : List Int} : inV (.int x) (ns.map V.int) = decide (x ∈ ns) := by
  unfold inV
  rw [List.any_map, Bool.eq_iff_iff, List.any_eq_true, decide_eq_true_iff]
  constructor
  · rintro ⟨y, hy, e⟩
    have : y = x := by simpa [eqV] using e
    rw [← this]; exact hy
  · intro h
    exact ⟨x, h, by simp [eqV]⟩
theorem flat_ints : ∀ ns : List Int, (ns.map V.int).all flatV = true
  | [] => rfl
  | _ :: r => by rw [List.map_cons, List.all_cons, flat_ints r]; rfl
theorem domB_not {ps : List (Int × Int)} {g k : Int} : domB ps g k = false ↔ ¬ Dom ps g k := by rw [← Bool.not_eq_true, domB_iff]
theorem in_int {x : Int} {ns : List Int} : (if false = true then !inV (.int x) (ns.map V.int) else inV (.int x) (ns.map V.int)) = decide (x ∈ ns) := by rw [if_neg (by decide), inV_int]
theorem notin_int {x : Int} {ns : List Int} : (if true = true then !inV (.int x) (ns.map V.int) else inV (.int x) (ns.map V.int)) = !decide (x ∈ ns) := by rw [if_pos rfl, inV_int]
theorem OkNet.guards {n : Int} {ps : List (Int × Int)} (o : OkNet n ps) {r : Int} {l : List Int} (G : IsGuards ps r l) : l.length ≤ 40 := by
  have := o.hi
  have := o.lo
  have q := nodup_small n.toNat l G.nd fun x hx => by
    have := o.lt (((G.mem x).mp hx).reached fun p hp => (o.ok p hp).2.2.1)
    omega
  omega
noncomputable def edgeB (ps : List (Int × Int)) (r o : Int) : Bool := decide (0 < (ps.filter fun p => decide (p.2 = o) && domB ps r p.1).length) && (decide (o = r) || !domB ps r o)
noncomputable def edgeL (n : Int) (ps : List (Int × Int)) (r : Int) : List Int := (rooms n).filter (edgeB ps r)
theorem edge_iff {ps : List (Int × Int)} {r o : Int} : edgeB ps r o = true ↔ (∃ k, (k, o) ∈ ps ∧ Dom ps r k) ∧ (o = r ∨ ¬ Dom ps r o) := by
  unfold edgeB
  rw [Bool.and_eq_true, Bool.or_eq_true, decide_eq_true_iff, decide_eq_true_iff, Bool.not_eq_true', domB_not]
  refine and_congr ?_ Iff.rfl
  rw [List.length_pos_iff_exists_mem]
  constructor
  · rintro ⟨p, hp⟩
    obtain ⟨h1, h2⟩ := List.mem_filter.mp hp
    rw [Bool.and_eq_true, decide_eq_true_iff, domB_iff] at h2
    exact ⟨p.1, by rw [← h2.1]; exact h1, h2.2⟩
  · rintro ⟨k, h1, h2⟩
    exact ⟨(k, o), List.mem_filter.mpr ⟨h1, by rw [Bool.and_eq_true, decide_eq_true_iff, domB_iff]; exact ⟨rfl, h2⟩⟩⟩
theorem comp_pair_self {K : PySem.W.Frag} {H : Hp} {l : Addr} {xs : List V} {ps : List (Int × Int)} {caps : L2.St} {τ : L2.St} {tt : TT} {Q : VK} (p : Int × Int → Bool) (hl : SqL K H l xs) (hp : PairsV H ps xs) (hz : ps.length ≤ 1000) (hτ : τ = none :: caps)
    (ht : ∀ (y : Int × Int) (t : Addr) (P : Bool → Hp → Prop), y ∈ ps → H t = some (.tup [.int y.1, .int y.2]) → P (p y) H → tt (some (.ref t) :: caps) H P)
    (hq : ∀ a zs, H a = none → PairsV H (ps.filter p) zs → Q (.ref a) (upd H a (.lst zs))) :
    ∃ W : Nat → Nat → List V → L2.St → Hp → Prop, (∃ c, W 0 c [] τ H) ∧ CompStep (Itl K l) (gName 0) tt (tVar 0) Q W := by
  have hlen := hp.length
  refine comp_list (fun i acc τ H2 => H2 = H ∧ (∃ u, τ = u :: caps) ∧ PairsV H ((ps.take i).filter p) acc) (by rw [← hlen, sizeLine_eq]; omega) ⟨rfl, ⟨none, hτ⟩, .nil⟩ ?_ ?_ ?_
  · rintro i acc τ H2 hi ⟨rfl, _, hacc⟩
    refine ⟨hl, ?_⟩
    rw [← hacc.length]
    exact Nat.le_trans (List.length_filter_le _ _) (by rw [List.length_take]; omega)
  · rintro i x acc τ H2 hi ⟨rfl, ⟨u, rfl⟩, hacc⟩
    obtain ⟨y, hy, t, rfl, gt⟩ := pairs_get hp hi
    refine ht y t _ (List.mem_of_getElem? hy) gt (ite2 (fun h => ⟨_, rfl, rfl, ⟨_, rfl⟩, ?_⟩) fun h => ⟨rfl, ⟨_, rfl⟩, ?_⟩)
    · rw [take_snoc hy, List.filter_append, List.filter_cons, if_pos h, List.filter_nil]
      exact pairs_snoc hacc ⟨t, rfl, gt⟩
    · rw [take_snoc hy, List.filter_append, List.filter_cons, if_neg h, List.filter_nil, List.append_nil]
      exact hacc
  · rintro acc τ H2 ⟨rfl, _, hacc⟩ a ha
    rw [List.take_of_length_le (by omega)] at hacc
    exact hq a acc ha hacc
end L3
end
section
namespace Mp
section
variable {ps : List (Int × Int)}
/-- the nearest guard -/
structure IsNear (ps : List (Int × Int)) (r g : Int) : Prop where
  dom : Dom ps g r
  ne : g ≠ r
  last : ∀ d, Dom ps d r → d ≠ r → Dom ps d g
theorem IsGuards.near (ok : ∀ p ∈ ps, 0 ≤ p.2) {r : Int} {l : List Int} (G : IsGuards ps r l) (hr : Rch ps (-1) r) (h0 : r ≠ 0) : ∃ m g, l = m ++ [g, r] ∧ IsNear ps r g := by
  have hm : r ∈ l := (G.mem r).mpr (Dom.self hr)
  obtain ⟨a, b, e, na⟩ := split_first hm
  subst e
  have hb : b = [] := by
    cases b with
    | nil => rfl
    | cons y t =>
      exfalso
      have o := (List.pairwise_append.mp G.ord).2.1
      have h1 := (List.pairwise_cons.mp o).1 y (by simp)
      have h2 := (G.mem y).mp (by simp)
      have := Dom.anti h1 h2
      have nd := (List.nodup_append.mp G.nd).2.1
      rw [← this] at nd
      simp at nd
  subst hb
  have ha : a ≠ [] := fun z => by
    subst z
    have := (G.mem 0).mpr (Dom.zero hr)
    simp at this
    exact h0 this.symm
  have ea := List.dropLast_concat_getLast ha
  generalize a.dropLast = m at ea
  generalize a.getLast ha = g at ea
  subst ea
  refine ⟨m, g, by simp, (G.mem g).mp (by simp), fun z => na (by rw [← z]; simp), fun d hd ne => ?_⟩
  have hd' := (G.mem d).mpr hd
  have o := (List.pairwise_append.mp G.ord).1
  rcases List.mem_append.mp hd' with z | z
  · rcases List.mem_append.mp z with z | z
    · exact (List.pairwise_append.mp o).2.2 d z g (by simp)
    · have : d = g := by simpa using z
      rw [this]
      exact Dom.self (Dom.reached ok ((G.mem g).mp (by simp)))
  · have : d = r := by simpa using z
    exact absurd this ne
/-- the last common guard -/
structure IsCommon (ps : List (Int × Int)) (ks : List Int) (g : Int) : Prop where
  all : ∀ k ∈ ks, Dom ps g k
  last : ∀ d, (∀ k ∈ ks, Dom ps d k) → Dom ps d g
theorem Rch.enter {z r : Int} (h : Rch ps z r) (h0 : r ≠ 0) : ∃ p ∈ ps, p.2 = r ∧ p.1 ≠ r ∧ Rch ps z p.1 ∧ Rch ps r p.1 := by
  by_cases e : ∃ p ∈ ps, p.2 = r ∧ p.1 ≠ r ∧ Rch ps z p.1 ∧ Rch ps r p.1
  · exact e
  exfalso
  refine (Rch.closed (S := fun x => x ≠ r ∧ Rch ps z x ∧ Rch ps r x) (fun hz => ⟨fun q => h0 q.symm, .start hz, .start h0⟩) (fun a b ⟨h1, h2, h3⟩ hp hz => ?_) h).1 rfl
  have hb : b ≠ r := fun q => e ⟨(a, b), hp, q, h1, h2, h3⟩
  exact ⟨hb, h2.step hp hz, h3.step hp hb⟩
theorem IsNear.common (ok : ∀ p ∈ ps, 0 ≤ p.2) {r g : Int} {ks : List Int} (N : IsNear ps r g) (h0 : r ≠ 0) (hk : ∀ k, k ∈ ks ↔ (k, r) ∈ ps ∧ k ≠ r ∧ Rch ps (-1) k) : IsCommon ps ks g := by
  refine ⟨fun k h => ?_, fun d hd => ?_⟩
  · obtain ⟨h1, h2, h3⟩ := (hk k).mp h
    refine ⟨h3, fun z => N.dom.2 (z.step h1 N.ne.symm)⟩
  · obtain ⟨p, hp, e1, e2, e3, e4⟩ := N.dom.1.enter h0
    have hp1 : p.1 ∈ ks := (hk _).mpr ⟨by rw [← e1]; exact hp, e2, e3⟩
    have dr : d ≠ r := fun z => (hd _ hp1).2 (z ▸ e4)
    refine N.last d ⟨N.dom.1, fun z => ?_⟩ dr
    obtain ⟨q, hq, f1, f2, f3, f4⟩ := z.enter h0
    by_cases hr : Rch ps (-1) q.1
    · exact (hd _ ((hk _).mpr ⟨by rw [← f1]; exact hq, f2, hr⟩)).2 f3
    · exact hr (f3.any' ok)
end
end Mp
end
section
namespace PySem
open Sem (wp)
section
variable {prog : Program} {w : World} {A : Around} {E : Value → Shared → Prop} {s : Shared}
end
end PySem
namespace L2
open PySem PySem.Spec PyProof.Rows
section
variable {X : Cx}
end
end L2
end
section
namespace L3
open PySem PySem.Spec PyProof.Rows L2 Mp
theorem net_made {K : PySem.W.Frag} {C : Addr} {H : Hp} {R : VK} {E : XK} {h x dx : Addr} {n : Int} {ps : List (Int × Int)} {xs : List V} (gh : H h = some (.lst xs)) (hp : PairsV H ps xs) (ok : OkNet n ps) (hx : H x = none) (hdx : H dx = none)
    (k : ∀ H', Same H H' → NetAt C H H' x n ps → R .non H') : sp_Net_init K C [.ref x, .int n, .ref h] (upd (upd H dx (.own x)) x (.ins C dx [])) R E := by
  have s3 : Same H (upd (upd H dx (.own x)) x (.ins C dx [])) := Same.upd (Same.upd (Same.refl _) hdx) hx
  refine ⟨x, dx, n, h, ps, xs, H, rfl, upd_same, SqL.of (s3 _ _ gh), (fun z => by rw [z, hx] at gh; cases gh), PairsV.same s3 hp, ok, hx, (fun b hb => s3.free hb), fun H3 N bt => ?_⟩
  exact k H3 (fun b o g => bt b o (s3 b o g) fun z => by rw [z, hx] at g; cases g) N
end L3
namespace Mp
theorem Dom.less {ps qs : List (Int × Int)} (h : ∀ p ∈ ps, p ∈ qs) {g k : Int} (hk : Rch ps (-1) k) (d : Dom qs g k) : Dom ps g k := ⟨hk, fun z => d.2 (z.mono h)⟩
theorem IsGuards.more {ps qs : List (Int × Int)} (ok : ∀ p ∈ ps, 0 ≤ p.2) (h : ∀ p ∈ ps, p ∈ qs) {r : Int} {l m : List Int} (hr : Rch ps (-1) r) (G : IsGuards ps r l) (M : IsGuards qs r m) : m = l.filter fun x => decide (x ∈ m) := by
  refine pairwise_uniq (R := Dom ps) (fun _ _ a b => a.anti b) M.nd (G.nd.filter _) (fun x => ?_) ?_ (G.ord.filter _)
  · rw [List.mem_filter, decide_eq_true_iff]
    exact ⟨fun hx => ⟨(G.mem x).mpr (Dom.less h hr ((M.mem x).mp hx)), hx⟩, fun hx => hx.2⟩
  · refine List.Pairwise.imp_of_mem (fun {a b} ha hb q => ?_) M.ord
    have db := Dom.less h hr ((M.mem b).mp hb)
    exact Dom.less h (db.reached ok) q
end Mp
end
section
namespace Mp
abbrev WD := List Int × List Nat
structure SWay (ps : List (Int × Int)) (w : WD) : Prop where
  head : w.1[0]? = some 0
  nd : w.1.Nodup
  len : w.1.length = w.2.length + 1
  link : ∀ (i k : Nat), w.2[i]? = some k → ∃ a b, w.1[i]? = some a ∧ w.1[i + 1]? = some b ∧ ps[k]? = some (a, b)
def LastIs (w : WD) (r : Int) : Prop := w.1[w.2.length]? = some r
section
variable {ps : List (Int × Int)} {r : Int}
theorem SWay.first : SWay ps ([0], []) := ⟨rfl, by simp, rfl, fun i k h => by simp at h⟩
theorem LastIs.get {w : WD} (h : SWay ps w) {z : Int} (l : LastIs w z) : w.1.getLast? = some z := by
  rw [List.getLast?_eq_getElem?, h.len, Nat.add_sub_cancel]
  exact l
theorem SWay.snoc {w : WD} (h : SWay ps w) {z b : Int} {k : Nat} (l : LastIs w z) (hk : ps[k]? = some (z, b)) (hb : b ∉ w.1) : SWay ps (w.1 ++ [b], w.2 ++ [k]) := by
  have hl := h.len
  refine ⟨?_, ?_, by simp [hl], fun i k' hi => ?_⟩
  · rw [List.getElem?_append_left (by omega)]
    exact h.head
  · exact List.nodup_append.mpr ⟨h.nd, by simp, fun x hx y hy e => hb (by rw [← List.mem_singleton.mp hy, ← e]; exact hx)⟩
  · dsimp only at hi ⊢
    by_cases hlt : i < w.2.length
    · rw [List.getElem?_append_left hlt] at hi
      obtain ⟨a, c, h1, h2, h3⟩ := h.link i k' hi
      exact ⟨a, c, by rw [List.getElem?_append_left (by omega)]; exact h1, by rw [List.getElem?_append_left (by omega)]; exact h2, h3⟩
    · have e : i = w.2.length := by
        have := (List.getElem?_eq_some_iff.mp hi).1
        rw [List.length_append] at this
        simp at this
        omega
      subst e
      rw [List.getElem?_append_right (Nat.le_refl _), Nat.sub_self] at hi
      cases hi
      refine ⟨z, b, ?_, ?_, hk⟩
      · rw [List.getElem?_append_left (by omega)]
        exact l
      · rw [List.getElem?_append_right (by omega), hl, Nat.sub_self]
        rfl
theorem LastIs.snoc {w : WD} (h : SWay ps w) {b : Int} {k : Nat} : LastIs (w.1 ++ [b], w.2 ++ [k]) b := by
  unfold LastIs
  have := h.len
  rw [List.getElem?_append_right (by simp; omega)]
  simp [this]
def Begins (v w : WD) : Prop := v.1 <+: w.1 ∧ v.2 <+: w.2
theorem Begins.first {w : WD} (h : SWay ps w) : Begins ([0], []) w := by
  refine ⟨?_, List.nil_prefix⟩
  have := h.head
  cases e : w.1 with
  | nil => rw [e] at this; cases this
  | cons a t => rw [e] at this; cases this; exact ⟨t, rfl⟩
theorem Begins.whole {v w : WD} (hv : SWay ps v) (hw : SWay ps w) (b : Begins v w) {z : Int} (lv : LastIs v z) (lw : LastIs w z) : v = w := by
  obtain ⟨⟨t, e1⟩, ⟨u, e2⟩⟩ := b
  have l1 := hv.len
  have l2 := hw.len
  unfold LastIs at lv lw
  have q : w.1[v.2.length]? = some z := by
    rw [← e1, List.getElem?_append_left (by omega)]
    exact lv
  have hle : v.2.length ≤ w.2.length := by rw [← e2]; simp
  have ee : v.2.length = w.2.length := by
    have h1 := (List.getElem?_eq_some_iff.mp q)
    have h2 := (List.getElem?_eq_some_iff.mp lw)
    obtain ⟨a1, b1⟩ := h1
    obtain ⟨a2, b2⟩ := h2
    exact (List.getElem_inj hw.nd).mp (b1.trans b2.symm)
  have tn : t = [] := by
    have := congrArg List.length e1
    rw [List.length_append] at this
    exact List.eq_nil_of_length_eq_zero (by omega)
  have un : u = [] := by
    have := congrArg List.length e2
    rw [List.length_append] at this
    exact List.eq_nil_of_length_eq_zero (by omega)
  subst tn un
  rw [List.append_nil] at e1 e2
  exact Prod.ext e1 e2
theorem Begins.next {v w : WD} (hv : SWay ps v) (hw : SWay ps w) (b : Begins v w) {z y : Int} (lv : LastIs v z) (lw : LastIs w y) (ne : z ≠ y) : ∃ k c, ps[k]? = some (z, c) ∧ c ∉ v.1 ∧ Begins (v.1 ++ [c], v.2 ++ [k]) w := by
  obtain ⟨⟨t, e1⟩, ⟨u, e2⟩⟩ := b
  have l1 := hv.len
  have l2 := hw.len
  unfold LastIs at lv lw
  cases u with
  | nil =>
    exfalso
    rw [List.append_nil] at e2
    rw [← e2, ← e1, List.getElem?_append_left (by omega), lv] at lw
    exact ne (Option.some.inj lw)
  | cons k u =>
    have hk : w.2[v.2.length]? = some k := by rw [← e2, List.getElem?_append_right (Nat.le_refl _), Nat.sub_self]; rfl
    obtain ⟨a, c, h1, h2, h3⟩ := hw.link _ _ hk
    have ea : a = z := by
      rw [← e1, List.getElem?_append_left (by omega), lv] at h1
      exact (Option.some.inj h1).symm
    subst ea
    cases t with
    | nil =>
      exfalso
      rw [List.append_nil] at e1
      rw [← e1, l1.symm] at h2
      simp at h2
    | cons c' t =>
      have ec : c' = c := by
        rw [← e1, List.getElem?_append_right (by omega), l1, Nat.sub_self] at h2
        exact Option.some.inj h2
      subst ec
      refine ⟨k, c', h3, fun hm => ?_, ⟨t, by simp [← e1]⟩, ⟨u, by simp [← e2]⟩⟩
      have nd := hw.nd
      rw [← e1] at nd
      exact (List.nodup_append.mp nd).2.2 c' hm c' (by simp) rfl
/-- the search: what is still to be gone through, what has been found -/
structure Srch (ps : List (Int × Int)) (r : Int) (todo found : List WD) : Prop where
  t : ∀ w ∈ todo, SWay ps w
  f : ∀ w ∈ found, SWay ps w ∧ LastIs w r
  all : ∀ w, SWay ps w → LastIs w r → w ∈ found ∨ ∃ v ∈ todo, Begins v w
theorem Srch.first : Srch ps r [([0], [])] [] := ⟨fun w h => by rw [List.mem_singleton.mp h]; exact SWay.first, fun w h => by simp at h, fun w hw _ => .inr ⟨_, by simp, Begins.first hw⟩⟩
def wt (B n : Nat) (v : WD) : Nat := B ^ (n - v.1.length)
theorem SWay.walk {w : WD} (h : SWay ps w) : Walk ps w.1 := by
  have go : ∀ (l : List Int) (ds : List Nat), l.length = ds.length + 1 → (∀ (i k : Nat), ds[i]? = some k → ∃ a b, l[i]? = some a ∧ l[i + 1]? = some b ∧ ps[k]? = some (a, b)) → Walk ps l := by
    intro l
    induction l with
    | nil => intro _ _ _; trivial
    | cons a t ih =>
      intro ds hl hk
      cases t with
      | nil => trivial
      | cons b t =>
        cases ds with
        | nil => simp at hl
        | cons k ds =>
          refine ⟨?_, ih ds (by simpa using hl) fun i k' hi => ?_⟩
          · obtain ⟨x, y, h1, h2, h3⟩ := hk 0 k rfl
            cases h1
            cases h2
            exact List.mem_of_getElem? h3
          · obtain ⟨x, y, h1, h2, h3⟩ := hk (i + 1) k' (by simpa using hi)
            exact ⟨x, y, by simpa using h1, by simpa using h2, h3⟩
  exact go _ _ h.len h.link
theorem SWay.way {w : WD} (h : SWay ps w) {z : Int} (l : LastIs w z) : IsWay ps w.1 z := ⟨h.walk, by rw [List.head?_eq_getElem?]; exact h.head, l.get h⟩
theorem Rch.sway {z k : Int} (h : Rch ps z k) : ∃ w, SWay ps w ∧ LastIs w k ∧ ∀ x ∈ w.1, x ≠ z := by
  induction h with
  | start h => exact ⟨([0], []), SWay.first, rfl, fun x hx => by rw [List.mem_singleton.mp hx]; exact fun e => h e.symm⟩
  | @step a b _ m n ih =>
    obtain ⟨w, hw, lw, aw⟩ := ih
    by_cases hb : b ∈ w.1
    · obtain ⟨i, hi, e⟩ := List.getElem_of_mem hb
      have hl := hw.len
      refine ⟨(w.1.take (i + 1), w.2.take i), ⟨?_, hw.nd.sublist (List.take_sublist _ _), ?_, fun j k hj => ?_⟩, ?_, fun x hx => aw x (List.mem_of_mem_take hx)⟩
      · rw [List.getElem?_take, if_pos (by omega)]
        exact hw.head
      · simp
        omega
      · dsimp only at hj ⊢
        rw [List.getElem?_take] at hj
        split at hj
        · obtain ⟨x, y, h1, h2, h3⟩ := hw.link j k hj
          exact ⟨x, y, by rw [List.getElem?_take, if_pos (by omega)]; exact h1, by rw [List.getElem?_take, if_pos (by omega)]; exact h2, h3⟩
        · cases hj
      · unfold LastIs
        rw [List.length_take, Nat.min_eq_left (by omega), List.getElem?_take, if_pos (by omega), List.getElem?_eq_getElem hi, e]
    · obtain ⟨k, hk⟩ := List.getElem?_of_mem m
      refine ⟨_, hw.snoc lw hk hb, LastIs.snoc hw, fun x hx => ?_⟩
      rcases List.mem_append.mp hx with y | y
      · exact aw x y
      · rw [List.mem_singleton.mp y]
        exact n
theorem Srch.done {found : List WD} (S : Srch ps r [] found) {w : WD} (hw : SWay ps w) (lw : LastIs w r) : w ∈ found := by
  rcases S.all w hw lw with z | ⟨v, hv, _⟩
  · exact z
  · simp at hv
theorem stand_pair {α : Type} : ∀ (pre l : List α), l.Pairwise fun x y => ∃ a b c, pre ++ l = a ++ x :: b ++ y :: c
  | _, [] => List.Pairwise.nil
  | pre, h :: t => by
    refine List.pairwise_cons.mpr ⟨fun y hy => ?_, ?_⟩
    · obtain ⟨b, c, e⟩ := List.append_of_mem hy
      exact ⟨pre, b, c, by rw [e]; simp⟩
    · have := stand_pair (pre ++ [h]) t
      refine this.imp fun ⟨a, b, c, e⟩ => ⟨a, b, c, by rw [← e]; simp⟩
theorem Srch.guards (ok : ∀ p ∈ ps, 0 ≤ p.2) {found : List WD} (S : Srch ps r [] found) {w : WD} (hw : w ∈ found) (hr : Rch ps (-1) r) {q : Int → Bool} (hq : ∀ x, q x = true ↔ ∀ v ∈ found, x ∈ v.1) : IsGuards ps r (w.1.filter q) := by
  obtain ⟨sw, lw⟩ := S.f w hw
  have mem : ∀ g, q g = true ↔ Dom ps g r := fun g => by
    rw [hq g]
    constructor
    · intro h
      refine ⟨hr, fun z => ?_⟩
      obtain ⟨v, hv, lv, av⟩ := z.sway
      exact av g (h v (S.done hv lv)) rfl
    · intro d v hv
      obtain ⟨sv, lv⟩ := S.f v hv
      exact (dom_way.mp d).2 _ (sv.way lv)
  refine ⟨sw.nd.filter _, fun g => ?_, ?_⟩
  · rw [List.mem_filter, mem g]
    exact ⟨fun h => h.2, fun h => ⟨(hq g).mp ((mem g).mpr h) w hw, h⟩⟩
  · have hp : (w.1.filter q).Pairwise fun x y => ∃ a b c, w.1 = a ++ x :: b ++ y :: c := by
      have := stand_pair [] w.1
      rw [List.nil_append] at this
      exact this.filter _
    refine List.Pairwise.imp_of_mem (fun {x y} hx hy ⟨a, b, c, e⟩ => ?_) hp
    have dx := (mem x).mp (List.mem_filter.mp hx).2
    have dy := (mem y).mp (List.mem_filter.mp hy).2
    rcases Dom.chain ok dx dy with z | z
    · exact z
    · exfalso
      have iw := sw.way lw
      rw [e, List.append_assoc, List.cons_append] at iw
      have m := (dom_way.mp z).2 _ iw.upto
      have nd := sw.nd
      rw [e] at nd
      have := (List.nodup_append.mp nd).2.2 y (by
        rcases List.mem_append.mp m with h | h
        · exact List.mem_append_left _ h
        · rw [List.mem_singleton.mp h]; simp) y (by simp)
      exact this rfl
theorem SWay.lt {n : Int} (hn : 1 ≤ n) (ok : ∀ p ∈ ps, 0 ≤ p.2 ∧ p.2 < n) {w : WD} (h : SWay ps w) {x : Int} (hx : x ∈ w.1) : 0 ≤ x ∧ x < n := by
  obtain ⟨i, hi⟩ := List.getElem?_of_mem hx
  cases i with
  | zero => rw [h.head] at hi; cases hi; omega
  | succ i =>
    have hl := h.len
    have hi' := (List.getElem?_eq_some_iff.mp hi).1
    obtain ⟨a, b, _, h2, h3⟩ := h.link i _ (List.getElem?_eq_getElem (by omega))
    rw [hi] at h2
    cases h2
    exact ok _ (List.mem_of_getElem? h3)
end
end Mp
end
section
namespace L3
open PySem PySem.Spec PyProof.Rows L2 Mp
def dsV (ds : List Nat) : List V := ds.map fun (k : Nat) => V.int (k : Int)
def WayAt (H : Hp) (no : List Addr) (w : WD) (v : V) : Prop := ∃ t a b, v = .ref t ∧ H t = some (.tup [.ref a, .ref b]) ∧ H a = some (.lst (w.1.map V.int)) ∧ H b = some (.lst (dsV w.2)) ∧ ∀ z ∈ no, a ≠ z ∧ b ≠ z
theorem WayAt.same {H H' : Hp} {no : List Addr} {w : WD} {v : V} (h : WayAt H no w v) (e : Same H H') : WayAt H' no w v := by
  obtain ⟨t, a, b, h1, h2, h3, h4, h5⟩ := h
  exact ⟨t, a, b, h1, e _ _ h2, e _ _ h3, e _ _ h4, h5⟩
theorem WayAt.put {H : Hp} {no : List Addr} {w : WD} {v : V} (h : WayAt H no w v) {z : Addr} {o : HO} {xs : List V} (hz : z ∈ no) (gz : H z = some (.lst xs)) : WayAt (upd H z o) no w v := by
  obtain ⟨t, a, b, h1, h2, h3, h4, h5⟩ := h
  have ht : t ≠ z := fun e => by rw [e, gz] at h2; cases h2
  exact ⟨t, a, b, h1, by rw [upd_ne ht]; exact h2, by rw [upd_ne (h5 z hz).1]; exact h3, by rw [upd_ne (h5 z hz).2]; exact h4, h5⟩
abbrev WaysAt (H : Hp) (no : List Addr) (ws : List WD) (xs : List V) : Prop := Paired (WayAt H no) ws xs
theorem WaysAt.same {H H' : Hp} {no : List Addr} {ws : List WD} {xs : List V} (h : WaysAt H no ws xs) (e : Same H H') : WaysAt H' no ws xs := Paired.mapP h fun _ _ q => q.same e
theorem WaysAt.put {H : Hp} {no : List Addr} {ws : List WD} {xs : List V} (h : WaysAt H no ws xs) {z : Addr} {o : HO} {ys : List V} (hz : z ∈ no) (gz : H z = some (.lst ys)) : WaysAt (upd H z o) no ws xs := Paired.mapP h fun _ _ q => q.put hz gz
theorem atI_getLast {ns : List Int} {z : Int} (h : ns.getLast? = some z) : atI (ns.map V.int) (-1) = some (.int z) := by
  obtain ⟨m, rfl⟩ := List.getLast?_eq_some_iff.mp h
  rw [List.map_append]
  exact atI_last _ _
end L3
end
section
namespace L2
open PySem PySem.Spec PyProof.Rows
theorem cells_app : ∀ (names : List (Str × NameKind)) (n : Nat) (acc : List (Str × Addr)), cellsFrom n names acc = cellsFrom n names [] ++ acc
  | [], _, _ => rfl
  | (x, k) :: r, n, acc => by
    unfold cellsFrom
    split
    · rw [cells_app r (n + 1) ((x, n) :: acc), cells_app r (n + 1) [(x, n)], List.append_assoc]
      rfl
    · exact cells_app r n acc
structure CompOkN (X : Cx) (N : List Str) (vs : Nat) (is : List Nat) (scope : Scope) (cl : List (Str × Addr)) : Prop where
  kind : scope.kind = .function
  names : ∀ y ∈ scope.names, y.2 = .local → scope.names.lookup y.1 = some .local
  clos : closureFor scope X.env = pure cl
  subB : ∀ p ∈ cl, X.env.cells.lookup p.1 = some p.2
  hasB : ∀ C : Nat, ((relabel scope X.env).names.all fun y => !(y.2 == .cell || y.2 == .free) || ((cellsFrom (C + 1) scope.names cl).lookup y.1).isSome) = true
  capsB : ∀ C : Nat, (is.zipIdx.all fun q => match N[vs + q.2]?, X.N[q.1]? with
    | some x, some y => x == y && (X.env.kindOf y == some .cell || X.env.kindOf y == some .free) && ((relabel scope X.env).names.lookup y == some .cell || (relabel scope X.env).names.lookup y == some .free) && ((cellsFrom (C + 1) scope.names []).lookup y).isNone
    | _, _ => false) = true
  len : N.length = vs + is.length
section
variable {X : Cx} {N : List Str} {vs : Nat} {is : List Nat} {scope : Scope} {cl : List (Str × Addr)}
theorem CompOkN.sub (O : CompOkN X N vs is scope cl) (x : Str) (c : Addr) (h : cl.lookup x = some c) : X.env.cells.lookup x = some c := O.subB (x, c) (PySem.mem_of_lookup h)
theorem CompOkN.of (O : CompOkN X N vs is scope cl) {C : Nat} {x : Str} {c : Addr} (h : (cellsFrom (C + 1) scope.names cl).lookup x = some c) : (x, c) ∈ cellsFrom (C + 1) scope.names [] ∨ X.env.cells.lookup x = some c := by
  rw [cells_app, List.lookup_append] at h
  cases e : (cellsFrom (C + 1) scope.names []).lookup x with
  | some d =>
    rw [e] at h
    cases h
    exact .inl (PySem.mem_of_lookup e)
  | none =>
    rw [e] at h
    exact .inr (O.sub x c h)
theorem CompOkN.has (O : CompOkN X N vs is scope cl) (C : Nat) (x : Str) (h : (relabel scope X.env).names.lookup x = some .cell ∨ (relabel scope X.env).names.lookup x = some .free) : ∃ c, (cellsFrom (C + 1) scope.names cl).lookup x = some c := by
  have go : ∀ k, (relabel scope X.env).names.lookup x = some k → (k == NameKind.cell || k == NameKind.free) = true → ∃ c, (cellsFrom (C + 1) scope.names cl).lookup x = some c := fun k e hk => by
    have z := List.all_eq_true.mp (O.hasB C) (x, k) (PySem.mem_of_lookup e)
    dsimp only at z
    rw [hk] at z
    exact Option.isSome_iff_exists.mp (by simpa using z)
  rcases h with h | h
  · exact go _ h rfl
  · exact go _ h rfl
theorem CompOkN.caps (O : CompOkN X N vs is scope cl) (C j i : Nat) (h : is[j]? = some i) :
    ∃ x, N[vs + j]? = some x ∧ X.N[i]? = some x ∧ (X.env.kindOf x = some .cell ∨ X.env.kindOf x = some .free) ∧ ((relabel scope X.env).names.lookup x = some .cell ∨ (relabel scope X.env).names.lookup x = some .free) ∧ (cellsFrom (C + 1) scope.names []).lookup x = none := by
  have z := List.all_eq_true.mp (O.capsB C) (i, j) (by rw [List.mem_zipIdx_iff_getElem?]; exact h)
  dsimp only at z
  split at z
  · rename_i x y e1 e2
    simp only [Bool.and_eq_true, Bool.or_eq_true, beq_iff_eq, Option.isNone_iff_eq_none] at z
    obtain ⟨⟨⟨rfl, z2⟩, z3⟩, z4⟩ := z
    exact ⟨x, e1, e2, z2, z3, z4⟩
  · cases z
end
section
variable {X : Cx} {pins : List (Addr × Obj)} {σ : St} {H : Hp} {s : Shared} {N : List Str} {vs : Nat} {is : List Nat} {scope : Scope} {cl : List (Str × Addr)} {fp : List Addr}
end
section
variable {X : Cx} {N : List Str} {vs : Nat} {is : List Nat} {scope : Scope} {tg iter elt : Expr} {ifs : List Expr} {pos : Pos} {wi : TI} {g : TG} {tt : TT} {te : TE}
end
end L2
end
section
namespace L2
open PySem PySem.Spec PyProof.Rows
end L2
end
section
namespace L2
open PySem PySem.Spec PyProof.Rows
section
variable {X : Cx}
def rInsert : V → List V → Hp → VK → Prop := fun x vs H Q => ∃ l xs i y, x = .ref l ∧ vs = [.int i, y] ∧ H l = some (.lst xs) ∧ 0 ≤ i ∧ i ≤ xs.length ∧ xs.length < sizeLine ∧ Q .non (upd H l (.lst (xs.take i.toNat ++ y :: xs.drop i.toNat)))
theorem mt_insert : MtM X "list.insert" rInsert := by
  intro pins s σ H x vs v us Q I rx rv h
  obtain ⟨l, xs, i, y, rfl, rfl, hH, h1, h2, h3, q⟩ := h
  cases rx
  obtain ⟨u, w, rfl, ru, rw'⟩ := rv.two
  obtain ⟨t, rfl⟩ := ru
  obtain ⟨z, its, n, r, hl, e⟩ := I.lstM hH
  have hs : sizeLine < 2 ^ 62 := by decide
  refine call_meets F.slot_list_insert ⟨_, e, rfl⟩ F.entry_list_insert (F.args_list_insert_3 _ _ _)
    (AutoSeq1.list_insert_list_int_val_1 l its.toArray n i t w (by rw [fitsIndex_both (k := i) (by omega) (by omega)]; decide) (by rw [List.size_toArray]; omega)) ⟨e, ?_⟩
  refine ⟨.non, _, I.lset (its' := its.take i.toNat ++ w :: its.drop i.toNat) hH e ?_ ?_ ?_, rfl, q⟩
  · dsimp only
    rw [if_neg (by omega), Nat.min_eq_left (by rw [List.size_toArray]; omega)]
    simp
    exact List.take_of_length_le (by rw [List.length_drop]; exact Nat.le_refl _)
  · exact Vals.append (r.take _) (.cons rw' (r.drop _))
  · rw [List.length_append, List.length_cons, List.length_take, List.length_drop]
    omega
def tIsT (ta : TE) : TE := fun σ H Q => ta σ H fun x H1 => ∃ b, x = .bl b ∧ Q (.bl b) H1
theorem pc_isT {a : Expr} {ta : TE} {j pos'} (ha : PE X a ta) : PC X .Is a (.Constant (.bool true) j pos') (tIsT ta) := by
  intro pins s σ H Q I h
  refine thn (ha pins s σ H _ I h) fun v s1 ⟨x, H1, I1, r1, b, e, q1⟩ => ?_
  subst e
  cases r1
  exact Constant_bool (is_bool ⟨.bl _, H1, I1, by cases b <;> rfl, q1⟩)
theorem b_max : bootBuiltins "max" = some (.builtin "max") := by decide +kernel
end
end L2
end
section
namespace L3
open PySem PySem.Spec PyProof.Rows L2 Mp
theorem comp_int_same {K : PySem.W.Frag} {H : Hp} {l : Addr} {ys : List Int} {caps : L2.St} {τ : L2.St} {tt : TT} {te : TE} {Q : VK} (p : Int → Bool) (f : Int → V) (hl : SqL K H l (ys.map V.int)) (hz : ys.length ≤ 1000) (hτ : τ = none :: caps)
    (ht : ∀ (y : Int) (H2 : Hp) (P : Bool → Hp → Prop), y ∈ ys → Same H H2 → (∀ H3, Same H2 H3 → P (p y) H3) → tt (some (.int y) :: caps) H2 P)
    (he : ∀ (y : Int) (H2 : Hp) (P : VK), y ∈ ys → Same H H2 → p y = true → P (f y) H2 → te (some (.int y) :: caps) H2 P)
    (hq : ∀ a H2, Same H H2 → H2 a = none → Q (.ref a) (upd H2 a (.lst ((ys.filter p).map f)))) :
    ∃ W : Nat → Nat → List V → L2.St → Hp → Prop, (∃ c, W 0 c [] τ H) ∧ CompStep (Itl K l) (gName 0) tt te Q W := by
  refine comp_list (xs := ys.map V.int) (fun i acc τ H2 => Same H H2 ∧ (∃ u, τ = u :: caps) ∧ acc = ((ys.take i).filter p).map f) (by rw [List.length_map, sizeLine_eq]; omega) ⟨Same.refl _, ⟨none, hτ⟩, rfl⟩ ?_ ?_ ?_
  · rintro i acc τ H2 hi ⟨e, _, rfl⟩
    refine ⟨e.seq hl, ?_⟩
    rw [List.length_map]
    exact Nat.le_trans (List.length_filter_le _ _) (by rw [List.length_take]; omega)
  · rintro i x acc τ H2 hi ⟨e, ⟨u, rfl⟩, rfl⟩
    obtain ⟨y, hy, rfl⟩ : ∃ y, ys[i]? = some y ∧ x = V.int y := by
      rw [List.getElem?_map] at hi
      cases q : ys[i]? with
      | none => rw [q] at hi; cases hi
      | some y => rw [q] at hi; cases hi; exact ⟨y, rfl, rfl⟩
    have hm := List.mem_of_getElem? hy
    refine ht y H2 _ hm e fun H3 e3 => ite2 (fun h => he y H3 _ hm (e.trans e3) h ⟨e.trans e3, ⟨_, rfl⟩, ?_⟩) fun h => ⟨e.trans e3, ⟨_, rfl⟩, ?_⟩
    · rw [take_snoc hy, List.filter_append, List.map_append, List.filter_cons, if_pos h]
      rfl
    · rw [take_snoc hy, List.filter_append, List.map_append, List.filter_cons, if_neg h]
      exact (List.append_nil _).symm
  · rintro acc τ H2 ⟨e, _, rfl⟩ a ha
    rw [List.take_of_length_le (by rw [List.length_map]; exact Nat.le_refl _)]
    exact hq a H2 e ha
end L3
end
section
namespace Mp
/-- h, the starts, and the reached rooms from which one comes to them, leaving h out -/
inductive LpS (ps : List (Int × Int)) (h : Int) (sts : List Int) : Int → Prop
  | head : LpS ps h sts h
  | start {a : Int} : a ∈ sts → LpS ps h sts a
  | step {a b : Int} : LpS ps h sts b → (a, b) ∈ ps → b ≠ h → Rch ps (-1) a → LpS ps h sts a
noncomputable def lpB (ps : List (Int × Int)) (h : Int) (sts : List Int) (k : Int) : Bool := @decide (LpS ps h sts k) (Classical.propDecidable _)
theorem lpB_iff {ps : List (Int × Int)} {h : Int} {sts : List Int} {k : Int} : lpB ps h sts k = true ↔ LpS ps h sts k := by unfold lpB; exact @decide_eq_true_iff _ (Classical.propDecidable _)
theorem lpB_not {ps : List (Int × Int)} {h : Int} {sts : List Int} {k : Int} : lpB ps h sts k = false ↔ ¬ LpS ps h sts k := by rw [← Bool.not_eq_true, lpB_iff]
section
variable {ps : List (Int × Int)} {h : Int} {sts : List Int} {n : Nat} {met : List Bool}
theorem LpS.closed {S : Int → Prop} (h0 : S h) (h1 : ∀ a ∈ sts, S a) (hs : ∀ a b, S b → (a, b) ∈ ps → b ≠ h → Rch ps (-1) a → S a) {k : Int} (l : LpS ps h sts k) : S k := by
  induction l with
  | head => exact h0
  | start m => exact h1 _ m
  | step _ m ne r ih => exact hs _ _ ih m ne r
def goesL (ps : List (Int × Int)) (h : Int) (met : List Bool) (p : Int × Int) : Prop := met[p.2.toNat]? = some true ∧ p.2 ≠ h ∧ met[p.1.toNat]? = some false ∧ Rch ps (-1) p.1
structure LFill (n : Nat) (ps : List (Int × Int)) (h : Int) (sts : List Int) (met : List Bool) : Prop where
  len : met.length = n
  sound : ∀ k : Nat, met[k]? = some true → LpS ps h sts (k : Int)
  base : ∀ k : Int, 0 ≤ k → k < n → (k = h ∨ k ∈ sts) → met[k.toNat]? = some true
theorem LFill.first : LFill n ps h sts ((List.range n).map fun (k : Nat) => decide ((k : Int) = h) || decide ((k : Int) ∈ sts)) := by
  refine ⟨by simp, fun k hk => ?_, fun k k0 k1 hk => ?_⟩
  · rw [List.getElem?_map] at hk
    cases e : (List.range n)[k]? with
    | none => rw [e] at hk; cases hk
    | some x =>
      rw [e] at hk
      have hx : k = x := by
        obtain ⟨h1, h2⟩ := List.getElem?_eq_some_iff.mp e
        rw [List.getElem_range] at h2
        exact h2
      subst hx
      have hk : (decide ((k : Int) = h) || decide ((k : Int) ∈ sts)) = true := by simpa using hk
      rw [Bool.or_eq_true, decide_eq_true_iff, decide_eq_true_iff] at hk
      rcases hk with z | z
      · rw [z]; exact .head
      · exact .start z
  · rw [List.getElem?_map, List.getElem?_range (by omega)]
    have e : ((k.toNat : Nat) : Int) = k := by omega
    show some (decide (((k.toNat : Nat) : Int) = h) || decide (((k.toNat : Nat) : Int) ∈ sts)) = some true
    rw [e]
    congr 1
    rw [Bool.or_eq_true, decide_eq_true_iff, decide_eq_true_iff]
    exact hk
theorem LFill.put (f : LFill n ps h sts met) {p : Int × Int} (hp : p ∈ ps) (h0 : 0 ≤ p.1) (h1 : 0 ≤ p.2) (g : goesL ps h met p) : LFill n ps h sts (met.set p.1.toNat true) := by
  refine ⟨by rw [List.length_set]; exact f.len, fun k hk => ?_, fun k k0 k1 hk => ?_⟩
  · by_cases e : p.1.toNat = k
    · have : (k : Int) = p.1 := by omega
      rw [this]
      have r := f.sound _ g.1
      rw [show ((p.2.toNat : Nat) : Int) = p.2 by omega] at r
      exact .step r hp g.2.1 g.2.2.2
    · rw [List.getElem?_set_ne e] at hk
      exact f.sound k hk
  · have := f.base k k0 k1 hk
    by_cases e : p.1.toNat = k.toNat
    · rw [e]
      obtain ⟨l, _⟩ := List.getElem?_eq_some_iff.mp this
      rw [List.getElem?_set_self l]
    · rw [List.getElem?_set_ne e]; exact this
theorem LFill.done (f : LFill n ps h sts met) (hh : 0 ≤ h ∧ h < n) (hst : ∀ a ∈ sts, 0 ≤ a ∧ a < n) (ok : ∀ p ∈ ps, 0 ≤ p.1 ∧ p.1 < (n : Int) ∧ 0 ≤ p.2 ∧ p.2 < (n : Int)) (hn : ∀ p ∈ ps, ¬ goesL ps h met p) : met = (List.range n).map fun k => lpB ps h sts ((k : Nat) : Int) := by
  have cl : ∀ k : Int, LpS ps h sts k → 0 ≤ k ∧ k < n ∧ met[k.toNat]? = some true := fun k hk => by
    refine LpS.closed (S := fun k => 0 ≤ k ∧ k < (n : Int) ∧ met[k.toNat]? = some true) ⟨hh.1, hh.2, f.base h hh.1 hh.2 (.inl rfl)⟩ (fun a ha => ⟨(hst a ha).1, (hst a ha).2, f.base a (hst a ha).1 (hst a ha).2 (.inr ha)⟩) ?_ hk
    rintro a b ⟨b0, b1, hb⟩ m ne r
    obtain ⟨o1, o2, o3, o4⟩ := ok _ m
    refine ⟨o1, o2, ?_⟩
    have hl : a.toNat < met.length := by rw [f.len]; dsimp at o2; omega
    have e : met[a.toNat]? = some met[a.toNat] := List.getElem?_eq_getElem hl
    cases q : met[a.toNat] with
    | true => rw [e, q]
    | false => exact absurd ⟨hb, ne, by rw [e, q], r⟩ (hn _ m)
  refine List.ext_getElem? fun k => ?_
  by_cases hk : k < n
  · rw [List.getElem?_map, List.getElem?_range hk]
    have hl : k < met.length := by rw [f.len]; exact hk
    rw [List.getElem?_eq_getElem hl]
    show some met[k] = some (lpB ps h sts (k : Int))
    congr 1
    cases q : met[k] with
    | true => exact (lpB_iff.mpr (f.sound k (by rw [List.getElem?_eq_getElem hl, q]))).symm
    | false =>
      refine (lpB_not.mpr fun r => ?_).symm
      have := (cl _ r).2.2
      rw [Int.toNat_natCast, List.getElem?_eq_getElem hl, q] at this
      cases this
  · rw [List.getElem?_eq_none (by rw [f.len]; omega), List.getElem?_eq_none (by simp; omega)]
end
end Mp
end
section
namespace L3
open PySem PySem.Spec PyProof.Rows L2 Mp
theorem getD_of {ps : List (Int × Int)} {k : Nat} {p : Int × Int} (h : ps[k]? = some p) : ps.getD k (0, 0) = p := by rw [List.getD_eq_getElem?_getD, h]; rfl
def LoopV (old H : Hp) (no : List Addr) (q : Int × List Int) (v : V) : Prop := ∃ t a, v = .ref t ∧ H t = some (.tup [.int q.1, .ref a]) ∧ H a = some (.lst (q.2.map V.int)) ∧ old a = none ∧ ∀ z ∈ no, a ≠ z
theorem LoopV.same {old H H' : Hp} {no : List Addr} {q : Int × List Int} {v : V} (h : LoopV old H no q v) (e : Same H H') : LoopV old H' no q v := by
  obtain ⟨t, a, h1, h2, h3, h4, h5⟩ := h
  exact ⟨t, a, h1, e _ _ h2, e _ _ h3, h4, h5⟩
theorem LoopV.put {old H : Hp} {no : List Addr} {q : Int × List Int} {v : V} (h : LoopV old H no q v) {z : Addr} {o : HO} {xs : List V} (hz : z ∈ no) (gz : H z = some (.lst xs)) : LoopV old (upd H z o) no q v := by
  obtain ⟨t, a, h1, h2, h3, h4, h5⟩ := h
  have ht : t ≠ z := fun e => by rw [e, gz] at h2; cases h2
  exact ⟨t, a, h1, by rw [upd_ne ht]; exact h2, by rw [upd_ne (h5 z hz)]; exact h3, h4, h5⟩
end L3
end
section
namespace Mp
def Bar (ps : List (Int × Int)) (k : Nat) (r : Int) : Prop := Rch ps (-1) r ∧ k < ps.length ∧ ¬ Rch (ps.eraseIdx k) (-1) r
section
variable {ps : List (Int × Int)} {r : Int}
def shift (k j : Nat) : Nat := if j < k then j else j + 1
theorem erase_get {k j : Nat} : (ps.eraseIdx k)[j]? = ps[shift k j]? := by
  rw [List.getElem?_eraseIdx]
  unfold shift
  split <;> rfl
theorem shift_ne {k j : Nat} : shift k j ≠ k := by
  unfold shift
  split <;> omega
theorem Rch.without {k : Nat} {x : Int} (h : Rch (ps.eraseIdx k) (-1) x) : ∃ w, SWay ps w ∧ LastIs w x ∧ k ∉ w.2 := by
  obtain ⟨w, hw, lw, _⟩ := h.sway
  refine ⟨(w.1, w.2.map (shift k)), ⟨hw.head, hw.nd, by rw [List.length_map]; exact hw.len, fun i j hj => ?_⟩, ?_, fun hm => ?_⟩
  · dsimp only at hj ⊢
    rw [List.getElem?_map] at hj
    cases e : w.2[i]? with
    | none => rw [e] at hj; cases hj
    | some d =>
      rw [e] at hj
      cases hj
      obtain ⟨a, b, h1, h2, h3⟩ := hw.link i d e
      rw [erase_get] at h3
      exact ⟨a, b, h1, h2, h3⟩
  · unfold LastIs at lw ⊢
    rw [List.length_map]
    exact lw
  · obtain ⟨j, _, e⟩ := List.mem_map.mp hm
    exact shift_ne e
theorem mem_erase {k j : Nat} {p : Int × Int} (h : ps[j]? = some p) (ne : j ≠ k) : p ∈ ps.eraseIdx k := by
  by_cases hj : j < k
  · refine List.mem_of_getElem? (i := j) ?_
    rw [erase_get, shift, if_pos hj, h]
  · refine List.mem_of_getElem? (i := j - 1) ?_
    rw [erase_get, shift, if_neg (by omega), show j - 1 + 1 = j by omega, h]
theorem SWay.start_ok {w : WD} (h : SWay ps w) (i : Nat) {x : Int} (hx : w.1[i]? = some x) : i = 0 ∧ x = 0 ∨ ∃ j k a, i = j + 1 ∧ w.2[j]? = some k ∧ w.1[j]? = some a ∧ ps[k]? = some (a, x) := by
  cases i with
  | zero => rw [h.head] at hx; cases hx; exact .inl ⟨rfl, rfl⟩
  | succ j =>
    have hl := h.len
    have := (List.getElem?_eq_some_iff.mp hx).1
    obtain ⟨a, b, h1, h2, h3⟩ := h.link j _ (List.getElem?_eq_getElem (by omega))
    rw [hx] at h2
    cases h2
    exact .inr ⟨j, _, a, rfl, List.getElem?_eq_getElem (by omega), h1, h3⟩
theorem SWay.doors {w : WD} (h : SWay ps w) {i j k : Nat} (hi : w.2[i]? = some k) (hj : w.2[j]? = some k) : i = j := by
  obtain ⟨a, b, h1, _, h3⟩ := h.link i k hi
  obtain ⟨a', b', h1', _, h3'⟩ := h.link j k hj
  rw [h3] at h3'
  cases h3'
  obtain ⟨l1, e1⟩ := List.getElem?_eq_some_iff.mp h1
  obtain ⟨l2, e2⟩ := List.getElem?_eq_some_iff.mp h1'
  exact (List.getElem_inj h.nd).mp (e1.trans e2.symm)
theorem SWay.along (ok : ∀ p ∈ ps, 0 ≤ p.2) {w : WD} (h : SWay ps w) {k i0 : Nat} {x0 : Int} (h0 : w.1[i0]? = some x0) (r0 : Rch (ps.eraseIdx k) (-1) x0) : ∀ m x, w.1[i0 + m]? = some x → (∀ j, i0 ≤ j → j < i0 + m → w.2[j]? ≠ some k) → Rch (ps.eraseIdx k) (-1) x
  | 0, x, hx, _ => by
    rw [Nat.add_zero, h0] at hx
    cases hx
    exact r0
  | m + 1, x, hx, hk => by
    rcases h.start_ok (i0 + (m + 1)) hx with ⟨e, _⟩ | ⟨j, d, a, e, h1, h2, h3⟩
    · omega
    · have ej : j = i0 + m := by omega
      subst ej
      have ra := SWay.along ok h h0 r0 m a h2 fun j hj1 hj2 => hk j hj1 (by omega)
      have nd : d ≠ k := fun z => hk (i0 + m) (by omega) (by omega) (by rw [h1, z])
      refine .step ra (mem_erase h3 nd) fun z => ?_
      have := ok _ (List.mem_of_getElem? h3)
      dsimp at this
      omega
theorem SWay.pre (ok : ∀ p ∈ ps, 0 ≤ p.2) {w : WD} (h : SWay ps w) {k m : Nat} {x : Int} (hx : w.1[m]? = some x) (hk : ∀ j, j < m → w.2[j]? ≠ some k) : Rch (ps.eraseIdx k) (-1) x :=
  h.along ok h.head (.start (by decide)) m x (by simpa using hx) fun j _ hj => hk j (by omega)
theorem bar_way (ok : ∀ p ∈ ps, 0 ≤ p.2) {k : Nat} : Bar ps k r ↔ Rch ps (-1) r ∧ k < ps.length ∧ ∀ w, SWay ps w → LastIs w r → k ∈ w.2 := by
  constructor
  · rintro ⟨h1, h2, h3⟩
    refine ⟨h1, h2, fun w hw lw => ?_⟩
    by_cases hm : k ∈ w.2
    · exact hm
    · exact absurd (hw.pre ok lw fun j _ e => hm (List.mem_of_getElem? e)) h3
  · rintro ⟨h1, h2, h3⟩
    refine ⟨h1, h2, fun z => ?_⟩
    obtain ⟨w, hw, lw, nk⟩ := z.without
    exact nk (h3 w hw lw)
def BarOrd (ps : List (Int × Int)) (r : Int) (a b : Nat) : Prop := Bar ps a r ∧ Bar ps b r ∧ ∀ p, ps[b]? = some p → ¬ Rch (ps.eraseIdx a) (-1) p.1
theorem SWay.ord (ok : ∀ p ∈ ps, 0 ≤ p.2) {w : WD} (h : SWay ps w) (l : LastIs w r) {a b i j : Nat} (ha : Bar ps a r) (hb : Bar ps b r) (hi : w.2[i]? = some a) (hj : w.2[j]? = some b) (hij : i < j) : BarOrd ps r a b ∧ ¬ BarOrd ps r b a := by
  have hl := h.len
  have jl := (List.getElem?_eq_some_iff.mp hj).1
  constructor
  · refine ⟨ha, hb, fun p hp z => ha.2.2 ?_⟩
    obtain ⟨x, y, h1, _, h3⟩ := h.link j b hj
    rw [hp] at h3
    cases h3
    have := h.along ok h1 z (w.2.length - j) r (by rw [show j + (w.2.length - j) = w.2.length by omega]; exact l) fun q q1 q2 e => by
      have := h.doors e hi
      omega
    exact this
  · rintro ⟨_, _, z⟩
    obtain ⟨x, y, h1, _, h3⟩ := h.link i a hi
    exact z _ h3 (h.pre ok h1 fun q q1 e => by
      have := h.doors e hj
      omega)
theorem BarOrd.anti (ok : ∀ p ∈ ps, 0 ≤ p.2) {a b : Nat} (h1 : BarOrd ps r a b) (h2 : BarOrd ps r b a) : a = b := by
  obtain ⟨w, hw, lw, _⟩ := h1.1.1.sway
  obtain ⟨i, hi⟩ := List.getElem?_of_mem (((bar_way ok).mp h1.1).2.2 w hw lw)
  obtain ⟨j, hj⟩ := List.getElem?_of_mem (((bar_way ok).mp h1.2.1).2.2 w hw lw)
  rcases Nat.lt_trichotomy i j with z | z | z
  · exact absurd h2 (hw.ord ok lw h1.1 h1.2.1 hi hj z).2
  · subst z
    rw [hi] at hj
    exact Option.some.inj hj
  · exact absurd h1 (hw.ord ok lw h1.2.1 h1.1 hj hi z).2
structure IsBars (ps : List (Int × Int)) (r : Int) (l : List Nat) : Prop where
  nd : l.Nodup
  mem : ∀ k, k ∈ l ↔ Bar ps k r
  ord : l.Pairwise (BarOrd ps r)
theorem Srch.bars (ok : ∀ p ∈ ps, 0 ≤ p.2) {found : List WD} (S : Srch ps r [] found) {w : WD} (hw : w ∈ found) (hr : Rch ps (-1) r) {q : Nat → Bool} (hq : ∀ x, q x = true ↔ ∀ v ∈ found, x ∈ v.2) : IsBars ps r (w.2.filter q) := by
  obtain ⟨sw, lw⟩ := S.f w hw
  have hlt : ∀ k ∈ w.2, k < ps.length := fun k hk => by
    obtain ⟨i, hi⟩ := List.getElem?_of_mem hk
    obtain ⟨a, b, _, _, h3⟩ := sw.link i k hi
    exact (List.getElem?_eq_some_iff.mp h3).1
  have mem : ∀ k, k ∈ w.2.filter q ↔ Bar ps k r := fun k => by
    rw [List.mem_filter, hq k, bar_way ok]
    constructor
    · rintro ⟨h1, h2⟩
      exact ⟨hr, hlt k h1, fun v hv lv => h2 v (S.done hv lv)⟩
    · rintro ⟨_, _, h⟩
      exact ⟨h w sw lw, fun v hv => h v (S.f v hv).1 (S.f v hv).2⟩
  have nd : w.2.Nodup := List.pairwise_iff_getElem.mpr fun i j hi hj hij e => by
    have h1 := List.getElem?_eq_getElem hi
    have h2 := List.getElem?_eq_getElem hj
    rw [← e] at h2
    have := sw.doors h1 h2
    omega
  refine ⟨nd.filter _, mem, ?_⟩
  have hp : (w.2.filter q).Pairwise fun x y => ∃ a b c, w.2 = a ++ x :: b ++ y :: c := by
    have := stand_pair [] w.2
    rw [List.nil_append] at this
    exact this.filter _
  refine List.Pairwise.imp_of_mem (fun {x y} hx hy ⟨a, b, c, e⟩ => ?_) hp
  have i1 : w.2[a.length]? = some x := by rw [e]; simp
  have i2 : w.2[a.length + 1 + b.length]? = some y := by
    rw [e, List.getElem?_append_right (by simp; omega)]
    simp
    rw [show a.length + 1 + b.length - (a.length + (b.length + 1)) = 0 by omega]
    rfl
  exact (sw.ord ok lw ((mem x).mp hx) ((mem y).mp hy) i1 i2 (by omega)).1
end
end Mp
end
section
namespace Mp
/-- mark k comes to a room: it starts in the marked room k, and goes on where no mark stands -/
inductive Com (ps : List (Int × Int)) (mk : Int → Bool) (k : Int) : Int → Prop
  | first {b : Int} : (k, b) ∈ ps → Rch ps (-1) k → mk k = true → Com ps mk k b
  | step {a b : Int} : Com ps mk k a → mk a = false → (a, b) ∈ ps → Rch ps (-1) a → Com ps mk k b
noncomputable def comB (ps : List (Int × Int)) (mk : Int → Bool) (k r : Int) : Bool := @decide (Com ps mk k r) (Classical.propDecidable _)
section
variable {ps : List (Int × Int)} {mk : Int → Bool}
theorem comB_iff {k r : Int} : comB ps mk k r = true ↔ Com ps mk k r := by unfold comB; exact @decide_eq_true_iff _ (Classical.propDecidable _)
theorem comB_not {k r : Int} : comB ps mk k r = false ↔ ¬ Com ps mk k r := by rw [← Bool.not_eq_true, comB_iff]
theorem Com.closed {S : Int → Int → Prop} (h1 : ∀ k b, (k, b) ∈ ps → Rch ps (-1) k → mk k = true → S k b) (h2 : ∀ k a b, S k a → mk a = false → (a, b) ∈ ps → Rch ps (-1) a → S k b) {k r : Int} (h : Com ps mk k r) : S k r := by
  induction h with
  | first a b c => exact h1 _ _ a b c
  | step _ a b c ih => exact h2 _ _ _ ih a b c
abbrev Mat := List (List Bool)
def at2 (M : Mat) (i j : Nat) : Option Bool := (M[i]?).bind fun row => row[j]?
structure IsMat (n : Nat) (M : Mat) : Prop where
  rows : M.length = n
  cols : ∀ row ∈ M, row.length = n
def put2 (M : Mat) (i j : Nat) : Mat := M.set i ((M.getD i []).set j true)
theorem IsMat.get {n : Nat} {M : Mat} (h : IsMat n M) {i : Nat} (hi : i < n) : ∃ row, M[i]? = some row ∧ row.length = n := by
  have hl : i < M.length := by rw [h.rows]; exact hi
  have e : M[i]? = some M[i] := List.getElem?_eq_getElem hl
  exact ⟨_, e, h.cols _ (List.mem_of_getElem? e)⟩
theorem IsMat.at {n : Nat} {M : Mat} (h : IsMat n M) {i j : Nat} (hi : i < n) (hj : j < n) : ∃ b, at2 M i j = some b := by
  obtain ⟨row, e, l⟩ := h.get hi
  have hl : j < row.length := by omega
  refine ⟨row[j], ?_⟩
  unfold at2
  rw [e]
  exact List.getElem?_eq_getElem hl
theorem put2_eq {M : Mat} {i j : Nat} {row : List Bool} (h : M[i]? = some row) : put2 M i j = M.set i (row.set j true) := by
  unfold put2
  rw [List.getD_eq_getElem?_getD, h]
  rfl
theorem IsMat.put {n : Nat} {M : Mat} (h : IsMat n M) {i j : Nat} (hi : i < n) : IsMat n (put2 M i j) := by
  obtain ⟨row, e, l⟩ := h.get hi
  rw [put2_eq e]
  refine ⟨by rw [List.length_set]; exact h.rows, fun r hr => ?_⟩
  rcases List.mem_or_eq_of_mem_set hr with z | z
  · exact h.cols r z
  · rw [z, List.length_set]; exact l
theorem at_put {n : Nat} {M : Mat} (h : IsMat n M) {i j i' j' : Nat} (hi : i < n) (hj : j < n) : at2 (put2 M i j) i' j' = if i' = i ∧ j' = j then some true else at2 M i' j' := by
  obtain ⟨row, e, l⟩ := h.get hi
  rw [put2_eq e]
  unfold at2
  by_cases hii : i' = i
  · subst hii
    rw [List.getElem?_set_self (by rw [h.rows]; exact hi), e]
    show (row.set j true)[j']? = _
    by_cases hjj : j' = j
    · subst hjj
      rw [if_pos ⟨rfl, rfl⟩, List.getElem?_set_self (by omega)]
    · rw [if_neg (fun z => hjj z.2), List.getElem?_set_ne (Ne.symm hjj)]
      rfl
  · rw [if_neg (fun z => hii z.1), List.getElem?_set_ne (Ne.symm hii)]
def goesM (ps : List (Int × Int)) (mk : Int → Bool) (M : Mat) (p : Int × Int) (k : Int) : Prop := Rch ps (-1) p.1 ∧ (if mk p.1 = true then k = p.1 else at2 M p.1.toNat k.toNat = some true) ∧ at2 M p.2.toNat k.toNat = some false
structure MFill (n : Nat) (ps : List (Int × Int)) (mk : Int → Bool) (M : Mat) : Prop where
  mat : IsMat n M
  sound : ∀ i j : Nat, at2 M i j = some true → Com ps mk (j : Int) (i : Int)
theorem MFill.put {n : Nat} {M : Mat} (f : MFill n ps mk M) {p : Int × Int} {k : Int} (hp : p ∈ ps) (h0 : 0 ≤ p.1) (h1 : 0 ≤ p.2 ∧ p.2 < n) (hk : 0 ≤ k ∧ k < n) (g : goesM ps mk M p k) : MFill n ps mk (put2 M p.2.toNat k.toNat) := by
  refine ⟨f.mat.put (by omega), fun i j h => ?_⟩
  rw [at_put f.mat (by omega) (by omega)] at h
  split at h
  · rename_i e
    obtain ⟨rfl, rfl⟩ := e
    rw [show ((k.toNat : Nat) : Int) = k by omega, show ((p.2.toNat : Nat) : Int) = p.2 by omega]
    obtain ⟨g1, g2, _⟩ := g
    cases hm : mk p.1 with
    | true =>
      rw [if_pos hm] at g2
      subst g2
      exact .first hp g1 hm
    | false =>
      rw [if_neg (by rw [hm]; decide)] at g2
      have := f.sound _ _ g2
      rw [show ((k.toNat : Nat) : Int) = k by omega, show ((p.1.toNat : Nat) : Int) = p.1 by omega] at this
      exact .step this hm hp g1
  · exact f.sound i j h
theorem MFill.done {n : Nat} {M : Mat} (f : MFill n ps mk M) (ok : ∀ p ∈ ps, 0 ≤ p.1 ∧ p.1 < (n : Int) ∧ 0 ≤ p.2 ∧ p.2 < (n : Int)) (h : ∀ p ∈ ps, ∀ k : Int, 0 ≤ k → k < n → ¬ goesM ps mk M p k) : ∀ i j : Nat, i < n → j < n → at2 M i j = some (comB ps mk (j : Int) (i : Int)) := by
  have cl : ∀ k r : Int, Com ps mk k r → 0 ≤ k ∧ k < n ∧ 0 ≤ r ∧ r < n ∧ at2 M r.toNat k.toNat = some true := fun k r c => by
    refine Com.closed (S := fun k r => 0 ≤ k ∧ k < (n : Int) ∧ 0 ≤ r ∧ r < (n : Int) ∧ at2 M r.toNat k.toNat = some true) (fun k b m hr hm => ?_) (fun k a b hs hm m hr => ?_) c
    · obtain ⟨o1, o2, o3, o4⟩ := ok _ m
      refine ⟨o1, o2, o3, o4, ?_⟩
      dsimp only at o1 o2 o3 o4
      obtain ⟨v, hv⟩ := f.mat.at (i := b.toNat) (j := k.toNat) (by omega) (by omega)
      cases v with
      | true => exact hv
      | false => exact absurd ⟨hr, by rw [if_pos hm], hv⟩ (h _ m k o1 o2)
    · obtain ⟨o1, o2, o3, o4⟩ := ok _ m
      obtain ⟨k0, k1, _, _, e⟩ := hs
      refine ⟨k0, k1, o3, o4, ?_⟩
      dsimp only at o1 o2 o3 o4
      obtain ⟨v, hv⟩ := f.mat.at (i := b.toNat) (j := k.toNat) (by omega) (by omega)
      cases v with
      | true => exact hv
      | false => exact absurd ⟨hr, by rw [if_neg (by rw [hm]; decide)]; exact e, hv⟩ (h _ m k k0 k1)
  intro i j hi hj
  obtain ⟨v, hv⟩ := f.mat.at hi hj
  rw [hv]
  congr 1
  cases v with
  | true => exact (comB_iff.mpr (f.sound i j hv)).symm
  | false =>
    refine (comB_not.mpr fun c => ?_).symm
    have := (cl _ _ c).2.2.2.2
    rw [Int.toNat_natCast, Int.toNat_natCast, hv] at this
    cases this
end
end Mp
end
section
namespace L3
open PySem PySem.Spec PyProof.Rows L2 Mp
/-- a table of bools at m, its rows at rs -/
structure MatAt (old H : Hp) (m : Addr) (rs : List Addr) (M : Mat) : Prop where
  lst : H m = some (.lst (rs.map V.ref))
  len : rs.length = M.length
  nd : rs.Nodup
  nm : m ∉ rs
  new : ∀ r ∈ rs, old r = none
  row : ∀ (i : Nat) r w, rs[i]? = some r → M[i]? = some w → H r = some (.lst (w.map V.bl))
theorem MatAt.same {old H H' : Hp} {m : Addr} {rs : List Addr} {M : Mat} (h : MatAt old H m rs M) (e : Same H H') : MatAt old H' m rs M :=
  ⟨e _ _ h.lst, h.len, h.nd, h.nm, h.new, fun i r w a b => e _ _ (h.row i r w a b)⟩
theorem MatAt.get {old H : Hp} {m : Addr} {rs : List Addr} {M : Mat} {n : Nat} (h : MatAt old H m rs M) (I : IsMat n M) {i : Int} (i0 : 0 ≤ i) (i1 : i < n) : ∃ r w, atI (rs.map V.ref) i = some (.ref r) ∧ rs[i.toNat]? = some r ∧ M[i.toNat]? = some w ∧ w.length = n ∧ H r = some (.lst (w.map V.bl)) := by
  obtain ⟨w, hw, l⟩ := I.get (i := i.toNat) (by omega)
  have hl : i.toNat < rs.length := by rw [h.len, I.rows]; omega
  have hr : rs[i.toNat]? = some rs[i.toNat] := List.getElem?_eq_getElem hl
  exact ⟨_, w, atI_int i0 (map_get hr), hr, hw, l, h.row _ _ _ hr hw⟩
theorem MatAt.put {old H : Hp} {m : Addr} {rs : List Addr} {M : Mat} (h : MatAt old H m rs M) {i j : Nat} {r : Addr} {w : List Bool} (hr : rs[i]? = some r) (hw : M[i]? = some w) : MatAt old (upd H r (.lst ((w.map V.bl).set j (.bl true)))) m rs (put2 M i j) := by
  have hrm := List.mem_of_getElem? hr
  have nm : m ≠ r := fun z => h.nm (z ▸ hrm)
  rw [put2_eq hw]
  refine ⟨by rw [upd_ne nm]; exact h.lst, by rw [List.length_set]; exact h.len, h.nd, h.nm, h.new, fun i' r' w' a b => ?_⟩
  by_cases e : i' = i
  · subst e
    rw [hr] at a
    cases a
    rw [List.getElem?_set_self (List.getElem?_eq_some_iff.mp hw).1] at b
    cases b
    rw [upd_same, List.map_set]
  · have ne : r' ≠ r := fun z => by
      subst z
      obtain ⟨l1, q1⟩ := List.getElem?_eq_some_iff.mp a
      obtain ⟨l2, q2⟩ := List.getElem?_eq_some_iff.mp hr
      exact e ((List.getElem_inj h.nd).mp (q1.trans q2.symm))
    rw [List.getElem?_set_ne (Ne.symm e)] at b
    rw [upd_ne ne]
    exact h.row i' r' w' a b
theorem at2_rep {n i j : Nat} {v : Bool} (h : at2 (List.replicate n (List.replicate n false)) i j = some v) : v = false := by
  unfold at2 at h
  cases e : (List.replicate n (List.replicate n false))[i]? with
  | none => rw [e] at h; cases h
  | some row =>
    rw [e] at h
    have := List.mem_of_getElem? e
    rw [(List.mem_replicate.mp this).2] at h
    have := List.mem_of_getElem? (show (List.replicate n false)[j]? = some v from h)
    exact (List.mem_replicate.mp this).2
theorem MFill.first {ps : List (Int × Int)} {mk : Int → Bool} (n : Nat) : MFill n ps mk (List.replicate n (List.replicate n false)) := by
  refine ⟨⟨by simp, fun row hr => by rw [(List.mem_replicate.mp hr).2]; simp⟩, fun i j h => ?_⟩
  have := at2_rep h
  cases this
end L3
namespace L3
open PySem PySem.Spec PyProof.Rows L2 Mp
noncomputable def mkOf (S J : List Int) (k : Int) : Bool := decide (k = 0) || (decide (k ∈ S) || decide (k ∈ J))
noncomputable def cntC (n : Int) (ps : List (Int × Int)) (mk : Int → Bool) (r : Int) : Nat := ((rooms n).filter fun j => comB ps mk j r).length
noncomputable def calmB (n : Int) (ps : List (Int × Int)) (S J : List Int) (r : Int) : Bool := !(rch ps (-1) r && (!decide (r ∈ J) && decide (1 < cntC n ps (mkOf S J) r)))
noncomputable def settledB (n : Int) (ps : List (Int × Int)) (S J : List Int) : Bool := (rooms n).all fun r => decide (r = 0) || calmB n ps S J r
theorem settled_iff {n : Int} {ps : List (Int × Int)} {S J : List Int} (O : OkNet n ps) : settledB n ps S J = true ↔ ∀ r, Rch ps (-1) r → r ≠ 0 → r ∉ J → ∀ a b, Com ps (mkOf S J) a r → Com ps (mkOf S J) b r → a = b := by
  have com_lt : ∀ {a r : Int}, Com ps (mkOf S J) a r → 0 ≤ a ∧ a < n := fun {a r} c => by
    refine Com.closed (S := fun a _ => 0 ≤ a ∧ a < n) (fun k b m _ _ => ?_) (fun k a b h _ _ _ => h) c
    have := O.ok _ m
    exact ⟨this.1, this.2.1⟩
  have cnt : ∀ r, cntC n ps (mkOf S J) r ≤ 1 ↔ ∀ a b, Com ps (mkOf S J) a r → Com ps (mkOf S J) b r → a = b := fun r => by
    have nd : ((rooms n).filter fun j => comB ps (mkOf S J) j r).Nodup := ((rooms_sorted n).imp (fun h => Int.ne_of_lt h) : (rooms n).Nodup).filter _
    have mem : ∀ a, a ∈ ((rooms n).filter fun j => comB ps (mkOf S J) j r) ↔ Com ps (mkOf S J) a r := fun a => by
      rw [List.mem_filter, mem_rooms, comB_iff]
      exact ⟨fun h => h.2, fun h => ⟨com_lt h, h⟩⟩
    unfold cntC
    generalize ((rooms n).filter fun j => comB ps (mkOf S J) j r) = L at nd mem
    constructor
    · intro h a b ha hb
      have ha' := (mem a).mpr ha
      have hb' := (mem b).mpr hb
      match L, h with
      | [], _ => simp at ha'
      | [c], _ => rw [List.mem_singleton.mp ha', List.mem_singleton.mp hb']
    · intro h
      match L, nd, mem with
      | [], _, _ => exact Nat.zero_le _
      | [c], _, _ => exact Nat.le_refl _
      | c :: d :: t, nd, mem =>
        exfalso
        have := h c d ((mem c).mp (by simp)) ((mem d).mp (by simp))
        subst this
        simp at nd
  unfold settledB
  rw [List.all_eq_true]
  constructor
  · intro h r hr r0 hj
    have := h r (mem_rooms.mpr (O.lt hr))
    rw [Bool.or_eq_true, decide_eq_true_iff] at this
    rcases this with z | z
    · exact absurd z r0
    · unfold calmB at z
      rw [rch_iff.mpr hr, decide_eq_false hj] at z
      refine (cnt r).mp ?_
      simp at z
      exact z
  · intro h r hr
    rw [Bool.or_eq_true, decide_eq_true_iff]
    by_cases r0 : r = 0
    · exact .inl r0
    · refine .inr ?_
      unfold calmB
      cases e1 : rch ps (-1) r with
      | false => rfl
      | true =>
        cases e2 : decide (r ∈ J) with
        | true => rfl
        | false =>
          have := (cnt r).mpr (h r (rch_iff.mp e1) r0 (of_decide_eq_false e2))
          rw [decide_eq_false (by omega)]
          rfl
end L3
namespace L3
open PySem PySem.Spec PyProof.Rows L2 Mp
/-- the joins: the least settled set -/
structure IsJoins (n : Int) (ps : List (Int × Int)) (S J : List Int) : Prop where
  srt : J.Pairwise (· < ·)
  mem : ∀ k ∈ J, Rch ps (-1) k ∧ k ≠ 0
  ok : settledB n ps S J = true
  least : ∀ J', (∀ k ∈ J', Rch ps (-1) k ∧ k ≠ 0) → settledB n ps S J' = true → ∀ k ∈ J, k ∈ J'
end L3
namespace L3
open PySem PySem.Spec PyProof.Rows L2 Mp
def SetV (H : Hp) (s : List Int) (v : V) : Prop := ∃ t, v = .ref t ∧ H t = some (.lst (s.map V.int))
theorem SetV.same {H H' : Hp} {s : List Int} {v : V} (h : SetV H s v) (e : Same H H') : SetV H' s v := by
  obtain ⟨t, a, b⟩ := h
  exact ⟨t, a, e _ _ b⟩
end L3
namespace L3
open PySem PySem.Spec PyProof.Rows L2 Mp
end L3
namespace L3
open PySem PySem.Spec PyProof.Rows L2 Mp
end L3
end
section
namespace Mp
section
variable {ps : List (Int × Int)}
theorem IsWay.guards (ok : ∀ p ∈ ps, 0 ≤ p.2) {w : List Int} {r : Int} (W : IsWay ps w r) (nd : w.Nodup) (hr : Rch ps (-1) r) {q : Int → Bool} (hq : ∀ x, q x = true ↔ Dom ps x r) : IsGuards ps r (w.filter q) := by
  have mem : ∀ g, g ∈ w.filter q ↔ Dom ps g r := fun g => by
    rw [List.mem_filter, hq]
    exact ⟨fun h => h.2, fun h => ⟨(dom_way.mp h).2 w W, h⟩⟩
  refine ⟨nd.filter _, mem, ?_⟩
  have hp : (w.filter q).Pairwise fun x y => ∃ a b c, w = a ++ x :: b ++ y :: c := by
    have := stand_pair [] w
    rw [List.nil_append] at this
    exact this.filter _
  refine List.Pairwise.imp_of_mem (fun {x y} hx hy ⟨a, b, c, e⟩ => ?_) hp
  have dx := (mem x).mp hx
  have dy := (mem y).mp hy
  rcases Dom.chain ok dx dy with z | z
  · exact z
  · exfalso
    subst e
    have e2 : a ++ x :: b ++ y :: c = a ++ x :: (b ++ y :: c) := by simp
    rw [e2] at W nd
    have wx : IsWay ps (a ++ [x]) x := W.upto
    have := (dom_way.mp z).2 _ wx
    rw [List.nodup_append] at nd
    obtain ⟨n1, n2, n3⟩ := nd
    rcases List.mem_append.mp this with h | h
    · exact n3 y h y (by simp) rfl
    · have e3 := List.mem_singleton.mp h
      subst e3
      simp at n2
theorem IsGuards.common (ok : ∀ p ∈ ps, 0 ≤ p.2) {rs gs : List Int} {r : Int} (G : IsGuards ps r gs) (hr : r ∈ rs) (hall : ∀ k ∈ rs, Rch ps (-1) k) {q : Int → Bool} (hq : ∀ x, q x = true ↔ ∀ k ∈ rs, Dom ps x k) : ∃ m g, gs.filter q = m ++ [g] ∧ IsCommon ps rs g := by
  have h0 : (0 : Int) ∈ gs.filter q := List.mem_filter.mpr ⟨(G.mem 0).mpr (Dom.zero (hall r hr)), (hq 0).mpr fun k hk => Dom.zero (hall k hk)⟩
  have hne : gs.filter q ≠ [] := fun z => by rw [z] at h0; simp at h0
  have e := (List.dropLast_concat_getLast hne).symm
  generalize (gs.filter q).dropLast = m at e
  generalize (gs.filter q).getLast hne = g at e
  have hg : g ∈ gs.filter q := by rw [e]; simp
  have dg := (hq g).mp (List.mem_filter.mp hg).2
  refine ⟨m, g, e, dg, fun d hd => ?_⟩
  have hd' : d ∈ gs.filter q := List.mem_filter.mpr ⟨(G.mem d).mpr (hd r hr), (hq d).mpr hd⟩
  have o := G.ord.filter q
  rw [e] at hd' o
  rcases List.mem_append.mp hd' with z | z
  · exact (List.pairwise_append.mp o).2.2 d z g (by simp)
  · rw [List.mem_singleton.mp z]
    exact Dom.self ((dg r hr).reached ok)
theorem IsGuards.zero {gs : List Int} (G : IsGuards ps 0 gs) : gs = [0] := by
  have : ∀ x, x ∈ gs ↔ x = 0 := fun x => by
    rw [G.mem]
    constructor
    · rintro ⟨_, h⟩
      by_cases e : x = 0
      · exact e
      · exact absurd (.start e) h
    · rintro rfl
      exact Dom.self (.start (by decide))
  have nd := G.nd
  match gs, nd, this with
  | [], _, t => exact absurd ((t 0).mpr rfl) (by simp)
  | [a], _, t => rw [(t a).mp (by simp)]
  | a :: b :: r, nd, t =>
    have h1 := (t a).mp (by simp)
    have h2 := (t b).mp (by simp)
    rw [h1, h2] at nd
    simp at nd
def FirstDoor (ps : List (Int × Int)) (g : Int) (k : Nat) : Prop := ∃ a, ps[k]? = some (a, g) ∧ Rch ps g a
theorem rch_erase {k : Nat} {z x : Int} (h : Rch (ps.eraseIdx k) z x) : Rch ps z x := h.mono fun p hp => List.mem_of_mem_eraseIdx hp
theorem Rch.past_door (ok : ∀ p ∈ ps, 0 ≤ p.2) {k : Nat} {a g x : Int} (hk : ps[k]? = some (a, g)) (h : Rch ps g x) : Rch (ps.eraseIdx k) (-1) x := by
  induction h with
  | start h => exact .start (by decide)
  | @step u v _ m n ih =>
    obtain ⟨j, hj⟩ := List.getElem?_of_mem m
    refine .step ih (mem_erase hj fun e => ?_) fun e => ?_
    · subst e
      rw [hk] at hj
      cases hj
      exact n rfl
    · have := ok _ m
      dsimp at this
      omega
theorem Rch.past_door' (ok : ∀ p ∈ ps, 0 ≤ p.2) {k : Nat} {a g x : Int} (hk : ps[k]? = some (a, g)) (hg : Rch (ps.eraseIdx k) (-1) g) (h : Rch ps (-1) x) : Rch (ps.eraseIdx k) (-1) x := by
  induction h with
  | start h => exact .start (by decide)
  | @step u v _ m n ih =>
    obtain ⟨j, hj⟩ := List.getElem?_of_mem m
    by_cases e : v = g
    · rw [e]; exact hg
    · refine .step ih (mem_erase hj fun q => ?_) n
      subst q
      rw [hk] at hj
      cases hj
      exact e rfl
theorem bar_first (ok : ∀ p ∈ ps, 0 ≤ p.2) {k : Nat} {r : Int} : Bar ps k r ↔ ∃ g, Dom ps g r ∧ ∀ j, FirstDoor ps g j ↔ j = k := by
  constructor
  · rintro ⟨h1, h2, h3⟩
    obtain ⟨⟨a, g⟩, hk⟩ : ∃ p, ps[k]? = some p := ⟨_, List.getElem?_eq_getElem h2⟩
    have dg : Dom ps g r := ⟨h1, fun z => h3 (z.past_door ok hk)⟩
    have rg := dg.reached ok
    have hng : ¬ Rch (ps.eraseIdx k) (-1) g := fun z => h3 (Rch.past_door' ok hk z h1)
    have g0 : g ≠ 0 := fun z => hng (by rw [z]; exact .start (by decide))
    have only : ∀ j, FirstDoor ps g j → j = k := by
      rintro j ⟨b, hj, rb⟩
      by_cases e : j = k
      · exact e
      · refine absurd (.step (rb.past_door ok hk) (mem_erase hj e) ?_) hng
        have := ok _ (List.mem_of_getElem? hj)
        dsimp at this
        omega
    refine ⟨g, dg, fun j => ⟨only j, fun e => ?_⟩⟩
    obtain ⟨p, hp, e1, _, _, e4⟩ := rg.enter g0
    obtain ⟨i, hi⟩ := List.getElem?_of_mem hp
    have F : FirstDoor ps g i := ⟨p.1, by rw [hi, ← e1], e4⟩
    rw [e, ← only i F]
    exact F
  · rintro ⟨g, dg, h⟩
    obtain ⟨a, hk, ra⟩ := (h k).mpr rfl
    refine ⟨dg.1, (List.getElem?_eq_some_iff.mp hk).1, fun z => ?_⟩
    have g0 : g ≠ 0 := fun e => by
      rw [e] at ra
      exact Rch.closed (S := fun _ => False) (fun h => (h rfl).elim) (fun _ _ h _ _ => h) ra
    have zg : Rch (ps.eraseIdx k) (-1) g := by
      by_cases zz : Rch (ps.eraseIdx k) (-1) g
      · exact zz
      · exfalso
        refine dg.2 (Rch.closed (S := fun x => Rch (ps.eraseIdx k) (-1) x ∧ Rch ps g x) (fun _ => ⟨.start (by decide), .start g0⟩) (fun u v ⟨s1, s2⟩ m n => ?_) z).2
        have rv := s1.step m n
        exact ⟨rv, s2.step (List.mem_of_mem_eraseIdx m) fun e => zz (e ▸ rv)⟩
    obtain ⟨p, hp, e1, _, _, e4⟩ := zg.enter g0
    obtain ⟨i, hi⟩ := List.getElem?_of_mem hp
    rw [erase_get] at hi
    have F : FirstDoor ps g (shift k i) := ⟨p.1, by rw [hi, ← e1], rch_erase e4⟩
    exact shift_ne ((h _).mp F)
theorem IsGuards.bars (ok : ∀ p ∈ ps, 0 ≤ p.2) {gs : List Int} {r : Int} (G : IsGuards ps r gs) (hr : Rch ps (-1) r) {f : Int → List Nat} (fnd : ∀ g, (f g).Nodup) (hf : ∀ g k, k ∈ f g ↔ FirstDoor ps g k) :
    IsBars ps r (gs.flatMap fun g => if (f g).length = 1 then f g else []) := by
  have one : ∀ g k, k ∈ (if (f g).length = 1 then f g else []) ↔ f g = [k] := fun g k => by
    constructor
    · intro h
      by_cases e : (f g).length = 1
      · rw [if_pos e] at h
        match hfg : f g, e with
        | [x], _ => rw [hfg] at h; rw [List.mem_singleton.mp h]
      · rw [if_neg e] at h; simp at h
    · intro h
      rw [h]
      simp
  have iff1 : ∀ g k, f g = [k] ↔ ∀ j, FirstDoor ps g j ↔ j = k := fun g k => by
    constructor
    · intro h j
      rw [← hf, h, List.mem_singleton]
    · intro h
      have h' : ∀ j, j ∈ f g ↔ j = k := fun j => by rw [hf]; exact h j
      have nd := fnd g
      match hfg : f g, nd with
      | [], _ => rw [hfg] at h'; exact absurd ((h' k).mpr rfl) (by simp)
      | [a], _ => rw [hfg] at h'; rw [(h' a).mp (by simp)]
      | a :: b :: t, nd =>
        rw [hfg] at h'
        have h1 := (h' a).mp (by simp)
        have h2 := (h' b).mp (by simp)
        rw [h1, h2] at nd
        simp at nd
  have bar : ∀ g x k, Dom ps g x → f g = [k] → Bar ps k x := fun g x k d h => (bar_first ok).mpr ⟨g, d, (iff1 g k).mp h⟩
  have door : ∀ g k, f g = [k] → ∃ a, ps[k]? = some (a, g) := fun g k h => by
    obtain ⟨a, ha, _⟩ := (hf g k).mp (by rw [h]; simp)
    exact ⟨a, ha⟩
  have dne : gs.Pairwise fun a b => a ≠ b ∧ Dom ps a b := G.nd.and G.ord
  refine ⟨?_, fun k => ?_, ?_⟩
  · refine List.pairwise_flatMap.mpr ⟨fun g _ => ?_, dne.imp fun {g h} e x hx y hy z => ?_⟩
    · split
      · exact fnd g
      · exact List.Pairwise.nil
    · subst z
      obtain ⟨a, ha⟩ := door g x ((one g x).mp hx)
      obtain ⟨b, hb⟩ := door h x ((one h x).mp hy)
      rw [ha] at hb
      cases hb
      exact e.1 rfl
  · rw [List.mem_flatMap, bar_first ok]
    constructor
    · rintro ⟨g, hg, hk⟩
      exact ⟨g, (G.mem g).mp hg, (iff1 g k).mp ((one g k).mp hk)⟩
    · rintro ⟨g, dg, h⟩
      exact ⟨g, (G.mem g).mpr dg, (one g k).mpr ((iff1 g k).mpr h)⟩
  · refine List.pairwise_flatMap.mpr ⟨fun g _ => ?_, List.Pairwise.imp_of_mem (fun {g h} mg mh e x hx y hy => ?_) dne⟩
    · split
      · rename_i e
        match f g, e with
        | [x], _ => exact List.pairwise_singleton _ _
      · exact List.Pairwise.nil
    · have fx := (one g x).mp hx
      have fy := (one h y).mp hy
      refine ⟨bar g r x ((G.mem g).mp mg) fx, bar h r y ((G.mem h).mp mh) fy, fun p hp z => ?_⟩
      obtain ⟨b, hb⟩ := door h y fy
      rw [hp] at hb
      cases hb
      have bx := bar g h x e.2 fx
      refine bx.2.2 (.step z (mem_erase hp fun q => ?_) ?_)
      · subst q
        obtain ⟨c, hc⟩ := door g y fx
        rw [hp] at hc
        cases hc
        exact e.1 rfl
      · have := ok _ (List.mem_of_getElem? hp)
        dsimp at this
        omega
end
section
variable {ps : List (Int × Int)} {h : Int} {sts : List Int}
inductive BkS (ps : List (Int × Int)) (h : Int) (sts : List Int) : Int → Prop
  | head : BkS ps h sts h
  | start {a : Int} : a ∈ sts → BkS ps h sts a
  | step {a b : Int} : BkS ps h sts b → (a, b) ∈ ps → b ≠ h → BkS ps h sts a
theorem LpS.bk {k : Int} (l : LpS ps h sts k) : BkS ps h sts k := by
  induction l with
  | head => exact .head
  | start m => exact .start m
  | step _ m ne _ ih => exact .step ih m ne
/-- the search backwards: found so far, waiting -/
structure BkSrch (ps : List (Int × Int)) (h : Int) (sts found wait : List Int) : Prop where
  nd : found.Nodup
  hd : h ∈ found
  sound : ∀ k ∈ found, BkS ps h sts k
  wsound : ∀ k ∈ wait, BkS ps h sts k
  st : ∀ k ∈ sts, k ∈ found ∨ k ∈ wait
  cl : ∀ b ∈ found, b ≠ h → ∀ a, (a, b) ∈ ps → a ∈ found ∨ a ∈ wait
theorem BkSrch.first : BkSrch ps h sts [h] sts :=
  ⟨by simp, by simp, fun k hk => by rw [List.mem_singleton.mp hk]; exact .head, fun k hk => .start hk, fun k hk => .inr hk, fun b hb ne => absurd (List.mem_singleton.mp hb) ne⟩
theorem BkSrch.old {found wait : List Int} {r : Int} (B : BkSrch ps h sts found (wait ++ [r])) (hr : r ∈ found) : BkSrch ps h sts found wait := by
  have cut : ∀ a, a ∈ found ∨ a ∈ wait ++ [r] → a ∈ found ∨ a ∈ wait := fun a z => by
    rcases z with z | z
    · exact .inl z
    · rcases List.mem_append.mp z with z | z
      · exact .inr z
      · rw [List.mem_singleton.mp z]; exact .inl hr
  exact ⟨B.nd, B.hd, B.sound, fun k hk => B.wsound k (List.mem_append_left _ hk), fun k hk => cut k (B.st k hk), fun b hb ne a m => cut a (B.cl b hb ne a m)⟩
theorem BkSrch.new {found wait led : List Int} {r : Int} (B : BkSrch ps h sts found (wait ++ [r])) (hr : r ∉ found) (hl : ∀ a, a ∈ led ↔ (a, r) ∈ ps) : BkSrch ps h sts (found ++ [r]) (wait ++ led) := by
  have br := B.wsound r (by simp)
  have rh : r ≠ h := fun e => hr (e ▸ B.hd)
  have cut : ∀ a, a ∈ found ∨ a ∈ wait ++ [r] → a ∈ found ++ [r] ∨ a ∈ wait ++ led := fun a z => by
    rcases z with z | z
    · exact .inl (List.mem_append_left _ z)
    · rcases List.mem_append.mp z with z | z
      · exact .inr (List.mem_append_left _ z)
      · exact .inl (List.mem_append_right _ z)
  refine ⟨?_, List.mem_append_left _ B.hd, fun k hk => ?_, fun k hk => ?_, fun k hk => cut k (B.st k hk), fun b hb ne a m => ?_⟩
  · rw [List.nodup_append]
    refine ⟨B.nd, by simp, fun a ha b hb e => ?_⟩
    rw [List.mem_singleton.mp hb] at e
    exact hr (e ▸ ha)
  · rcases List.mem_append.mp hk with z | z
    · exact B.sound k z
    · rw [List.mem_singleton.mp z]; exact br
  · rcases List.mem_append.mp hk with z | z
    · exact B.wsound k (List.mem_append_left _ z)
    · exact .step br ((hl k).mp z) rh
  · rcases List.mem_append.mp hb with z | z
    · exact cut a (B.cl b z ne a m)
    · rw [List.mem_singleton.mp z] at m
      exact .inr (List.mem_append_right _ ((hl a).mpr m))
theorem BkSrch.done {found : List Int} (B : BkSrch ps h sts found []) {k : Int} : k ∈ found ↔ BkS ps h sts k := by
  refine ⟨B.sound k, fun b => ?_⟩
  induction b with
  | head => exact B.hd
  | start m => exact (B.st _ m).elim id fun z => by simp at z
  | step _ m ne ih => exact (B.cl _ ih ne _ m).elim id fun z => by simp at z
end
section
variable {ps : List (Int × Int)}
def Edge (ps : List (Int × Int)) (x o : Int) : Prop := (∃ k, (k, o) ∈ ps ∧ Dom ps x k) ∧ (o = x ∨ ¬ Dom ps x o)
inductive Clo (ps : List (Int × Int)) (S : List Int) : Int → Prop
  | start {x o : Int} : x ∈ S → Edge ps x o → Clo ps S o
  | step {x o : Int} : Clo ps S x → Edge ps x o → Clo ps S o
theorem Edge.reached (ok : ∀ p ∈ ps, 0 ≤ p.2) {x o : Int} (e : Edge ps x o) : Rch ps (-1) o := by
  obtain ⟨⟨k, m, d⟩, _⟩ := e
  refine .step d.1 m ?_
  have := ok _ m
  dsimp at this
  omega
theorem Clo.reached (ok : ∀ p ∈ ps, 0 ≤ p.2) {S : List Int} {o : Int} (c : Clo ps S o) : Rch ps (-1) o := by
  cases c with
  | start _ e => exact e.reached ok
  | step _ e => exact e.reached ok
variable {mk : Int → Bool}
theorem Com.from {x r y : Int} (c : Com ps mk x r) (hy : mk y = true) (ry : Rch ps y x) (ne : r ≠ y) : Rch ps y r := by
  induction c with
  | first m _ _ => exact ry.step m ne
  | @step a b _ ma m _ ih =>
    refine (ih fun e => ?_).step m ne
    rw [e, hy] at ma
    cases ma
theorem Com.marked {x r : Int} (c : Com ps mk x r) : mk x = true ∧ Rch ps (-1) x := by
  induction c with
  | first _ h1 h2 => exact ⟨h2, h1⟩
  | step _ _ _ _ ih => exact ih
theorem Com.dom {F : Int → Prop} (ok : ∀ p ∈ ps, 0 ≤ p.2) (hF : ∀ x o, mk x = true → Edge ps x o → o = 0 ∨ F o) (hm : ∀ o, F o → mk o = true ∨ o = 0) (m0 : mk 0 = true) {x r : Int} (c : Com ps mk x r) (h0 : r ≠ 0) (hr : ¬ F r) : Dom ps x r ∧ x ≠ r := by
  have rr : ∀ {x r : Int}, Com ps mk x r → Rch ps (-1) r := fun c => by
    cases c with
    | first m h _ =>
      refine h.step m ?_
      have := ok _ m
      dsimp at this
      omega
    | step _ _ m h =>
      refine h.step m ?_
      have := ok _ m
      dsimp at this
      omega
  have one : ∀ {x k o : Int}, mk x = true → Dom ps x k → (k, o) ∈ ps → o ≠ 0 → ¬ F o → Dom ps x o ∧ x ≠ o := fun {x k o} hx d m o0 no => by
    have ne : ¬ Edge ps x o := fun e => (hF x o hx e).elim o0 no
    by_cases hd : Dom ps x o
    · exact ⟨hd, fun e => ne ⟨⟨k, m, d⟩, .inl e.symm⟩⟩
    · exact absurd ⟨⟨k, m, d⟩, .inr hd⟩ ne
  induction c with
  | first m hx hm' => exact one hm' (Dom.self hx) m h0 hr
  | @step a b c ma m _ ih =>
    have a0 : a ≠ 0 := fun e => by rw [e, m0] at ma; cases ma
    have na : ¬ F a := fun z => by
      rcases hm a z with y | y
      · rw [y] at ma; cases ma
      · exact a0 y
    exact one c.marked.1 (ih a0 na).1 m h0 hr
theorem calm_of {F : Int → Prop} (ok : ∀ p ∈ ps, 0 ≤ p.2) (hF : ∀ x o, mk x = true → Edge ps x o → o = 0 ∨ F o) (hm : ∀ o, F o → mk o = true ∨ o = 0) (m0 : mk 0 = true) {x y r : Int} (cx : Com ps mk x r) (cy : Com ps mk y r) (h0 : r ≠ 0) (hr : ¬ F r) : x = y := by
  obtain ⟨dx, nx⟩ := cx.dom ok hF hm m0 h0 hr
  obtain ⟨dy, ny⟩ := cy.dom ok hF hm m0 h0 hr
  have key : ∀ {x y : Int}, Com ps mk x r → Com ps mk y r → Dom ps y r → y ≠ r → Dom ps x y → x = y := fun {x y} cx cy dy ny d => by
    by_cases e : x = y
    · exact e
    · exfalso
      have nd : ¬ Dom ps y x := fun z => e (d.anti z)
      have ry : Rch ps y x := by
        by_cases z : Rch ps y x
        · exact z
        · exact absurd ⟨cx.marked.2, z⟩ nd
      exact dy.2 (cx.from cy.marked.1 ry (Ne.symm ny))
  rcases Dom.chain ok dx dy with z | z
  · exact key cx cy dy ny z
  · exact (key cy cx dx nx z).symm
theorem last_mark (ok : ∀ p ∈ ps, 0 ≤ p.2) (m0 : mk 0 = true) {z a : Int} (h : Rch ps z a) : ∃ m, Rch ps z m ∧ mk m = true ∧ (m = a ∨ (Com ps mk m a ∧ mk a = false)) := by
  induction h with
  | start h => exact ⟨0, .start h, m0, .inl rfl⟩
  | @step a b ha m n ih =>
    cases e : mk b with
    | true => exact ⟨b, ha.step m n, e, .inl rfl⟩
    | false =>
      obtain ⟨k, h1, h2, h3⟩ := ih
      refine ⟨k, h1, h2, .inr ⟨?_, rfl⟩⟩
      rcases h3 with rfl | ⟨c, q⟩
      · exact .first m (h1.any' ok) h2
      · exact .step c q m (ha.any' ok)
theorem last_com (ok : ∀ p ∈ ps, 0 ≤ p.2) (m0 : mk 0 = true) {z a o : Int} (h : Rch ps z a) (m : (a, o) ∈ ps) : ∃ k, Rch ps z k ∧ Com ps mk k o := by
  obtain ⟨k, h1, h2, h3⟩ := last_mark ok m0 h
  refine ⟨k, h1, ?_⟩
  rcases h3 with rfl | ⟨c, q⟩
  · exact .first m (h1.any' ok) h2
  · exact .step c q m (h.any' ok)
theorem last_in (ok : ∀ p ∈ ps, 0 ≤ p.2) {x k : Int} (hx : mk x = true) (h : Rch ps (-1) k) : Dom ps x k → ∃ m, Dom ps x m ∧ mk m = true ∧ (m = k ∨ (Com ps mk m k ∧ mk k = false)) := by
  induction h with
  | start h =>
    intro d
    by_cases e : x = 0
    · exact ⟨0, d, by rw [← e]; exact hx, .inl rfl⟩
    · exact absurd (.start e) d.2
  | @step a b ha m n ih =>
    intro d
    by_cases e : b = x
    · exact ⟨b, d, by rw [e]; exact hx, .inl rfl⟩
    have da : Dom ps x a := ⟨ha, fun z => d.2 (z.step m e)⟩
    cases q : mk b with
    | true => exact ⟨b, d, q, .inl rfl⟩
    | false =>
      obtain ⟨k, h1, h2, h3⟩ := ih da
      refine ⟨k, h1, h2, .inr ⟨?_, rfl⟩⟩
      rcases h3 with rfl | ⟨c, q'⟩
      · exact .first m h1.1 h2
      · exact .step c q' m ha
theorem Edge.two (ok : ∀ p ∈ ps, 0 ≤ p.2) (m0 : mk 0 = true) {x o : Int} (hx : mk x = true) (e : Edge ps x o) (o0 : o ≠ 0) : ∃ a b, Com ps mk a o ∧ Com ps mk b o ∧ a ≠ b := by
  have ro := e.reached ok
  obtain ⟨⟨k, m, d⟩, h⟩ := e
  obtain ⟨a, d1, m1, h1⟩ := last_in ok hx d.1 d
  have ca : Com ps mk a o := by
    rcases h1 with rfl | ⟨c, q⟩
    · exact .first m d1.1 m1
    · exact .step c q m d.1
  have out : ∃ u, (u, o) ∈ ps ∧ Rch ps x u := by
    rcases h with rfl | h
    · obtain ⟨p, hp, e1, _, _, e4⟩ := ro.enter o0
      exact ⟨p.1, by rw [← e1]; exact hp, e4⟩
    · have rx : Rch ps x o := by
        by_cases z : Rch ps x o
        · exact z
        · exact absurd ⟨ro, z⟩ h
      cases rx with
      | start _ => exact absurd rfl o0
      | step ha mm _ => exact ⟨_, mm, ha⟩
  obtain ⟨u, mu, ru⟩ := out
  obtain ⟨b, rb, cb⟩ := last_com ok m0 ru mu
  exact ⟨a, b, ca, cb, fun z => d1.2 (z ▸ rb)⟩
/-- the closing: found so far, waiting, the room that is looked at -/
structure CloS (ps : List (Int × Int)) (S found wait : List Int) (r : Option Int) : Prop where
  nd : found.Nodup
  sound : ∀ k ∈ found, Clo ps S k
  wsound : ∀ k ∈ wait, k ∈ S ∨ k ∈ found
  rsound : ∀ k, r = some k → k ∈ S ∨ k ∈ found
  all : ∀ k, k ∈ S ∨ k ∈ found → k ∈ wait ∨ r = some k ∨ ∀ o, Edge ps k o → o ∈ found
theorem CloS.first {S : List Int} : CloS ps S [] S none := ⟨by simp, fun k h => by simp at h, fun k h => .inl h, fun k h => (by cases h), fun k h => .inl (h.elim id fun z => by simp at z)⟩
theorem CloS.pop {S found wait : List Int} {r : Int} (c : CloS ps S found (wait ++ [r]) none) : CloS ps S found wait (some r) := by
  refine ⟨c.nd, c.sound, fun k hk => c.wsound k (List.mem_append_left _ hk), fun k hk => by cases hk; exact c.wsound r (by simp), fun k hk => ?_⟩
  rcases c.all k hk with z | z | z
  · rcases List.mem_append.mp z with z | z
    · exact .inl z
    · rw [List.mem_singleton.mp z]; exact .inr (.inl rfl)
  · cases z
  · exact .inr (.inr z)
theorem CloS.add {S found wait : List Int} {r o : Int} (c : CloS ps S found wait (some r)) (e : Edge ps r o) (ho : o ∉ found) : CloS ps S (found ++ [o]) (wait ++ [o]) (some r) := by
  have up : ∀ {k}, k ∈ S ∨ k ∈ found → k ∈ S ∨ k ∈ found ++ [o] := fun h => h.imp id fun z => List.mem_append_left _ z
  refine ⟨?_, fun k hk => ?_, fun k hk => ?_, fun k hk => up (c.rsound k hk), fun k hk => ?_⟩
  · rw [List.nodup_append]
    refine ⟨c.nd, by simp, fun a ha b hb z => ?_⟩
    rw [List.mem_singleton.mp hb] at z
    exact ho (z ▸ ha)
  · rcases List.mem_append.mp hk with z | z
    · exact c.sound k z
    · rw [List.mem_singleton.mp z]
      rcases c.rsound r rfl with y | y
      · exact .start y e
      · exact .step (c.sound r y) e
  · rcases List.mem_append.mp hk with z | z
    · exact up (c.wsound k z)
    · exact .inr (List.mem_append_right _ z)
  · have old : k ∈ S ∨ k ∈ found → k ∈ wait ++ [o] ∨ some r = some k ∨ ∀ o', Edge ps k o' → o' ∈ found ++ [o] := fun h => by
      rcases c.all k h with z | z | z
      · exact .inl (List.mem_append_left _ z)
      · exact .inr (.inl z)
      · exact .inr (.inr fun o' e' => List.mem_append_left _ (z o' e'))
    rcases hk with z | z
    · exact old (.inl z)
    · rcases List.mem_append.mp z with z | z
      · exact old (.inr z)
      · exact .inl (List.mem_append_right _ z)
theorem CloS.close {S found wait : List Int} {r : Int} (c : CloS ps S found wait (some r)) (h : ∀ o, Edge ps r o → o ∈ found) : CloS ps S found wait none := by
  refine ⟨c.nd, c.sound, c.wsound, fun k hk => (by cases hk), fun k hk => ?_⟩
  rcases c.all k hk with z | z | z
  · exact .inl z
  · cases z; exact .inr (.inr h)
  · exact .inr (.inr z)
theorem CloS.done {S found : List Int} (c : CloS ps S found [] none) {x o : Int} (h : x ∈ S ∨ x ∈ found) (e : Edge ps x o) : o ∈ found := by
  rcases c.all x h with z | z | z
  · simp at z
  · cases z
  · exact z o e
end
end Mp
end
section
namespace L3
open PySem PySem.Spec PyProof.Rows L2 Mp
theorem found_dec {ps : List (Int × Int)} {z : Int} {tr : Tr} (F : Found ps z tr) (k : Int) : decide (k ∈ ks tr) = rch ps z k := by
  rw [Bool.eq_iff_iff, decide_eq_true_iff, rch_iff]
  exact F.all k
theorem guarded_eq {n g : Int} {ps : List (Int × Int)} {tr : Tr} (F : Found ps g tr) : (reachedL n ps).filter (fun k => !decide (k ∈ ks tr)) = (rooms n).filter (domB ps g) := by
  unfold reachedL
  rw [List.filter_filter]
  congr 1
  funext k
  rw [found_dec F]
  unfold domB
  exact Bool.and_comm _ _
theorem rooms_small {n : Int} {ps : List (Int × Int)} (O : OkNet n ps) (p : Int → Bool) : ((rooms n).filter p).length ≤ 40 := by
  have := O.hi
  exact Nat.le_trans (List.length_filter_le _ _) (by rw [rooms_len]; omega)
theorem mem_guarded {n g k : Int} {ps : List (Int × Int)} (O : OkNet n ps) : k ∈ (rooms n).filter (domB ps g) ↔ Dom ps g k := by
  rw [List.mem_filter, mem_rooms, domB_iff]
  exact ⟨fun h => h.2, fun h => ⟨O.lt h.1, h⟩⟩
theorem OkNet.ok2 {n : Int} {ps : List (Int × Int)} (O : OkNet n ps) : ∀ p ∈ ps, 0 ≤ p.2 := fun p hp => (O.ok p hp).2.2.1
theorem all_dom {ps : List (Int × Int)} {rs : List Int} {g : Int} : rs.all (domB ps g) = true ↔ ∀ k ∈ rs, Dom ps g k := by
  rw [List.all_eq_true]
  exact ⟨fun h k hk => domB_iff.mp (h k hk), fun h k hk => domB_iff.mpr (h k hk)⟩
theorem all_one {ps : List (Int × Int)} {g r : Int} : [r].all (domB ps g) = domB ps g r := by rw [List.all_cons, List.all_nil, Bool.and_true]
theorem any_out {ps : List (Int × Int)} {g : Int} {tr : Tr} {rs : List Int} (F : Found ps g tr) (hr : ∀ k ∈ rs, Rch ps (-1) k) : (!((rs.map fun k => decide (k ∈ ks tr)).any id)) = rs.all (domB ps g) := by
  rw [Bool.eq_iff_iff, all_dom, Bool.not_eq_true', ← Bool.not_eq_true, List.any_eq_true]
  constructor
  · intro h k hk
    exact ⟨hr k hk, fun z => h ⟨true, List.mem_map.mpr ⟨k, hk, decide_eq_true ((F.all k).mpr z)⟩, rfl⟩⟩
  · rintro h ⟨b, hb, e⟩
    obtain ⟨k, hk, rfl⟩ := List.mem_map.mp hb
    exact (h k hk).2 ((F.all k).mp (of_decide_eq_true e))
theorem int_get {ns : List Int} {i : Nat} {y : V} (h : (ns.map V.int)[i]? = some y) : ∃ r, ns[i]? = some r ∧ y = .int r := by
  rw [List.getElem?_map] at h
  cases e : ns[i]? with
  | none => rw [e] at h; cases h
  | some r => rw [e] at h; cases h; exact ⟨r, rfl, rfl⟩
theorem comp_two_pure {K : PySem.W.Frag} {H : Hp} {l : Addr} {xs : List V} {ps : List (Int × Int)} {caps : L2.St} {τ : L2.St} {tt : TT} {te : TE} {Q : VK} (p : Int × Int → Bool) (f : Int × Int → V) (hl : SqL K H l xs) (hp : PairsV H ps xs) (hz : ps.length ≤ 1000) (hτ : τ = none :: none :: caps)
    (ht : ∀ (y : Int × Int) (P : Bool → Hp → Prop), y ∈ ps → P (p y) H → tt (some (.int y.1) :: some (.int y.2) :: caps) H P)
    (he : ∀ (y : Int × Int) (P : VK), y ∈ ps → p y = true → P (f y) H → te (some (.int y.1) :: some (.int y.2) :: caps) H P)
    (hq : ∀ a, H a = none → Q (.ref a) (upd H a (.lst ((ps.filter p).map f)))) :
    ∃ W : Nat → Nat → List V → L2.St → Hp → Prop, (∃ c, W 0 c [] τ H) ∧ CompStep (Itl K l) (gTup K 2 (gCons (gName 0) (gCons (gName 1) gNil))) tt te Q W := by
  have hlen := hp.length
  refine comp_list (xs := xs) (fun i acc τ H2 => H2 = H ∧ (∃ u v, τ = u :: v :: caps) ∧ acc = ((ps.take i).filter p).map f) (by rw [← hlen, sizeLine_eq]; omega) ⟨rfl, ⟨none, none, hτ⟩, rfl⟩ ?_ ?_ ?_
  · rintro i acc τ H2 hi ⟨rfl, _, rfl⟩
    refine ⟨hl, ?_⟩
    rw [List.length_map]
    exact Nat.le_trans (List.length_filter_le _ _) (by rw [List.length_take]; omega)
  · rintro i x acc τ H2 hi ⟨rfl, ⟨u, v, rfl⟩, rfl⟩
    obtain ⟨y, hy, t, rfl, gt⟩ := pairs_get hp hi
    have hm := List.mem_of_getElem? hy
    refine ⟨t, _, rfl, SqT.of gt, rfl, _, _, rfl, _, _, rfl, rfl, ?_⟩
    refine ht y _ hm (ite2 (fun h => he y _ hm h ⟨rfl, ⟨_, _, rfl⟩, ?_⟩) fun h => ⟨rfl, ⟨_, _, rfl⟩, ?_⟩)
    · rw [take_snoc hy, List.filter_append, List.map_append, List.filter_cons, if_pos h]
      rfl
    · rw [take_snoc hy, List.filter_append, List.map_append, List.filter_cons, if_neg h]
      exact (List.append_nil _).symm
  · rintro acc τ H2 ⟨rfl, _, rfl⟩ a ha
    rw [List.take_of_length_le (by omega)]
    exact hq a ha
theorem mem_edge {n r o : Int} {ps : List (Int × Int)} (O : OkNet n ps) : o ∈ edgeL n ps r ↔ Edge ps r o := by
  unfold edgeL
  rw [List.mem_filter, mem_rooms, edge_iff]
  refine ⟨fun h => h.2, fun h => ⟨?_, h⟩⟩
  exact O.lt (Edge.reached (OkNet.ok2 O) h)
def outB (ins : List Int) (r : Int) (p : Int × Int) : Bool := decide (p.1 ∈ ins) && (decide (p.2 = r) || !decide (p.2 ∈ ins))
theorem edge_srt {n r : Int} {ps : List (Int × Int)} (O : OkNet n ps) : SetIt.srt (SetIt.ded ((ps.filter (outB ((rooms n).filter (domB ps r)) r)).map (·.2))) = edgeL n ps r := by
  unfold edgeL
  refine sorted_filter n (SetIt.ded_nodup _) fun k => ?_
  rw [SetIt.ded_mem, edge_iff, List.mem_map]
  constructor
  · rintro ⟨p, hp, rfl⟩
    obtain ⟨h1, h2⟩ := List.mem_filter.mp hp
    unfold outB at h2
    rw [Bool.and_eq_true, Bool.or_eq_true, decide_eq_true_iff, decide_eq_true_iff, Bool.not_eq_true', decide_eq_false_iff_not, mem_guarded O, mem_guarded O] at h2
    have := O.ok p h1
    exact ⟨this.2.2.1, this.2.2.2, ⟨p.1, h1, h2.1⟩, h2.2⟩
  · rintro ⟨_, _, ⟨a, m, d⟩, h⟩
    refine ⟨(a, k), List.mem_filter.mpr ⟨m, ?_⟩, rfl⟩
    unfold outB
    rw [Bool.and_eq_true, Bool.or_eq_true, decide_eq_true_iff, decide_eq_true_iff, Bool.not_eq_true', decide_eq_false_iff_not, mem_guarded O, mem_guarded O]
    exact ⟨d, h⟩
def kvT (ns : List Int) : List (Key × V) := ns.map fun k => (Sum.inl k, V.bl true)
theorem kvT_len (ns : List Int) : (kvT ns).length = ns.length := by simp [kvT]
theorem kvT_keys (ns : List Int) : (kvT ns).map (·.1) = ns.map (Sum.inl : Int → Key) := by simp [kvT]
theorem kvT_val {k : Int} : ∀ {ns : List Int}, (valV (kvT ns) (Sum.inl k)).isSome = decide (k ∈ ns)
  | [] => rfl
  | a :: r => by
    show (valV ((Sum.inl a, V.bl true) :: kvT r) (Sum.inl k)).isSome = decide (k ∈ a :: r)
    by_cases e : a = k
    · rw [valV_pos (by rw [e]), decide_eq_true (by rw [e]; simp)]
      rfl
    · rw [valV_neg (fun z => e (Sum.inl.inj z)), kvT_val, Bool.eq_iff_iff, decide_eq_true_iff, decide_eq_true_iff, List.mem_cons]
      exact ⟨.inr, fun h => h.elim (fun z => absurd z.symm e) id⟩
theorem kvT_put {ns : List Int} {k : Int} (h : k ∉ ns) : putK (kvT ns) (Sum.inl k) (.bl true) = kvT (ns ++ [k]) := by
  have : valV (kvT ns) (Sum.inl k) = none := by
    have e := kvT_val (k := k) (ns := ns)
    rw [decide_eq_false h] at e
    cases q : valV (kvT ns) (Sum.inl k) with
    | none => rfl
    | some v => rw [q] at e; cases e
  rw [putK_new _ this]
  simp [kvT]
theorem CloS.joins {n : Int} {ps : List (Int × Int)} {S found : List Int} (O : OkNet n ps) (c : CloS ps S found [] none) : IsJoins n ps S ((SetIt.srt found).filter fun k => !decide (k = 0)) := by
  have ok := OkNet.ok2 O
  have es : SetIt.srt found = (rooms n).filter fun k => decide (k ∈ found) := sorted_filter n c.nd fun k => by
    rw [decide_eq_true_iff]
    exact ⟨fun h => ⟨(O.lt ((c.sound k h).reached ok)).1, (O.lt ((c.sound k h).reached ok)).2, h⟩, fun h => h.2.2⟩
  have mem : ∀ k, k ∈ ((SetIt.srt found).filter fun k => !decide (k = 0)) ↔ k ∈ found ∧ k ≠ 0 := fun k => by
    rw [List.mem_filter, (SetIt.srt_perm _).mem_iff, Bool.not_eq_true', decide_eq_false_iff_not]
  have edge0 : ∀ o, Edge ps 0 o → o = 0 := fun o e => by
    rcases e.2 with z | z
    · exact z
    · exact absurd (Dom.zero (e.reached ok)) z
  refine ⟨?_, fun k hk => ?_, ?_, fun J' hJ' st k hk => ?_⟩
  · rw [es]
    exact ((rooms_sorted n).filter _).filter _
  · obtain ⟨h1, h2⟩ := (mem k).mp hk
    exact ⟨(c.sound k h1).reached ok, h2⟩
  · rw [settled_iff O]
    intro r hr r0 hj a b ca cb
    refine calm_of (F := fun o => o ∈ found) ok (fun x o hx e => ?_) (fun o ho => ?_) (by unfold mkOf; rfl) ca cb r0 fun z => hj ((mem r).mpr ⟨z, r0⟩)
    · unfold mkOf at hx
      rw [Bool.or_eq_true, Bool.or_eq_true, decide_eq_true_iff, decide_eq_true_iff, decide_eq_true_iff] at hx
      rcases hx with z | z | z
      · rw [z] at e
        exact .inl (edge0 o e)
      · exact .inr (c.done (.inl z) e)
      · exact .inr (c.done (.inr ((mem x).mp z).1) e)
    · by_cases o0 : o = 0
      · exact .inr o0
      · refine .inl ?_
        unfold mkOf
        rw [decide_eq_true ((mem o).mpr ⟨ho, o0⟩), Bool.or_true, Bool.or_true]
  · obtain ⟨h1, h2⟩ := (mem k).mp hk
    have st' := (settled_iff O).mp st
    have key : ∀ x o, mkOf S J' x = true → Edge ps x o → o = 0 ∨ o ∈ J' := fun x o hx e => by
      by_cases o0 : o = 0
      · exact .inl o0
      by_cases hj : o ∈ J'
      · exact .inr hj
      · exfalso
        obtain ⟨a, b, ca, cb, ne⟩ := e.two ok (mk := mkOf S J') (by unfold mkOf; rfl) hx o0
        exact ne (st' o (e.reached ok) o0 hj a b ca cb)
    have all : ∀ k, Clo ps S k → k = 0 ∨ k ∈ J' := fun k cl => by
      induction cl with
      | start m e => exact key _ _ (by unfold mkOf; rw [decide_eq_true m, Bool.true_or, Bool.or_true]) e
      | step _ e ih =>
        refine key _ _ ?_ e
        unfold mkOf
        rcases ih with z | z
        · rw [decide_eq_true z, Bool.true_or]
        · rw [decide_eq_true z, Bool.or_true, Bool.or_true]
    exact (all k (c.sound k h1)).elim (fun z => absurd z h2) id
noncomputable def firstL (ps : List (Int × Int)) (g : Int) : List Nat := (List.range ps.length).filter fun k => decide ((ps.getD k (0, 0)).2 = g) && rch ps g (ps.getD k (0, 0)).1
theorem mem_first {ps : List (Int × Int)} {g : Int} {k : Nat} : k ∈ firstL ps g ↔ FirstDoor ps g k := by
  unfold firstL FirstDoor
  rw [List.mem_filter, List.mem_range, Bool.and_eq_true, decide_eq_true_iff, rch_iff]
  constructor
  · rintro ⟨h, h1, h2⟩
    have e := List.getElem?_eq_getElem h
    rw [getD_of e] at h1 h2
    exact ⟨_, by rw [e, ← h1], h2⟩
  · rintro ⟨a, e, h⟩
    rw [getD_of e]
    exact ⟨(List.getElem?_eq_some_iff.mp e).1, rfl, h⟩
theorem first_nd (ps : List (Int × Int)) (g : Int) : (firstL ps g).Nodup := List.nodup_range.filter _
theorem first_ints (ps : List (Int × Int)) (g : Int) : ((rooms (ps.length : Int)).filter fun k => decide ((ps.getD k.toNat (0, 0)).2 = g) && rch ps g (ps.getD k.toNat (0, 0)).1).map V.int = dsV (firstL ps g) := by
  unfold rooms firstL dsV
  rw [List.filter_map, List.map_map, Int.toNat_natCast]
  rfl
theorem first_len (ps : List (Int × Int)) (g : Int) : (firstL ps g).length ≤ ps.length := by
  unfold firstL
  exact Nat.le_trans (List.length_filter_le _ _) (by rw [List.length_range]; exact Nat.le_refl _)
noncomputable def barF (ps : List (Int × Int)) (g : Int) : List Nat := if (firstL ps g).length = 1 then firstL ps g else []
theorem barF_len (ps : List (Int × Int)) (g : Int) : (barF ps g).length ≤ 1 := by
  unfold barF
  split
  · omega
  · exact Nat.zero_le _
theorem bars_len {ps : List (Int × Int)} : ∀ gs : List Int, (gs.flatMap (barF ps)).length ≤ gs.length
  | [] => Nat.le_refl _
  | g :: r => by
    rw [List.flatMap_cons, List.length_append, List.length_cons]
    have := barF_len ps g
    have := bars_len (ps := ps) r
    omega
end L3
end
section
namespace L2
open PySem PySem.Spec PyProof.Rows
section
variable {X : Cx} {pins : List (Addr × Obj)} {σ : List (Option V)} {H : Hp} {s : Shared} {h' : Heap}
theorem Inv.turned2 {t' : Nat} {a b : Addr} (I : Inv X pins σ H s) (k : ∀ c o, c ≠ a → c ≠ b → s.heap.get? c = some o → h'.get? c = some o) (fa : FpOk X pins H a) (fb : FpOk X pins H b) : Inv X pins σ H { s with heap := h', toks := t' } := by
  obtain ⟨a0, a1, a2, a3, a4, a5⟩ := fa
  obtain ⟨b0, b1, b2, b3, b4, b5⟩ := fb
  have na : ∀ c u, H c = some u → c ≠ a ∧ c ≠ b := fun c u e => ⟨fun z => (by rw [z, a0] at e; cases e), fun z => (by rw [z, b0] at e; cases e)⟩
  have k2 : ∀ c o, c ∉ [a, b] → s.heap.get? c = some o → h'.get? c = some o := fun c o hc e => k c o (fun z => hc (by simp [z])) (fun z => hc (by simp [z])) e
  refine I.step (g' := s.gens) (d' := s.drawn) (ch := [a, b]) (fun c hc => ?_) (fun c o _ _ hc e _ => k2 c o hc e) (fun c o _ _ hc e _ => ⟨o.slots, k2 c o hc e⟩) (fun _ _ _ _ n => n)
    (fun c o hc e => ⟨o, k2 c o hc e⟩) (fun _ _ e => e) (fun _ _ _ e => e) (fun c ps e => ⟨#[], by rw [e]; simp⟩) (fun m hm => ?_) (fun c u e => ?_) I.bare
  · rcases List.mem_cons.mp hc with z | z
    · subst z
      exact ⟨a3, a1, a4, a5⟩
    · have z := List.mem_singleton.mp z
      subst z
      exact ⟨b3, b1, b4, b5⟩
  · obtain ⟨o, es, ep, ho, r⟩ := hm
    exact ⟨o, es, ep, k _ o (Ne.symm a1) (Ne.symm b1) ho, r⟩
  · refine (I.hok c u e).stay (fun d v hd q => ?_) (fun _ q => q) fun _ _ q => q
    have : d ≠ a ∧ d ≠ b := by
      rcases hd with z | z
      · rw [z]; exact na c u e
      · exact na d _ z
    exact k d v this.1 this.2 q
end
def Ite (K : PySem.W.Frag) (l : Addr) : It :=
  ⟨fun i H => ∃ xs x, SqL K H l xs ∧ xs[i]? = some x, fun i H x H' => ∃ t, H t = none ∧ x = .ref t ∧ ∀ xs, SqL K H l xs → ∃ y, xs[i]? = some y ∧ H' = upd H t (.tup [.int (i : Nat), y]), fun i H => ∃ xs, SqL K H l xs ∧ xs.length ≤ i⟩
theorem turn_enum {P : Program} {w : World} {K : PySem.W.Frag} {elts : List Expr} {x1 : Nat} {pos : Pos} (l e it : Addr) (ne : e ≠ it) : Turn P w K (.Tuple elts x1 pos) (Ite K l) [e, it] e (fun i h => (∃ old, IsEnum h e it i old) ∧ h.IsListIter it l i) where
  mem := by simp
  obj := fun i h st b hb => by
    obtain ⟨⟨old, he⟩, hi⟩ := st
    rcases List.mem_cons.mp hb with z | z
    · subst z
      exact ⟨_, he, fun v y => by
        have y' : Data.fields _ = Data.cell v := y
        cases y'⟩
    · have z := List.mem_singleton.mp z
      subst z
      obtain ⟨o, e, c, d⟩ := hi
      exact ⟨o, e, fun v y => by rw [d] at y; cases y⟩
  keep := fun i h h' st k => by
    obtain ⟨⟨old, he⟩, hi⟩ := st
    exact ⟨⟨old, k e (by simp) _ he⟩, hi.at fun o q => k it (by simp) o q⟩
  item := by
    intro X hP hw hK hc i pins s σ H E I hf st hg
    subst hP hw hK
    obtain ⟨⟨old, he⟩, hi⟩ := st
    obtain ⟨xs, x, hq, hx⟩ := hg
    obtain ⟨its, rv, p, hz⟩ := I.list hq
    obtain ⟨u, hu, ru⟩ := rv.get hx
    have fe := hf e (by simp)
    have fi := hf it (by simp)
    have le : e < s.heap.objs.size := Heap.lt_size he
    have li : it < s.heap.objs.size := by
      obtain ⟨o, q, _⟩ := id hi
      exact Heap.lt_size q
    refine wpAny_pyNext_enum_item he hi p.isList (x := u) (by simpa using hu) ne fun h1 q1 q2 q3 q4 q5 => ⟨_, rfl, ?_⟩
    refine wpAny_letOwnedTupleGo_enum q1 fun h2 q6 q7 => ?_
    replace q7 : Heap.SameBut e h1 h2 := q7
    have hfr : H s.heap.objs.size = none := I.hok.fresh (Nat.le_refl _)
    have g2 : h2.get? s.heap.objs.size = some { cls := .type "tuple", data := .seq #[.int i s.toks, u] } := (q7.2 _ (Nat.ne_of_gt le)).trans q3
    -- laid
    have I1 : Inv X pins σ (upd H s.heap.objs.size (.tup [.int (i : Nat), x])) { s with heap := s.heap.push { cls := .type "tuple", data := .seq #[.int i s.toks, u] }, toks := s.toks + 1 } :=
      I.laid (fun b o q => Heap.get?_push_of_some _ q) (Nat.le_refl _) (show ObjOk X.prog X.w _ _ _ (.tup _) from ⟨by show 2 ≤ sizeLine; decide, [.int i s.toks, u], .cons ⟨_, rfl⟩ (.cons ru .nil), _, Heap.get?_push_size _ rfl, rfl, _, rfl⟩)
    have fpu : ∀ b, FpOk X pins H b → b ≠ s.heap.objs.size → FpOk X pins (upd H s.heap.objs.size (.tup [.int (i : Nat), x])) b := fun b f hb => ⟨by rw [upd_ne hb]; exact f.1, f.2⟩
    have kp : ∀ c o, c ≠ e → c ≠ it → (s.heap.push { cls := .type "tuple", data := .seq #[.int i s.toks, u] }).get? c = some o → h2.get? c = some o := fun c o c1 c2 q => by
      by_cases hcs : c = s.heap.objs.size
      · subst hcs
        have z : (s.heap.push { cls := .type "tuple", data := .seq #[.int i s.toks, u] }).get? s.heap.objs.size = some { cls := .type "tuple", data := .seq #[.int i s.toks, u] } := Heap.get?_push_size _ rfl
        rw [z] at q
        cases q
        exact g2
      · have z : s.heap.get? c = some o := (Heap.get?_push_ne _ _ _ hcs).symm.trans q
        exact (q7.2 c c1).trans (q5 c o c1 c2 z)
    have I2 := I1.turned2 (t' := s.toks + 1) kp (fpu e fe (Nat.ne_of_lt le)) (fpu it fi (Nat.ne_of_lt li))
    refine ⟨.ref s.heap.objs.size, _, I2, rfl, ⟨s.heap.objs.size, hfr, rfl, fun ys hy => ⟨x, by rw [I.list_inj hy hq]; exact hx, rfl⟩⟩, ⟨⟨u, by exact q6⟩, q2.extBut q7.extBut (Ne.symm ne)⟩, fun b hb => ?_⟩
    rcases List.mem_cons.mp hb with z | z
    · rw [z]; exact (fpu e fe (Nat.ne_of_lt le)).1
    · rw [List.mem_singleton.mp z]; exact (fpu it fi (Nat.ne_of_lt li)).1
  done := by
    intro X hP hw hK hc i pins s σ H E I hf st hg
    subst hP hw hK
    obtain ⟨⟨old, he⟩, hi⟩ := st
    obtain ⟨xs, hq, hx⟩ := hg
    obtain ⟨its, rv, p, hz⟩ := I.list hq
    obtain ⟨f0, f1, f2, f3, f4, f5⟩ := hf it (by simp)
    have hl := rv.length
    exact wpAny_pyNext_enum_end (I.ok.hd hc) he hi p.isList (by simp; omega) fun h' eb => ⟨rfl, I.turned (t' := s.toks) (fun b o hb q => eb b o hb q) f0 f1 f3 f4 f5⟩
  self := fun _ _ _ _ _ st h => by
    obtain ⟨⟨old, he⟩, _⟩ := st
    exact wpAny_pyIter_enum he h
theorem b_enumerate : bootBuiltins "enumerate" = some (.type "enumerate") := by decide +kernel
section
variable {X : Cx}
def iEnum (K : PySem.W.Frag) (ta : TA) : TI := fun σ H R => ta σ H fun vs H1 => ∃ l xs, vs = [.ref l] ∧ SqL K H1 l xs ∧ R (Ite K l) H1
theorem pi_enum {a : Expr} {ta : TA} {p pos : Pos} {elts : List Expr} {x1 : Nat} {tp : Pos} (hg : Gl X "enumerate") (hm : X.mg "enumerate" = none) (ha : PA X [a] ta) (hs : starEach [a] X.env = [(false, eval a X.env)] := by rfl) : PI X (.Tuple elts x1 tp) (.Call (.Name "enumerate" p) [a] [] pos) (iEnum X.K ta) := by
  intro pins s σ H R I h
  refine Call_ (ld_blt I hg hm b_enumerate (PyProof.Rows.callWith_type1 (thn (ha pos pins s σ H _ I h) fun us s1 ⟨vs, H1, I1, r1, q1⟩ => ?_) hs rfl))
  obtain ⟨l, xs, rfl, hq, q⟩ := q1
  obtain ⟨u, rfl, ru⟩ := vals1 r1
  cases ru
  obtain ⟨its, rv, pl, hz⟩ := I1.list hq
  refine call_enumerate_list pl.isList fun h' he hi hsz hk => ?_
  have I2 : Inv X pins σ H1 { s1 with heap := h' } := I1.kept (t' := s1.toks) hk
  refine wpAny_pyIter_enum he ?_
  refine ⟨s1.heap.objs.size + 1, [s1.heap.objs.size + 1, s1.heap.objs.size], _, _, H1, rfl, I2, turn_enum l _ _ (Nat.succ_ne_self _), ⟨⟨_, he⟩, hi⟩, fun b hb => ?_, q⟩
  rcases List.mem_cons.mp hb with z | z
  · rw [z]
    exact I1.fpOk (Nat.le_succ _) (I1.hok.fresh (Nat.le_succ _))
  · rw [List.mem_singleton.mp z]
    exact I1.fpOk (Nat.le_refl _) (I1.hok.fresh (Nat.le_refl _))
end
theorem comp_enum {K : PySem.W.Frag} {a : Addr} {xs : List V} {g : TG} {tt : TT} {te : TE} {Q : VK} {τ0 : St} {H : Hp} (Pv : Nat → List V → St → Hp → Prop) (hz : xs.length ≤ sizeLine) (h0 : Pv 0 [] τ0 H) (hl : ∀ i acc τ H, i ≤ xs.length → Pv i acc τ H → SqL K H a xs ∧ acc.length ≤ i)
    (hs : ∀ i x acc τ H t, xs[i]? = some x → Pv i acc τ H → H t = none → g (.ref t) τ (upd H t (.tup [.int (i : Nat), x])) fun τ2 H2 => tt τ2 H2 fun b H3 => if b = true then te τ2 H3 fun y H4 => Pv (i + 1) (acc ++ [y]) τ2 H4 else Pv (i + 1) acc τ2 H3)
    (hd : ∀ acc τ H, Pv xs.length acc τ H → ∀ p, H p = none → Q (.ref p) (upd H p (.lst acc))) :
    ∃ W : Nat → Nat → List V → St → Hp → Prop, (∃ m, W 0 m [] τ0 H) ∧ CompStep (Ite K a) g tt te Q W := by
  refine ⟨fun i m acc τ H => m = xs.length - i ∧ i ≤ xs.length ∧ Pv i acc τ H, ⟨xs.length, by simp, Nat.zero_le _, h0⟩, ?_⟩
  rintro i m acc τ H ⟨rfl, hi, p⟩
  obtain ⟨q, hacc⟩ := hl i acc τ H hi p
  by_cases hlt : i < xs.length
  · refine .inr ⟨⟨xs, xs[i], q, by simp [hlt]⟩, by omega, Pv (i + 1), fun acc' τ' H' p' => ⟨xs.length - (i + 1), by omega, rfl, hlt, p'⟩, fun x H' y => ?_⟩
    obtain ⟨t, ht, rfl, y⟩ := y
    obtain ⟨v, hv, rfl⟩ := y xs q
    exact hs i v acc τ _ t hv p ht
  · have e : i = xs.length := by omega
    subst e
    exact .inl ⟨⟨xs, q, Nat.le_refl _⟩, by omega, hd acc τ H p⟩
end L2
namespace L3
open PySem PySem.Spec PyProof.Rows L2 Mp
theorem comp_enum_doors {K : PySem.W.Frag} {H : Hp} {l : Addr} {xs : List V} {ps : List (Int × Int)} {caps : L2.St} {τ : L2.St} {tt : TT} {Q : VK} (p : Int → Bool) (hl : SqL K H l xs) (hp : PairsV H ps xs) (hz : ps.length ≤ 1000) (hτ : τ = none :: none :: caps)
    (ht : ∀ (k : Nat) (y : Int × Int) (t : Addr) (H2 : Hp) (P : Bool → Hp → Prop), ps[k]? = some y → Same H H2 → H2 t = some (.tup [.int y.1, .int y.2]) → P (p (k : Int)) H2 → tt (some (.int (k : Int)) :: some (.ref t) :: caps) H2 P)
    (hq : ∀ a H2, Same H H2 → H2 a = none → Q (.ref a) (upd H2 a (.lst (((rooms (ps.length : Int)).filter p).map V.int)))) :
    ∃ W : Nat → Nat → List V → L2.St → Hp → Prop, (∃ c, W 0 c [] τ H) ∧ CompStep (Ite K l) (gTup K 2 (gCons (gName 0) (gCons (gName 1) gNil))) tt (tVar 0) Q W := by
  have hlen := hp.length
  refine comp_enum (xs := xs) (fun i acc τ H2 => Same H H2 ∧ (∃ u v, τ = u :: v :: caps) ∧ acc = (((rooms (ps.length : Int)).take i).filter p).map V.int) (by rw [← hlen, sizeLine_eq]; omega) ⟨Same.refl _, ⟨none, none, hτ⟩, rfl⟩ ?_ ?_ ?_
  · rintro i acc τ H2 hi ⟨e, _, rfl⟩
    refine ⟨e.seq hl, ?_⟩
    rw [List.length_map]
    exact Nat.le_trans (List.length_filter_le _ _) (by rw [List.length_take]; omega)
  · rintro i x acc τ H2 t hi ⟨e, ⟨u, v, rfl⟩, rfl⟩ nt
    obtain ⟨y, hy, t2, rfl, g2⟩ := pairs_get hp hi
    have il := (List.getElem?_eq_some_iff.mp hy).1
    have hg : (rooms (ps.length : Int))[i]? = some (i : Int) := by
      have := rooms_at (n := (ps.length : Int)) (r := (i : Int)) (by omega) (by omega)
      simpa using this
    have e3 : Same H (upd H2 t (.tup [.int (i : Nat), .ref t2])) := e.trans (Same.new nt)
    refine ⟨t, _, rfl, SqT.of upd_same, rfl, _, _, rfl, _, _, rfl, rfl, ?_⟩
    refine ht i y t2 _ _ hy e3 (e3 _ _ g2) (ite2 (fun h => ⟨_, rfl, e3, ⟨_, _, rfl⟩, ?_⟩) fun h => ⟨e3, ⟨_, _, rfl⟩, ?_⟩)
    · rw [take_snoc hg, List.filter_append, List.map_append, List.filter_cons, if_pos h]
      rfl
    · rw [take_snoc hg, List.filter_append, List.map_append, List.filter_cons, if_neg h]
      exact (List.append_nil _).symm
  · rintro acc τ H2 ⟨e, _, rfl⟩ a ha
    rw [List.take_of_length_le (by rw [rooms_len]; omega)]
    exact hq a H2 e ha
end L3
end
section
namespace L3
open PySem PySem.Spec PyProof.Rows L2 Mp
theorem BkS.lt {n h k : Int} {ps : List (Int × Int)} {sts : List Int} (O : OkNet n ps) (hh : 0 ≤ h ∧ h < n) (hs : ∀ a ∈ sts, 0 ≤ a ∧ a < n) (b : BkS ps h sts k) : 0 ≤ k ∧ k < n := by
  cases b with
  | head => exact hh
  | start m => exact hs _ m
  | step _ m _ => exact ⟨(O.ok _ m).1, (O.ok _ m).2.1⟩
end L3
end
section
namespace L2
open PySem PySem.Spec PyProof.Rows
abbrev rAny (K : PySem.W.Frag) : RC := fun xs H Q => ∃ (p : Addr) (bs : List Bool), xs = [.ref p] ∧ SqL K H p (bs.map V.bl) ∧ Q (.bl (bs.any id)) H
theorem b_any : bootBuiltins "any" = some (.builtin "any") := by decide +kernel
theorem any_ix (bs : List Bool) : ((List.range bs.length).any fun i => (bs[i]?).getD false) = bs.any id := by
  rw [Bool.eq_iff_iff, List.any_eq_true, List.any_eq_true]
  constructor
  · rintro ⟨i, hi, e⟩
    have l := List.mem_range.mp hi
    rw [List.getElem?_eq_getElem l, Option.getD_some] at e
    exact ⟨bs[i], List.getElem_mem l, e⟩
  · rintro ⟨b, hb, e⟩
    obtain ⟨i, hi⟩ := List.getElem?_of_mem hb
    exact ⟨i, List.mem_range.mpr (List.getElem?_eq_some_iff.mp hi).1, by rw [hi]; exact e⟩
theorem bls_get : ∀ {bs : List Bool} {us : List Value}, Vals (bs.map V.bl) us → ∀ {i : Nat} {v : Value}, us[i]? = some v → ∃ b, bs[i]? = some b ∧ v = .bool b
  | [], _, .nil, i, v, h => by simp at h
  | b :: bs, _, .cons r t, 0, v, h => by
    simp at h
    subst h
    cases r
    exact ⟨b, rfl, rfl⟩
  | b :: bs, _, .cons r t, i + 1, v, h => by
    obtain ⟨c, h1, h2⟩ := bls_get t (i := i) (v := v) (by simpa using h)
    exact ⟨c, by simpa using h1, h2⟩
theorem call_any {X : Cx} (hc : X.calm = true) : CallR X (.builtin "any") (rAny X.K) := by
  intro pins s σ H xs us Q I r h
  obtain ⟨p, bs, rfl, hq, q⟩ := h
  obtain ⟨u, rfl, ru⟩ := vals1 r
  cases ru
  obtain ⟨its, rv, pl, hz⟩ := I.list hq
  have hl := pl.isList
  have hlen := rv.length
  have hlt : p < s.heap.objs.size := by
    obtain ⟨o, e, _⟩ := id hl
    exact Heap.lt_size e
  refine call_any_walk (wpAny_pyIter_list hl ?_)
  refine ⟨s.heap.objs.size, [s.heap.objs.size, p], [s.heap.objs.size], its.toArray.size, _, _, fun i => (bs[i]?).getD false, rfl, Walks.list (A := X.A.in1) (I.ok.hd hc) _ p (Nat.ne_of_lt hlt) its.toArray, ⟨⟨_, Heap.get?_push_size _ rfl, rfl, rfl⟩, hl.push _⟩, fun i v s' Q' E' hP hQ => ?_, fun h' tk hk => ?_⟩
  · obtain ⟨b, e, rfl⟩ := bls_get rv (i := i) (v := v) (by simpa using hP)
    dsimp only at hQ
    rw [e, Option.getD_some] at hQ
    exact wpAny_truthy_bool hQ
  · have kp : ∀ b o, s.heap.get? b = some o → h'.get? b = some o := fun b o e => hk b o (fun hm => by
      rw [List.mem_singleton.mp hm] at e
      exact absurd (Heap.lt_size e) (Nat.lt_irrefl _)) (Heap.get?_push_of_some _ e)
    have I1 : Inv X pins σ H { s with heap := h', toks := tk } := I.kept kp
    have ez : its.toArray.size = bs.length := by
      rw [List.length_map] at hlen
      simp
      omega
    refine ⟨.bl _, H, I1, ?_, q⟩
    rw [ez, any_ix]
    rfl
end L2
end
section
namespace L3
open PySem PySem.Spec PyProof.Rows L2 Mp
def sp_guarded (K : PySem.W.Frag) (C : Addr) : Sp := fun vs H Q _ => ∃ (x : Addr) (g n : Int) (ps : List (Int × Int)) (old : Hp), vs = [.ref x, .int g] ∧ NetAt C old H x n ps ∧ ∀ l H', Same H H' → H l = none → H' l = some (.lst (((rooms n).filter (domB ps g)).map V.int)) → Q (.ref l) H'
def sp_guards_all (K : PySem.W.Frag) (C : Addr) : Sp := fun vs H Q _ => ∃ (x : Addr) (g : Int) (a : Addr) (rs : List Int) (n : Int) (ps : List (Int × Int)) (old : Hp), vs = [.ref x, .int g, .ref a] ∧ NetAt C old H x n ps ∧ SqL K H a (rs.map V.int) ∧ rs.length ≤ 1000 ∧ (∀ k ∈ rs, Rch ps (-1) k) ∧ ∀ H', Same H H' → Q (.bl (rs.all (domB ps g))) H'
def sp_guards (K : PySem.W.Frag) (C : Addr) : Sp := fun vs H Q _ => ∃ (x : Addr) (g r n : Int) (ps : List (Int × Int)) (old : Hp), vs = [.ref x, .int g, .int r] ∧ NetAt C old H x n ps ∧ 0 ≤ g ∧ g < n ∧ Rch ps (-1) r ∧ ∀ H', Same H H' → Q (.bl (domB ps g r)) H'
def spx_guards (K : PySem.W.Frag) (C : Addr) (x : XA) : Sp := fun vs H Q E => ∃ (y : Addr) (o r n : Int) (ps : List (Int × Int)) (old : Hp), vs = [.ref y, .int o, .int r] ∧ NetAt C old H y n ps ∧ ((¬ (0 ≤ o ∧ o < n) ∧ ∀ H', Same H H' → E (.ref x.NoRoom) none H') ∨ (0 ≤ o ∧ o < n ∧ ((0 ≤ r ∧ r < n ∧ ¬ Rch ps (-1) r ∧ ∀ H', Same H H' → E (.ref x.Unreached) none H') ∨ (¬ (0 ≤ r ∧ r < n) ∧ ∀ H', Same H H' → E (.ref x.NoRoom) none H'))))
def spo_guards (K : PySem.W.Frag) (C : Addr) (x : XA) : Sp := fun vs H Q E => sp_guards K C vs H Q E ∨ spx_guards K C x vs H Q E
def sp_guards_of (K : PySem.W.Frag) (C : Addr) : Sp := fun vs H Q _ => ∃ (x : Addr) (r n : Int) (ps : List (Int × Int)) (old : Hp), vs = [.ref x, .int r] ∧ NetAt C old H x n ps ∧ Rch ps (-1) r ∧ ∀ l gs H', Same H H' → H l = none → H' l = some (.lst (gs.map V.int)) → IsGuards ps r gs → Q (.ref l) H'
def spx_guards_of (K : PySem.W.Frag) (C : Addr) (x : XA) : Sp := fun vs H Q E => ∃ (y : Addr) (r n : Int) (ps : List (Int × Int)) (old : Hp), vs = [.ref y, .int r] ∧ NetAt C old H y n ps ∧ ((0 ≤ r ∧ r < n ∧ ¬ Rch ps (-1) r ∧ ∀ H', Same H H' → E (.ref x.Unreached) none H') ∨ (¬ (0 ≤ r ∧ r < n) ∧ ∀ H', Same H H' → E (.ref x.NoRoom) none H'))
def spo_guards_of (K : PySem.W.Frag) (C : Addr) (x : XA) : Sp := fun vs H Q E => sp_guards_of K C vs H Q E ∨ spx_guards_of K C x vs H Q E
def sp_nearest (K : PySem.W.Frag) (C : Addr) : Sp := fun vs H Q _ => ∃ (x : Addr) (r n : Int) (ps : List (Int × Int)) (old : Hp), vs = [.ref x, .int r] ∧ NetAt C old H x n ps ∧ Rch ps (-1) r ∧ (r = 0 → ∀ H', Same H H' → Q .non H') ∧ (r ≠ 0 → ∀ g H', Same H H' → IsNear ps r g → Q (.int g) H')
def spx_nearest (K : PySem.W.Frag) (C : Addr) (x : XA) : Sp := fun vs H Q E => ∃ (y : Addr) (r n : Int) (ps : List (Int × Int)) (old : Hp), vs = [.ref y, .int r] ∧ NetAt C old H y n ps ∧ ((0 ≤ r ∧ r < n ∧ ¬ Rch ps (-1) r ∧ ∀ H', Same H H' → E (.ref x.Unreached) none H') ∨ (¬ (0 ≤ r ∧ r < n) ∧ ∀ H', Same H H' → E (.ref x.NoRoom) none H'))
def spo_nearest (K : PySem.W.Frag) (C : Addr) (x : XA) : Sp := fun vs H Q E => sp_nearest K C vs H Q E ∨ spx_nearest K C x vs H Q E
def sp_common (K : PySem.W.Frag) (C : Addr) : Sp := fun vs H Q _ => ∃ (x a : Addr) (ks : List Int) (n : Int) (ps : List (Int × Int)) (old : Hp), vs = [.ref x, .ref a] ∧ NetAt C old H x n ps ∧ SqL K H a (ks.map V.int) ∧ ks ≠ [] ∧ ks.length ≤ 1000 ∧ (∀ k ∈ ks, Rch ps (-1) k) ∧ ∀ g H', Same H H' → IsCommon ps ks g → Q (.int g) H'
def spx_common (K : PySem.W.Frag) (C : Addr) (x : XA) : Sp := fun vs H Q E => ∃ (y a : Addr) (rs : List Int) (n : Int) (ps : List (Int × Int)) (old : Hp), vs = [.ref y, .ref a] ∧ NetAt C old H y n ps ∧ SqL K H a (rs.map V.int) ∧ (((∀ k ∈ rs, 0 ≤ k ∧ k < n) ∧ (∃ k ∈ rs, ¬ Rch ps (-1) k) ∧ ∀ H', Same H H' → E (.ref x.Unreached) none H') ∨ ((∃ k ∈ rs, ¬ (0 ≤ k ∧ k < n)) ∧ ∀ H', Same H H' → E (.ref x.NoRoom) none H'))
def spo_common (K : PySem.W.Frag) (C : Addr) (x : XA) : Sp := fun vs H Q E => sp_common K C vs H Q E ∨ spx_common K C x vs H Q E
def sp_edge (K : PySem.W.Frag) (C : Addr) : Sp := fun vs H Q _ => ∃ (x : Addr) (r n : Int) (ps : List (Int × Int)) (old : Hp), vs = [.ref x, .int r] ∧ NetAt C old H x n ps ∧ Rch ps (-1) r ∧ ∀ l H', Same H H' → H l = none → H' l = some (.lst ((edgeL n ps r).map V.int)) → Q (.ref l) H'
def spx_edge (K : PySem.W.Frag) (C : Addr) (x : XA) : Sp := fun vs H Q E => ∃ (y : Addr) (r n : Int) (ps : List (Int × Int)) (old : Hp), vs = [.ref y, .int r] ∧ NetAt C old H y n ps ∧ ((0 ≤ r ∧ r < n ∧ ¬ Rch ps (-1) r ∧ ∀ H', Same H H' → E (.ref x.Unreached) none H') ∨ (¬ (0 ≤ r ∧ r < n) ∧ ∀ H', Same H H' → E (.ref x.NoRoom) none H'))
def spo_edge (K : PySem.W.Frag) (C : Addr) (x : XA) : Sp := fun vs H Q E => sp_edge K C vs H Q E ∨ spx_edge K C x vs H Q E
def sp_joins (K : PySem.W.Frag) (C : Addr) : Sp := fun vs H Q _ => ∃ (x a : Addr) (ks : List Int) (n : Int) (ps : List (Int × Int)) (old : Hp), vs = [.ref x, .ref a] ∧ NetAt C old H x n ps ∧ SqL K H a (ks.map V.int) ∧ ks.length ≤ 1000 ∧ (∀ k ∈ ks, Rch ps (-1) k) ∧ ∀ l J H', Same H H' → H l = none → H' l = some (.lst (J.map V.int)) → IsJoins n ps ks J → Q (.ref l) H'
def spx_joins (K : PySem.W.Frag) (C : Addr) (x : XA) : Sp := fun vs H Q E => ∃ (y a : Addr) (rs : List Int) (n : Int) (ps : List (Int × Int)) (old : Hp), vs = [.ref y, .ref a] ∧ NetAt C old H y n ps ∧ SqL K H a (rs.map V.int) ∧ (((∀ k ∈ rs, 0 ≤ k ∧ k < n) ∧ (∃ k ∈ rs, ¬ Rch ps (-1) k) ∧ ∀ H', Same H H' → E (.ref x.Unreached) none H') ∨ ((∃ k ∈ rs, ¬ (0 ≤ k ∧ k < n)) ∧ ∀ H', Same H H' → E (.ref x.NoRoom) none H'))
def spo_joins (K : PySem.W.Frag) (C : Addr) (x : XA) : Sp := fun vs H Q E => sp_joins K C vs H Q E ∨ spx_joins K C x vs H Q E
def sp_first_doors (K : PySem.W.Frag) (C : Addr) : Sp := fun vs H Q _ => ∃ (x : Addr) (g n : Int) (ps : List (Int × Int)) (old : Hp), vs = [.ref x, .int g] ∧ NetAt C old H x n ps ∧ ∀ l H', Same H H' → H l = none → H' l = some (.lst (dsV (firstL ps g))) → Q (.ref l) H'
def sp_bars_of (K : PySem.W.Frag) (C : Addr) : Sp := fun vs H Q _ => ∃ (x : Addr) (r n : Int) (ps : List (Int × Int)) (old : Hp), vs = [.ref x, .int r] ∧ NetAt C old H x n ps ∧ Rch ps (-1) r ∧ ∀ l bs H', Same H H' → H l = none → H' l = some (.lst (dsV bs)) → IsBars ps r bs → Q (.ref l) H'
def spx_bars_of (K : PySem.W.Frag) (C : Addr) (x : XA) : Sp := fun vs H Q E => ∃ (y : Addr) (r n : Int) (ps : List (Int × Int)) (old : Hp), vs = [.ref y, .int r] ∧ NetAt C old H y n ps ∧ ((0 ≤ r ∧ r < n ∧ ¬ Rch ps (-1) r ∧ ∀ H', Same H H' → E (.ref x.Unreached) none H') ∨ (¬ (0 ≤ r ∧ r < n) ∧ ∀ H', Same H H' → E (.ref x.NoRoom) none H'))
def spo_bars_of (K : PySem.W.Frag) (C : Addr) (x : XA) : Sp := fun vs H Q E => sp_bars_of K C vs H Q E ∨ spx_bars_of K C x vs H Q E
end L3
end
section
namespace L2
open PySem PySem.Spec PyProof.Rows
section
variable {X : Cx} {pins : List (Addr × Obj)} {σ : St} {H' : Hp} {ea : Addr} {cls a0 : Value}
theorem fly_out (O : Own X) {s' : Shared} {h0 h' B : Heap} (I : Inv X pins σ H' { s' with heap := h0 }) (x1 : Heap.FlyingW B X.outer ea cls a0 h') (ups : h0.UpToSlots h') (hB : X.base.StaysIn B)
    (hin : ∀ b o, h0.get? b = some o → (H' b ≠ none ∨ (X.s₀.heap.get? b).isSome = true) → b ∉ X.fs → B.get? b = some o) (hn : H' ea = none) (hs : X.s₀.heap.get? ea = none) : Fly X.prog X.w X.base X.outer X.H₀ X.s₀ ea cls H' { s' with heap := h' } := by
  obtain ⟨d1, d2⟩ := I.down O (fun b o e hh hb => x1.1 b o (hin b o e hh hb)) ups
  refine ⟨I.os, I.bare, d1, d2, ⟨B, a0, x1, hB, fun b o e hh hb => ?_⟩, hn, hs⟩
  have th : ∃ o1, h0.get? b = some o1 := by
    rcases hh with h | h
    · cases q : H' b with
      | none => exact (h q).elim
      | some u => exact (I.hok b u q).there
    · exact Option.isSome_iff_exists.mp (I.old O h)
  obtain ⟨o1, e1⟩ := th
  have e2 := hin b o1 e1 hh hb
  have e3 := x1.1 b o1 e2
  have e' : h'.get? b = some o := e
  rw [e'] at e3
  cases e3
  exact e2
def XF (X : Cx) (E : XK) : Value → Shared → Prop := fun e s' => ∃ (ea : Addr) (cls a0 : Value) (H' : Hp) (pins : List (Addr × Obj)) (σ : St) (h0 B : Heap), e = .ref ea ∧ E cls none H' ∧ Inv X pins σ H' { s' with heap := h0 } ∧ X.base.StaysIn B ∧
  (∀ b o, h0.get? b = some o → (H' b ≠ none ∨ (X.s₀.heap.get? b).isSome = true) → b ∉ X.fs → B.get? b = some o) ∧ H' ea = none ∧ X.s₀.heap.get? ea = none ∧
  ((s'.heap = h0 ∧ Heap.FlyingW B X.stack ea cls a0 h0) ∨ (Heap.HeldW B X.stack ea cls a0 X.env.locals s'.heap ∧ h0.UpToSlots s'.heap))
theorem frames_tl {B : Heap} {h' : Heap} (O : Own X) (k : h'.FunFrames B X.stack) : h'.FunFrames B X.outer := by
  have tl : ∀ (l : List Env), l = X.env :: X.outer → h'.FunFrames B l → h'.FunFrames B X.outer := fun l e k => by
    subst e
    obtain ⟨_, _, k⟩ := k
    exact k
  exact tl _ O.stk k
theorem xf_leaves {E : XK} {Ex : Value → Shared → Prop} (O : Own X) {e : Value} {s' : Shared} (h : XF X E e s') :
    wpAny (model X.prog X.w) X.A (leaving X.env e) (fun _ s'' => CX1 X.prog X.w X.base X.outer X.H₀ X.s₀ E e s'') Ex s' := by
  obtain ⟨ea, cls, a0, H', pins, σ, h0, B, rfl, q, I, hB, hin, hn, hs, st⟩ := h
  rcases st with ⟨e0, fl⟩ | ⟨hd, ups⟩
  · refine wpAny_leaves_onW (outer := X.outer) (by rw [← O.stk]; exact I.ok.frames) O.frm (O.stk ▸ e0 ▸ fl) fun h' x1 x2 => ?_
    exact ⟨ea, _, H', rfl, fly_out O I x1 (e0 ▸ x2) hB hin hn hs, q⟩
  · unfold leaving
    refine wpAny_bind (wpAny_noteFrame_againW O.frm hd.2.2.2 ?_)
    refine wpAny_landsW hd fun h' fl up => ?_
    obtain ⟨k1, k2, k3, k4⟩ := fl
    exact ⟨ea, _, H', rfl, fly_out O I ⟨k1, k2, frames_tl O k3, k4⟩ (ups.trans up) hB hin hn hs, q⟩
theorem xf_held {E : XK} (O : Own X) {s' : Shared} {h0 B : Heap} (q : E cls none H') (I : Inv X pins σ H' { s' with heap := h0 }) (hB : X.base.StaysIn B)
    (hin : ∀ b o, h0.get? b = some o → (H' b ≠ none ∨ (X.s₀.heap.get? b).isSome = true) → b ∉ X.fs → B.get? b = some o) (hn : H' ea = none) (hs : X.s₀.heap.get? ea = none)
    (hd : Heap.HeldW B X.stack ea cls a0 X.env.locals s'.heap) (ups : h0.UpToSlots s'.heap) : cameBackBy (model X.prog X.w) X.A X.env (XF X E) (.ref ea) s' := by
  obtain ⟨_, _, _, oe, vs, T, oT, ts, he, hc, hdt, h1, _⟩ := id hd
  unfold cameBackBy
  refine wpAny_bind (wpAny_field he hdt h1 ?_)
  rw [if_neg (by simp : ¬ (Value.ref T == Value.none) = true)]
  rw [O.frm]
  refine held_again hd fun h' hd' up => ?_
  exact ⟨ea, cls, a0, H', pins, σ, h0, B, rfl, q, I, hB, hin, hn, hs, .inr ⟨hd', ups.trans up⟩⟩
theorem xf_passes {E : XK} (O : Own X) : PassesOwn (model X.prog X.w) X.A X.env (XF X E) := by
  intro e s' h
  obtain ⟨ea, cls, a0, H', pins, σ, h0, B, rfl, q, I, hB, hin, hn, hs, st⟩ := h
  unfold notedBy
  rcases st with ⟨e0, fl⟩ | ⟨hd, ups⟩
  · refine wpAny_looks_onW (by rw [← O.stk]; exact I.ok.frames) O.frm (O.stk ▸ e0 ▸ fl) fun h' hd up => ?_
    exact xf_held O (s' := { s' with heap := h' }) q I hB hin hn hs (O.stk ▸ hd) (e0 ▸ up)
  · exact wpAny_noteFrame_againW O.frm hd.2.2.2 (xf_held O q I hB hin hn hs hd ups)
theorem pass_xf {E : XK} (O : Own X) : Passes (CX1 X.prog X.w X.base) (X.wish (XF X E)) E := fun pins σ H1 s1 e s' I h => by
  obtain ⟨ea, cls, H', rfl, F, q⟩ := h
  have I0 : Inv X pins σ H1 s1 := I.unwish
  obtain ⟨B, a0, hfl, hB, hin⟩ := F.fly
  have I' := Fly.inv (X := X) F I0
  refine ⟨ea, cls, a0, H', pins, σ, s'.heap, B, rfl, q, I', hB, fun b o e hh hb => hin b o e (hh.imp id fun h => I0.old O h) (I'.nfs O hh hb), F.ne, ?_, .inl ⟨rfl, hfl⟩⟩
  cases z : X.s₀.heap.get? ea with
  | none => rfl
  | some o =>
    have := I0.old O (by rw [z]; rfl : (X.s₀.heap.get? ea).isSome = true)
    rw [F.nes] at this
    cases this
end
theorem PS.xf {P : Program} {w : World} {K : PySem.W.Frag} {mg : Str → Option Value} {base : Heap} {N : List Str} {qual : Str} {scope : Scope} {f : Addr} {cd : Value} {A : Around} {outer : List Env} {s : Shared} {H : Hp} {E : XK} {st : Stmt} {t : TS}
    (h : PS ((cxOf (CX1 P w base) P w K mg base N qual scope f cd A outer s H E).wish (XF (cxOf (CX1 P w base) P w K mg base N qual scope f cd A outer s H E) E)) st t) : PS (cxOf (CX1 P w base) P w K mg base N qual scope f cd A outer s H E) st t := fun pins s1 σ H1 D I hw =>
  wpAny_mono (h pins s1 σ H1 D (I.wish _) hw) (fun _ _ q => q.unwish) fun e s' z => wpAny_mono (xf_leaves (Ex := fun e' s'' => CX1 P w base outer H s E e' s'') own_cx z) (fun _ _ y => y) fun _ _ y => y
end L2
namespace L2
open PySem PySem.Spec PyProof.Rows
theorem PS.calm0 {X : Cx} {st : Stmt} {t : TS} (h : PS X.nox st t) : PS X st t := fun pins s σ H D I hw =>
  wpAny_mono (h pins s σ H D (I.wish _) hw) (fun _ _ q => q.unwish) fun _ _ z => False.elim z
end L2
end
section
namespace L2
open PySem PySem.Spec PyProof.Rows
structure FnOkH (P : Program) (w : World) (K : PySem.W.Frag) (mg : Str → Option Value) (base : Heap) (k : Nat) (f : Addr) (fd : FuncData) (ps : List Str) (sp : Sp) : Prop where
  len : ∀ vs H Q E, sp vs H Q E → vs.length = ps.length
  run : ∀ (A : Around) (ea : Addr) (outer : List Env) (s : Shared) (H : Hp) (args : Args) (us : List Value) (vs : List V) (Q : VK) (E : XK), Room k A → Env0 P w K mg base A outer s H → BindsTo s fd args (ps.zip us) → Vals vs us → sp vs H Q E →
    codeAny (model P w) (A.mark (some (.ref ea))) (.call (.ref f) args) (CR CX0 outer P w H s Q E) s
theorem Fun.okH {P : Program} {w : World} {K : PySem.W.Frag} {mg : Str → Option Value} {base : Heap} {x qual : Str} {st : Stmt} {f : Addr} {fd : FuncData} {N ps : List Str} {k : Nat} {sp : Sp} (F : Fun K x qual st f fd) (S : FnScope N ps (defScope st)) (len : ∀ vs H Q E, sp vs H Q E → vs.length = ps.length)
    (hbody : ∀ (cdv : Value) (A : Around) (ea : Addr) (outer : List Env) (s : Shared) (H : Hp) (vs : List V) (Q : VK) (E : XK), Room k (A.deeper (envOfC qual (defScope st) s.heap.objs.size f cdv)) → sp vs H Q E →
      ∃ t, PSs ((cxOf CX0 P w K mg base N qual (defScope st) f cdv A outer s H E).hand ea) (defBody st) t ∧ t { nx := fun _ H' => Q .non H', rt := Q } (start N vs) H) : FnOkH P w K mg base (k + 1) f fd ps sp := by
  obtain ⟨oc, od, kV, doc, pm, an, cdv, ct, osl, rfl, lk, hcd⟩ := F.ex
  refine ⟨len, fun A ea outer s H args us vs Q E hr e0 hb r hsp => ?_⟩
  have hl := len _ _ _ _ hsp
  have KX : K.In s.heap := e0.mod.kin.keeps fun b o e => (e0.bs b o e).1
  have lim : s.heap.NoLimit := e0.mod.nolimit.keeps fun b o e => (e0.bs b o e).1
  have hkind : ∀ y ∈ ps.zip us, (defScope st).names.lookup y.1 = some .local ∨ ((defScope st).names.lookup y.1 = some .cell ∧ ((cellsFrom (s.heap.objs.size + 1) (defScope st).names []).lookup y.1).isSome = true) := fun ⟨n, v⟩ hy => by
    rcases S.par n (List.of_mem_zip hy).1 with q | q
    · exact .inl q
    · exact .inr ⟨q, PySem.W.cellsFrom_some _ _ _ (.inl q)⟩
  refine codeAny_call_function (A := A.mark (some (.ref ea))) hr.depth (KX _ _ lk) rfl S.co S.gen rfl (PySem.W.codeRec_of KX hcd) (hb _ _ _ _ ?_)
  refine wpAny_newFunctionEnv_cells S.kind hkind fun env he s1 x => ?_
  subst he
  refine ⟨lim.keeps x.toInCall.keep, codeAny_func ?_⟩
  obtain ⟨t, ht, hq⟩ := hbody cdv A ea outer s H vs Q E (hr.deeper _) hsp
  have I : Inv (cxOf CX0 P w K mg base N qual (defScope st) f cdv A outer s H E) [] (start N vs) H s1 := inv_start S hr.hd e0 hl r x
  refine wpAny_mono (ht [] s1 (start N vs) H _ (I.hand ea) hq) (fun fl s' hs => ?_) fun e s' hs => False.elim hs
  have fin : ∀ {σ' : St} {H' : Hp} {v : V} {u : Value}, Inv ((cxOf CX0 P w K mg base N qual (defScope st) f cdv A outer s H E).hand ea) [] σ' H' s' → RelV v u → Q v H' → CE outer P w H s Q u s' :=
    fun {σ' H' v u} J rv q => ⟨v, H', J.os, J.bare, J.base, J.hok, rv, q⟩
  cases fl with
  | ret u =>
    obtain ⟨v, σ', H', J, rv, q⟩ := hs
    exact fin J rv q
  | next =>
    obtain ⟨σ', H', J, q⟩ := hs
    exact fin (v := V.non) (u := Value.none) J rfl q
  | brk =>
    obtain ⟨_, _, _, q⟩ := hs
    exact False.elim q
  | cont =>
    obtain ⟨_, _, _, q⟩ := hs
    exact False.elim q
section
variable {X : Cx} {ea : Addr} {k : Nat} {f : Addr} {fd : FuncData} {ps : List Str} {sp : Sp} {E : XK} {x : Str} {p pos : Pos} {e : Expr} {es : List Expr} {t : TA}
theorem pe_callH (hc : X.A.handled = none) (F : FnOkH X.prog X.w X.K X.mg X.base k f fd ps sp) (hr : Room k X.A) (hg : Gl (X.hand ea) x) (hm : X.mg x = some (.ref f)) (hk : PySem.W.keepIn X.K (.ref f) = true) (hb : Binds X.K fd ps []) (ha : PA (X.hand ea) (e :: es) t)
    (hdb : (x == ("__debug__" : Str)) = false := by decide) (he : starEach (e :: es) X.env = (false, eval e X.env) :: starEach es X.env := by rfl) (hpl : (backTo pos (starEach es X.env)).any (·.1) = false := by rfl) :
    PE (X.hand ea) (.Call (.Name x p) (e :: es) [] pos) (tCall sp [] E t) := by
  intro pins s σ H Q I h
  refine wpAny_Call_Name_kw (ld_glob I hg hm ?_ hdb)
  refine PySem.W.callWith_K (h₀ := X.base) I.ok.mod.kin hk (thn (ha pos pins s σ H _ I h) fun us s1 ⟨vs, H1, I1, r, q⟩ => ⟨I1.kIn, ?_⟩) he hpl
  have q' : sp vs H1 Q E := by
    have z : sp (vs ++ []) H1 Q E := q
    rwa [List.append_nil] at z
  have hl : (us ++ []).length = ps.length := by rw [List.append_nil, ← r.length]; exact F.len _ _ _ _ q'
  have J : Inv X pins σ H1 s1 := I1.unhand hc
  have hbb := hb s1 us J.kIn hl
  rw [List.append_nil] at hbb
  refine wpAny_call (codeAny_mono (F.run X.A ea X.stack s1 H1 ⟨us, []⟩ us vs Q E hr J.env0 hbb r q') fun r s' hq => ?_)
  cases r with
  | error e => exact False.elim hq
  | ok fl =>
    cases fl with
    | ret u => exact I1.after hq
    | next => exact False.elim hq
    | brk => exact False.elim hq
    | cont => exact False.elim hq
end
/-- what isinstance tells of NoRoom and Unreached; the classes are those of the top -/
structure TXB (K : PySem.W.Frag) (x : XA) : Prop where
  eR : ExcKit K x.NoRoom
  mR : PySem.W.exmOne K (.ref x.NoRoom) (.ref x.PassError) = some true
  kRN : PySem.W.kitOne K (.ref x.NoRoom) (.ref x.NoNet) = some false
  kRR : PySem.W.kitOne K (.ref x.NoRoom) (.ref x.NoRoom) = some true
  kRU : PySem.W.kitOne K (.ref x.NoRoom) (.ref x.Unreached) = some false
  kRV : PySem.W.kitOne K (.ref x.NoRoom) (.type "ValueError") = some true
  eU : ExcKit K x.Unreached
  mU : PySem.W.exmOne K (.ref x.Unreached) (.ref x.PassError) = some true
  kUN : PySem.W.kitOne K (.ref x.Unreached) (.ref x.NoNet) = some false
  kUR : PySem.W.kitOne K (.ref x.Unreached) (.ref x.NoRoom) = some false
  kUU : PySem.W.kitOne K (.ref x.Unreached) (.ref x.Unreached) = some true
  kUV : PySem.W.kitOne K (.ref x.Unreached) (.type "ValueError") = some true
  gR : PySem.W.nsIn K mainGlobals "NoRoom" = some (some (.ref x.NoRoom))
  gU : PySem.W.nsIn K mainGlobals "Unreached" = some (some (.ref x.Unreached))
end L2
end
section
namespace L3
open PySem PySem.Spec PyProof.Rows L2 Mp
def sp_law_which (K : PySem.W.Frag) (C : Addr) : Sp := fun vs H Q _ => ∃ (a : Addr) (xc : XA) (rm : Bool), vs = [.ref a] ∧ TXB K xc ∧ H a = some (ExcO a (if rm then xc.NoRoom else xc.Unreached)) ∧ ∀ l, H l = none → Q (.ref l) (upd H l (.lst [.bl false, .bl rm, .bl (!rm), .bl true]))
def sp_law_no_room (K : PySem.W.Frag) (C : Addr) : Sp := fun vs H Q _ => ∃ (a b c : V), vs = [a, b, c] ∧ False
def spx_law_no_room (K : PySem.W.Frag) (C : Addr) (x : XA) : Sp := fun vs H Q E => ∃ (y : Addr) (way r n : Int) (ps : List (Int × Int)) (old : Hp), vs = [.ref y, .int way, .int r] ∧ NetAt C old H y n ps ∧ 0 ≤ way ∧ way < 6 ∧ ¬ (0 ≤ r ∧ r < n) ∧ ∀ H', Same H H' → E (.ref x.NoRoom) none H'
def spo_law_no_room (K : PySem.W.Frag) (C : Addr) (x : XA) : Sp := fun vs H Q E => sp_law_no_room K C vs H Q E ∨ spx_law_no_room K C x vs H Q E
def sp_law_asked (K : PySem.W.Frag) (C : Addr) : Sp := fun vs H Q _ => ∃ (a b c d : V), vs = [a, b, c, d] ∧ False
def spx_law_asked (K : PySem.W.Frag) (C : Addr) (x : XA) : Sp := fun vs H Q E => ∃ (y : Addr) (way r : Int) (a : Addr) (rs : List Int) (n : Int) (ps : List (Int × Int)) (old : Hp), vs = [.ref y, .int way, .int r, .ref a] ∧ NetAt C old H y n ps ∧ 0 ≤ way ∧ way < 9 ∧ SqL K H a (rs.map V.int) ∧ ((0 ≤ r ∧ r < n ∧ ¬ Rch ps (-1) r ∧ ∀ H', Same H H' → E (.ref x.Unreached) none H') ∨ (¬ (0 ≤ r ∧ r < n) ∧ ∀ H', Same H H' → E (.ref x.NoRoom) none H')) ∧ (((∀ k ∈ rs, 0 ≤ k ∧ k < n) ∧ (∃ k ∈ rs, ¬ Rch ps (-1) k) ∧ ∀ H', Same H H' → E (.ref x.Unreached) none H') ∨ ((∃ k ∈ rs, ¬ (0 ≤ k ∧ k < n)) ∧ ∀ H', Same H H' → E (.ref x.NoRoom) none H'))
def spo_law_asked (K : PySem.W.Frag) (C : Addr) (x : XA) : Sp := fun vs H Q E => sp_law_asked K C vs H Q E ∨ spx_law_asked K C x vs H Q E
def sp_law_told (K : PySem.W.Frag) (C : Addr) : Sp := fun vs H Q _ => ∃ (y : Addr) (way kind r : Int) (a : Addr) (rs : List Int) (n : Int) (ps : List (Int × Int)) (old : Hp) (rm : Bool), vs = [.ref y, .int way, .int kind, .int r, .ref a] ∧ NetAt C old H y n ps ∧ 0 ≤ way ∧ way < 9 ∧ SqL K H a (rs.map V.int) ∧
  (rm = true → ¬ (0 ≤ r ∧ r < n) ∧ ∃ k ∈ rs, ¬ (0 ≤ k ∧ k < n)) ∧ (rm = false → kind ≠ 0 ∧ (0 ≤ r ∧ r < n) ∧ ¬ Rch ps (-1) r ∧ (∀ k ∈ rs, 0 ≤ k ∧ k < n) ∧ ∃ k ∈ rs, ¬ Rch ps (-1) k) ∧ ∀ l H', Same H H' → H l = none → H' l = some (.lst [.bl false, .bl rm, .bl (!rm), .bl true]) → Q (.ref l) H'
end L3
end
section
namespace L3
open PySem PySem.Spec PyProof.Rows L2 Mp
def tr_law_which (w : World) (K : PySem.W.Frag) (C : Addr) (xa : XA) : TS :=
    (tRet (tLst (tCons (tCB (rIsx K) (tCons (tVar 0) (tCons (tC (.ref xa.NoNet)) tNil))) (tCons (tCB (rIsx K) (tCons (tVar 0) (tCons (tC (.ref xa.NoRoom)) tNil))) (tCons (tCB (rIsx K) (tCons (tVar 0) (tCons (tC (.ref xa.Unreached)) tNil))) (tCons (tCB (rIsx K) (tCons (tVar 0) (tCons (tC (.ty "ValueError")) tNil))) tNil))))))
theorem ln_law_which {K : PySem.W.Frag} {C : Addr} {vs : List V} {H : Hp} {Q : VK} {E : XK} (h : sp_law_which K C vs H Q E) : vs.length = 1 := by
  obtain ⟨a, xc, rm, rfl, _⟩ := h
  rfl
theorem rd_law_which {w : World} {K : PySem.W.Frag} {C : Addr} {xa : XA} (TX : TXB K xa) (T : TG K C) {vs : List V} {H : Hp} {Q : VK} {E : XK} (h : sp_law_which K C vs H Q E) : tr_law_which w K C xa { nx := fun _ H' => Q .non H', rt := Q } (start ["e"] vs) H := by
  obtain ⟨a, xc, rm, rfl, hx, ha, k⟩ := h
  have e1 : xc.NoRoom = xa.NoRoom := by
    have h1 := hx.gR
    rw [TX.gR] at h1
    simpa using h1.symm
  have e2 : xc.Unreached = xa.Unreached := by
    have h1 := hx.gU
    rw [TX.gU] at h1
    simpa using h1.symm
  rw [e1, e2] at ha
  cases rm with
  | true =>
    have ha' : H a = some (ExcO a xa.NoRoom) := ha
    refine ⟨_, rfl, a, _, _, false, rfl, ha', TX.eR, .inl ⟨_, rfl, TX.kRN⟩, _, rfl, a, _, _, true, rfl, ha', TX.eR, .inl ⟨_, rfl, TX.kRR⟩, _, rfl, a, _, _, false, rfl, ha', TX.eR, .inl ⟨_, rfl, TX.kRU⟩, _, rfl, a, _, _, true, rfl, ha', TX.eR, .inr ⟨_, rfl, TX.kRV⟩, (by show 4 ≤ sizeLine; decide), k⟩
  | false =>
    have ha' : H a = some (ExcO a xa.Unreached) := ha
    refine ⟨_, rfl, a, _, _, false, rfl, ha', TX.eU, .inl ⟨_, rfl, TX.kUN⟩, _, rfl, a, _, _, false, rfl, ha', TX.eU, .inl ⟨_, rfl, TX.kUR⟩, _, rfl, a, _, _, true, rfl, ha', TX.eU, .inl ⟨_, rfl, TX.kUU⟩, _, rfl, a, _, _, true, rfl, ha', TX.eU, .inr ⟨_, rfl, TX.kUV⟩, (by show 4 ≤ sizeLine; decide), k⟩
end L3
end
section
namespace L3
open PySem PySem.Spec PyProof.Rows L2 Mp
def tr_check_net (w : World) (K : PySem.W.Frag) (C : Addr) : TS :=
    (tSeq (tIfS (tOr (tTest (tOp (rI0 fun i j => .bl (decide (i < j))) (tVar 0) (tC (.int 1)))) (tTest (tOp (rI0 fun i j => .bl (decide (j < i))) (tVar 0) (tC (.int 40))))) tNever tNext)
      (tSeq (tIfS (tTest (tOp (rI0 fun i j => .bl (decide (j < i))) (tCB (rLenS K) (tCons (tVar 1) tNil)) (tC (.int 100)))) tNever tNext)
      (tFor (iList K (tVar 1)) (gTup K 2 (gCons (gName 2) (gCons (gName 3) gNil)))
        (tIfS (tOr (tNot (tB (tCall (sp_is_room K C) [] E0 (tCons (tVar 0) (tCons (tVar 2) tNil))))) (tNot (tB (tCall (sp_is_room K C) [] E0 (tCons (tVar 0) (tCons (tVar 3) tNil)))))) tNever tNext))))
theorem ln_check_net {K : PySem.W.Frag} {C : Addr} {vs : List V} {H : Hp} {Q : VK} {E : XK} (h : sp_check_net K C vs H Q E) : vs.length = 2 := by
  obtain ⟨n, a, ps, xs, rfl, _⟩ := h
  rfl
theorem rd_check_net {w : World} {K : PySem.W.Frag} {C : Addr} (T : TG K C) {vs : List V} {H : Hp} {Q : VK} {E : XK} (h : sp_check_net K C vs H Q E) : tr_check_net w K C { nx := fun _ H' => Q .non H', rt := Q } (start ["rooms", "doors", "start", "end"] vs) H := by
  obtain ⟨n, a, ps, xs, rfl, hs, hp, ok, k⟩ := h
  have hlen : xs.length = ps.length := hp.length.symm
  have o1 : ¬ n < 1 := by have := ok.lo; omega
  have o2 : ¬ (40 : Int) < n := by have := ok.hi; omega
  refine ⟨_, rfl, _, _, rfl, rfl, _, rfl, ?_⟩
  rw [decide_eq_false o1]
  refine iteF ⟨_, rfl, _, _, rfl, rfl, _, rfl, ?_⟩
  rw [decide_eq_false o2]
  refine iteF ?_
  refine ⟨_, rfl, a, xs, rfl, .inl hs, _, _, rfl, rfl, _, rfl, ?_⟩
  have o3 : ¬ (100 : Int) < (xs.length : Int) := by have := ok.len; omega
  rw [decide_eq_false o3]
  refine iteF ?_
  refine ⟨_, rfl, a, rfl, ⟨_, hs⟩, for_list (K := K) (a := a) (xs := xs) (fun i σ H2 => ∃ u v, σ = [some (.int n), some (.ref a), u, v] ∧ H2 = H) ⟨none, none, rfl, rfl⟩ (fun i σ H2 _ ⟨_, _, _, e⟩ => e ▸ hs) ?_ ?_⟩
  · rintro i y σ H2 hi ⟨u, v, rfl, rfl⟩
    obtain ⟨p, hpi, t, rfl, ht⟩ := pairs_get hp hi
    have okp := ok.ok p (List.mem_of_getElem? hpi)
    refine ⟨t, _, rfl, SqT.of ht, rfl, _, _, rfl, _, _, rfl, rfl, ?_⟩
    refine ⟨_, rfl, _, rfl, _, _, rfl, _, rfl, ?_⟩
    rw [decide_eq_true okp.1, decide_eq_true okp.2.1]
    refine iteF ⟨_, rfl, _, rfl, _, _, rfl, _, rfl, ?_⟩
    rw [decide_eq_true okp.2.2.1, decide_eq_true okp.2.2.2]
    exact iteF ⟨_, _, rfl, rfl⟩
  · rintro σ H2 ⟨u, v, rfl, rfl⟩
    exact k
end L3
end
section
namespace L3
open PySem PySem.Spec PyProof.Rows L2 Mp
def tr_Net_check_room (w : World) (K : PySem.W.Frag) (C : Addr) : TS :=
    (tIfS (tNot (tB (tCall (sp_is_room K C) [] E0 (tCons (tFld K (tVar 0) "size") (tCons (tVar 1) tNil))))) tNever tNext)
theorem ln_Net_check_room {K : PySem.W.Frag} {C : Addr} {vs : List V} {H : Hp} {Q : VK} {E : XK} (h : sp_Net_check_room K C vs H Q E) : vs.length = 2 := by
  obtain ⟨x, r, n, ps, old, rfl, _⟩ := h
  rfl
theorem rd_Net_check_room {w : World} {K : PySem.W.Frag} {C : Addr} (T : TG K C) {vs : List V} {H : Hp} {Q : VK} {E : XK} (h : sp_Net_check_room K C vs H Q E) : tr_Net_check_room w K C { nx := fun _ H' => Q .non H', rt := Q } (start ["self", "room"] vs) H := by
  obtain ⟨x, r, n, ps, old, rfl, N, h0, h1', k⟩ := h
  obtain ⟨⟨dx, pl, on, bk, xs, os, bs, h1, _⟩, ok⟩ := id N
  refine ⟨_, rfl, x, C, dx, _, _, rfl, h1, T.cl, T.n_size, flds_size _ _ _ _, _, rfl, _, _, rfl, _, rfl, ?_⟩
  rw [decide_eq_true h0, decide_eq_true h1']
  exact iteF k
def trx_Net_check_room (w : World) (K : PySem.W.Frag) (C : Addr) (xa : XA) (E : XK) : TS :=
    (tIfS (tNot (tB (tCall (sp_is_room K C) [] E0 (tCons (tFld K (tVar 0) "size") (tCons (tVar 1) tNil))))) (tRaise xa.NoRoom E (tCons (tC (.str "the net does not have this room")) tNil)) tNext)
theorem lnx_Net_check_room {K : PySem.W.Frag} {C : Addr} {xa : XA} {vs : List V} {H : Hp} {Q : VK} {E : XK} (h : spx_Net_check_room K C xa vs H Q E) : vs.length = 2 := by
  obtain ⟨y, r, n, ps, old, rfl, _⟩ := h
  rfl
theorem rdx_Net_check_room {w : World} {K : PySem.W.Frag} {C : Addr} {xa : XA} (T : TG K C) {vs : List V} {H : Hp} {Q : VK} {E : XK} (h : spx_Net_check_room K C xa vs H Q E) : trx_Net_check_room w K C xa E { nx := fun _ H' => Q .non H', rt := Q } (start ["self", "room"] vs) H := by
  obtain ⟨y, r, n, ps, old, rfl, N, h0, k⟩ := h
  obtain ⟨⟨dx, pl, on, bk, xs, os, bs, h1, _⟩, ok⟩ := id N
  refine ⟨_, rfl, y, C, dx, _, _, rfl, h1, T.cl, T.n_size, flds_size _ _ _ _, _, rfl, _, _, rfl, _, rfl, ?_⟩
  have e : (decide (0 ≤ r) && decide (r < n)) = false := by
    rw [Bool.and_eq_false_iff]
    by_cases z : 0 ≤ r
    · exact .inr (decide_eq_false fun y => h0 ⟨z, y⟩)
    · exact .inl (decide_eq_false z)
  rw [e]
  exact iteT ⟨(by show 1 ≤ sizeLine; decide), k⟩
end L3
end
section
namespace L3
open PySem PySem.Spec PyProof.Rows L2 Mp
def tr_law_net (w : World) (K : PySem.W.Frag) (C : Addr) : TS :=
    (tSeq (tAsg (tOp (rI0 fun i j => .int (i + j)) (tC (.int 1)) (tOp (rI (fun _ j => 0 < j) fun i j => .int (i % j)) (tCall (sp_law_cell_at K C) [] E0 (tCons (tVar 0) (tCons (tVar 1) tNil))) (tVar 2))) (gName 4))
      (tSeq (tAsg (tLst tNil) (gName 5))
      (tSeq (tFor (iRng1 (tCons (tOp (rI (fun _ j => 0 < j) fun i j => .int (i % j)) (tOp (rI CDiv fun i j => .int (i / j)) (tCall (sp_law_cell_at K C) [] E0 (tCons (tVar 0) (tCons (tVar 1) tNil))) (tVar 2)) (tOp (rI0 fun i j => .int (i + j)) (tVar 3) (tC (.int 1)))) tNil)) (gName 6)
        (tSeq (tAsg (tCall (sp_law_cell_at K C) [] E0 (tCons (tVar 0) (tCons (tOp (rI0 fun i j => .int (i + j)) (tOp (rI0 fun i j => .int (i + j)) (tVar 1) (tC (.int 1))) (tVar 6)) tNil))) (gName 7))
        (tDrop (tBM K "list" (rAppend) (tVar 5) (tCons (tTup (tCons (tOp (rI (fun _ j => 0 < j) fun i j => .int (i % j)) (tVar 7) (tVar 4)) (tCons (tOp (rI (fun _ j => 0 < j) fun i j => .int (i % j)) (tOp (rI CDiv fun i j => .int (i / j)) (tVar 7) (tVar 4)) (tVar 4)) tNil))) tNil)))))
      (tRet (tTup (tCons (tVar 4) (tCons (tVar 5) tNil)))))))
theorem ln_law_net {K : PySem.W.Frag} {C : Addr} {vs : List V} {H : Hp} {Q : VK} {E : XK} (h : sp_law_net K C vs H Q E) : vs.length = 4 := by
  obtain ⟨a, ns, at_, most, extra, rfl, _⟩ := h
  rfl
theorem rd_law_net {w : World} {K : PySem.W.Frag} {C : Addr} (T : TG K C) {vs : List V} {H : Hp} {Q : VK} {E : XK} (h : sp_law_net K C vs H Q E) : tr_law_net w K C { nx := fun _ H' => Q .non H', rt := Q } (start ["script", "at", "most", "extra", "many", "pairs", "k", "cell"] vs) H := by
  obtain ⟨a, ns, at_, most, extra, rfl, hs, m0, m1, e0, e1, q⟩ := h
  have hm := many_lo ns at_ m0
  -- many; pairs = []
  refine ⟨_, rfl, _, rfl, a, ns, at_, rfl, hs, _, rfl, _, _, rfl, rfl, m0, _, _, rfl, rfl, ?_⟩
  refine ⟨Nat.zero_le _, fun l hl => ?_⟩
  -- range(..)
  have hs1 : SqL K (upd H l (.lst [])) a (ns.map V.int) := (Same.new hl).seq hs
  have c0 := Int.emod_nonneg (cell ns at_ / most) (by omega : extra + 1 ≠ 0)
  have c1 := Int.emod_lt_of_pos (cell ns at_ / most) (by omega : 0 < extra + 1)
  refine ⟨_, rfl, _, rfl, a, ns, at_, rfl, hs1, _, rfl, _, _, rfl, rfl, ⟨m0, by omega⟩, _, rfl, _, _, rfl, rfl, _, _, rfl, rfl, (by omega), cell ns at_ / most % (extra + 1), rfl, (by omega), (by omega), ?_⟩
  refine for_range (n := (cell ns at_ / most % (extra + 1)).toNat) (fun i σ H2 => ∃ u v xs, σ = [some (.ref a), some (.int at_), some (.int most), some (.int extra), some (.int (manyOf ns at_ most)), some (.ref l), u, v] ∧ Same H H2 ∧ H2 l = some (.lst xs) ∧ PairsV H2 ((doorsOf ns at_ most extra).take i) xs)
    ⟨none, none, [], rfl, Same.new hl, upd_same, .nil⟩ ?_ ?_
  · rintro i σ H2 hi ⟨u, v, xs, rfl, e, g, hp⟩
    have hc : [V.ref a, V.int ((at_ : Int) + 1 + (0 + (i : Int)))] = [V.ref a, V.int ((at_ + 1 + i : Nat) : Int)] := by
      have z : (at_ : Int) + 1 + (0 + (i : Int)) = ((at_ + 1 + i : Nat) : Int) := by omega
      rw [z]
    refine ⟨_, rfl, _, rfl, _, _, rfl, rfl, _, rfl, _, _, rfl, rfl, a, ns, at_ + 1 + i, hc, e.seq hs, ?_⟩
    refine ⟨_, rfl, .inl ⟨rfl, _, SqL.of g⟩, _, rfl, _, rfl, _, _, rfl, rfl, (by show 0 < manyOf ns at_ most; omega), _, rfl, _, rfl, _, _, rfl, rfl, (⟨by show 0 < manyOf ns at_ most; omega, by show manyOf ns at_ most < 1073741824; omega⟩ : CDiv _ _), _, rfl, _, _, rfl, rfl, (by show 0 < manyOf ns at_ most; omega), (by show 2 ≤ sizeLine; decide), fun z hz => ?_⟩
    have nzl : l ≠ z := fun y => by rw [← y, g] at hz; cases hz
    have gl2 : upd H2 z (.tup [.int (doorOf ns at_ (manyOf ns at_ most) i).1, .int (doorOf ns at_ (manyOf ns at_ most) i).2]) l = some (.lst xs) := by rw [upd_ne nzl]; exact g
    have hlen : xs.length ≤ 200 := by
      rw [← hp.length, List.length_take]
      have : (doorsOf ns at_ most extra).length ≤ 100 := (drawn_ok ns at_ m0 m1 e0 e1).len
      omega
    refine ⟨l, xs, .ref z, rfl, rfl, gl2, small1000 (by omega), ?_⟩
    refine ⟨_, _, _, rfl, Same.upd (e.trans (Same.new hz)) hl, upd_same, ?_⟩
    have hd : (doorsOf ns at_ most extra)[i]? = some (doorOf ns at_ (manyOf ns at_ most) i) := by
      unfold doorsOf
      rw [List.getElem?_map, List.getElem?_range hi]
      rfl
    rw [take_snoc hd]
    refine pairs_snoc (But.pairs (x := l) But.upd gl2 (fun _ y => by cases y) (PairsV.same (Same.new hz) hp)) ⟨z, rfl, ?_⟩
    rw [upd_ne (Ne.symm nzl), upd_same]
    rfl
  · rintro σ H2 ⟨u, v, xs, rfl, e, g, hp⟩
    have hfull : (doorsOf ns at_ most extra).take (cell ns at_ / most % (extra + 1)).toNat = doorsOf ns at_ most extra := by
      refine List.take_of_length_le ?_
      unfold doorsOf
      simp
    rw [hfull] at hp
    refine ⟨_, rfl, _, rfl, (by show 2 ≤ sizeLine; decide), fun t ht => ?_⟩
    exact q t l xs _ (e.trans (Same.new ht)) (e.free ht) hl upd_same (Same.new ht _ _ g) (PairsV.same (Same.new ht) hp)
end L3
end
section
namespace L3
open PySem PySem.Spec PyProof.Rows L2 Mp
def tr_Net_init (w : World) (K : PySem.W.Frag) (C : Addr) : TS :=
    (tSeq (tDrop (tCall (sp_check_net K C) [] E0 (tCons (tVar 1) (tCons (tVar 2) tNil))))
      (tSeq (sFld K (tVar 0) (tVar 1) "size")
      (tSeq (sFld K (tVar 0) (tComp (iList K (tVar 2)) 2 [] (gTup K 2 (gCons (gName 0) (gCons (gName 1) gNil))) tYes (tTup (tCons (tVar 0) (tCons (tVar 1) tNil)))) "pairs")
      (tSeq (sFld K (tVar 0) (tComp (iRng1 (tCons (tVar 1) tNil)) 1 [0] (gName 0) tYes (tCall (sp_rooms_led_into K C) [] E0 (tCons (tFld K (tVar 1) "pairs") (tCons (tVar 0) tNil)))) "onward")
      (sFld K (tVar 0) (tComp (iRng1 (tCons (tVar 1) tNil)) 1 [0] (gName 0) tYes (tCall (sp_rooms_led_from K C) [] E0 (tCons (tFld K (tVar 1) "pairs") (tCons (tVar 0) tNil)))) "backward")))))
theorem ln_Net_init {K : PySem.W.Frag} {C : Addr} {vs : List V} {H : Hp} {Q : VK} {E : XK} (h : sp_Net_init K C vs H Q E) : vs.length = 3 := by
  obtain ⟨x, dx, n, a, ps, xs, old, rfl, _⟩ := h
  rfl
theorem rd_Net_init {w : World} {K : PySem.W.Frag} {C : Addr} (T : TG K C) {vs : List V} {H : Hp} {Q : VK} {E : XK} (h : sp_Net_init K C vs H Q E) : tr_Net_init w K C { nx := fun _ H' => Q .non H', rt := Q } (start ["self", "rooms", "doors"] vs) H := by
  obtain ⟨x, dx, n, a, ps, xs, old, rfl, hx, hs, nax, hp, ok, ox, onn, k⟩ := h
  -- check_net(rooms, doors); self.size = rooms
  refine ⟨_, rfl, _, rfl, n, a, ps, xs, rfl, hs, hp, ok, ?_⟩
  refine ⟨_, rfl, _, rfl, x, C, dx, [], rfl, hx, T.cl, T.n_size, (by show 0 < 1000; decide), ?_⟩
  have b1 : But x H (upd H x (.ins C dx (putF "size" (.int n) []))) := But.upd
  have hx1 : upd H x (.ins C dx (putF "size" (.int n) [])) x = some (.ins C dx (putF "size" (.int n) [])) := upd_same
  generalize hH1 : upd H x (.ins C dx (putF "size" (.int n) [])) = H1 at b1 hx1 ⊢
  have hs1 : SqL K H1 a xs := b1.seq nax hs
  have n1 : ∀ b, H1 b = none → old b = none := fun b hb => by
    rw [← hH1] at hb
    by_cases z : b = x
    · rw [z]; exact ox
    · rw [upd_ne z] at hb; exact onn b hb
  have hp1 : PairsV H1 ps xs := b1.pairs hx (fun _ z => by cases z) hp
  have el : xs.length = ps.length := hp.length.symm
  have big : ps.length ≤ sizeLine := by have := ok.len; rw [sizeLine_eq]; omega
  have bign : n.toNat ≤ sizeLine := by have := ok.hi; rw [sizeLine_eq]; omega
  -- self.pairs = [(start, end) for start, end in doors]
  refine ⟨_, rfl, a, rfl, ⟨_, hs1⟩, comp_list (K := K) (a := a) (xs := xs) (fun i acc τ H2 => Same H1 H2 ∧ (∃ u v, τ = [u, v]) ∧ PairsV H2 (ps.take i) acc ∧ NewV old acc) (by omega) ⟨Same.refl _, ⟨none, none, rfl⟩, .nil, NewV.nil⟩ ?_ ?_ ?_⟩
  · rintro i acc τ H2 hi ⟨e, _, q, _⟩
    refine ⟨e.seq hs1, ?_⟩
    rw [← q.length, List.length_take]
    omega
  · rintro i y acc τ H2 hi ⟨e, ⟨u, v, rfl⟩, q, nv⟩
    obtain ⟨p, hpi, t, rfl, ht⟩ := pairs_get hp1 hi
    refine ⟨t, _, rfl, SqT.of (e _ _ ht), rfl, _, _, rfl, _, _, rfl, rfl, ?_⟩
    refine yes_go ⟨_, rfl, _, rfl, (by show 2 ≤ sizeLine; decide), fun z hz => ?_⟩
    refine ⟨e.trans (Same.new hz), ⟨_, _, rfl⟩, ?_, nv.snoc (n1 _ (e.free hz))⟩
    rw [take_snoc hpi]
    exact pairs_snoc (PairsV.same (Same.new hz) q) ⟨z, rfl, upd_same⟩
  rintro acc τ H2 ⟨e2, _, q2, nv2⟩ pl hpl
  have npl : old pl = none := n1 _ (e2.free hpl)
  rw [el, List.take_length] at q2
  have hx2 : H2 x = some (.ins C dx (putF "size" (.int n) [])) := e2 _ _ hx1
  have npx : pl ≠ x := fun z => by rw [z, hx2] at hpl; cases hpl
  have e2' : Same H1 (upd H2 pl (.lst acc)) := e2.trans (Same.new hpl)
  refine ⟨_, rfl, x, C, dx, _, rfl, e2' _ _ hx1, T.cl, T.n_pairs, (by show 1 < 1000; decide), ?_⟩
  have hx3 : upd (upd H2 pl (.lst acc)) x (.ins C dx (putF "pairs" (.ref pl) (putF "size" (.int n) []))) x = some (.ins C dx (putF "pairs" (.ref pl) (putF "size" (.int n) []))) := upd_same
  have b3 : But x H1 (upd (upd H2 pl (.lst acc)) x (.ins C dx (putF "pairs" (.ref pl) (putF "size" (.int n) [])))) := (Same.but e2').then But.upd
  have hpl3 : upd (upd H2 pl (.lst acc)) x (.ins C dx (putF "pairs" (.ref pl) (putF "size" (.int n) []))) pl = some (.lst acc) := by rw [upd_ne npx, upd_same]
  have q3 : PairsV (upd (upd H2 pl (.lst acc)) x (.ins C dx (putF "pairs" (.ref pl) (putF "size" (.int n) [])))) ps acc := But.pairs (x := x) But.upd (e2' _ _ hx1) (fun _ z => by cases z) (PairsV.same (Same.new hpl) q2)
  have n3 : ∀ b, upd (upd H2 pl (.lst acc)) x (.ins C dx (putF "pairs" (.ref pl) (putF "size" (.int n) []))) b = none → old b = none := fun b hb => by
    by_cases z : b = x
    · rw [z]; exact ox
    · rw [upd_ne z] at hb
      by_cases y : b = pl
      · rw [y]; exact npl
      · rw [upd_ne y] at hb
        exact n1 b (e2.free hb)
  generalize upd (upd H2 pl (.lst acc)) x (.ins C dx (putF "pairs" (.ref pl) (putF "size" (.int n) []))) = H3 at hx3 b3 hpl3 q3 n3 ⊢
  have lk3 : (putF "pairs" (.ref pl) (putF "size" (.int n) [])).lookup ("pairs" : Str) = some (V.ref pl) := by rw [lookup_putF, if_pos rfl]
  -- self.onward = [rooms_led_into(self.pairs, room) for room in range(rooms)]
  refine ⟨_, rfl, n, rfl, (by have := ok.lo; omega), (by have := ok.hi; omega), comp_range (fun i acc τ H4 => Same H3 H4 ∧ (∃ u, τ = [u, some (.ref x)]) ∧ RowsV H4 (((rooms n).map (ahead ps)).take i) acc ∧ NewV old acc) bign ⟨Same.refl _, ⟨none, rfl⟩, .nil, NewV.nil⟩ ?_ ?_ ?_⟩
  · rintro i acc τ H4 hi ⟨_, _, q, _⟩
    rw [← q.length, List.length_take]
    omega
  · rintro i acc' τ H4 hi ⟨e, ⟨u, rfl⟩, q, nv⟩
    unfold gName
    refine yes_go ⟨_, rfl, x, C, dx, _, _, rfl, e _ _ hx3, T.cl, T.n_pairs, lk3, _, rfl, pl, _, ps, acc, n, rfl, SqL.of (e _ _ hpl3), PairsV.same e q3, ok, fun p H5 e5 f5 g5 => ?_⟩
    refine ⟨e.trans e5, ⟨_, rfl⟩, ?_, nv.snoc (n3 _ (e.free f5))⟩
    have hi' : ((rooms n).map (ahead ps))[i]? = some (ahead ps (0 + (i : Int))) := by
      have z := rooms_get (n := n) (r := (i : Int)) (by omega) (by omega) (ahead ps)
      rw [Int.toNat_natCast] at z
      rw [z, Int.zero_add]
    rw [take_snoc hi']
    exact rows_snoc (RowsV.same e5 q) ⟨p, rfl, g5⟩
  rintro os τ H4 ⟨e4, _, q4, nv4⟩ on hon
  have non : old on = none := n3 _ (e4.free hon)
  have rl : ∀ f : Int → List Int, ((rooms n).map f).take n.toNat = (rooms n).map f := fun f => by
    refine List.take_of_length_le ?_
    unfold rooms
    simp
  rw [rl] at q4
  have hx4 : H4 x = some (.ins C dx (putF "pairs" (.ref pl) (putF "size" (.int n) []))) := e4 _ _ hx3
  have nox : on ≠ x := fun z => by rw [z, hx4] at hon; cases hon
  have npo : pl ≠ on := fun z => by have y := e4 _ _ hpl3; rw [z, hon] at y; cases y
  have e4' : Same H3 (upd H4 on (.lst os)) := e4.trans (Same.new hon)
  have rowsBut : ∀ {H H' : Hp} {o : HO} {rs : List (List Int)} {ys : List V}, But x H H' → H x = some o → (∀ ys, o ≠ .lst ys) → RowsV H rs ys → RowsV H' rs ys := fun b h no r => Paired.mapP r fun _ _ ⟨l, ev, q⟩ => ⟨l, ev, b _ _ q (ne_of q h fun z => no _ z.symm)⟩
  refine ⟨_, rfl, x, C, dx, _, rfl, e4' _ _ hx3, T.cl, T.n_onward, (by show 2 < 1000; decide), ?_⟩
  have hx5 : upd (upd H4 on (.lst os)) x (.ins C dx (putF "onward" (.ref on) (putF "pairs" (.ref pl) (putF "size" (.int n) [])))) x = some (.ins C dx (putF "onward" (.ref on) (putF "pairs" (.ref pl) (putF "size" (.int n) [])))) := upd_same
  have b5 : But x H3 (upd (upd H4 on (.lst os)) x (.ins C dx (putF "onward" (.ref on) (putF "pairs" (.ref pl) (putF "size" (.int n) []))))) := (Same.but e4').then But.upd
  have hon5 : upd (upd H4 on (.lst os)) x (.ins C dx (putF "onward" (.ref on) (putF "pairs" (.ref pl) (putF "size" (.int n) [])))) on = some (.lst os) := by rw [upd_ne nox, upd_same]
  have q5 : RowsV (upd (upd H4 on (.lst os)) x (.ins C dx (putF "onward" (.ref on) (putF "pairs" (.ref pl) (putF "size" (.int n) []))))) ((rooms n).map (ahead ps)) os := rowsBut But.upd (e4' _ _ hx3) (fun _ z => by cases z) (RowsV.same (Same.new hon) q4)
  have hpl5 := b5 _ _ hpl3 npx
  have p5 := b5.pairs hx3 (fun _ z => by cases z) q3
  have n5 : ∀ b, upd (upd H4 on (.lst os)) x (.ins C dx (putF "onward" (.ref on) (putF "pairs" (.ref pl) (putF "size" (.int n) [])))) b = none → old b = none := fun b hb => by
    by_cases z : b = x
    · rw [z]; exact ox
    · rw [upd_ne z] at hb
      by_cases y : b = on
      · rw [y]; exact non
      · rw [upd_ne y] at hb
        exact n3 b (e4.free hb)
  generalize upd (upd H4 on (.lst os)) x (.ins C dx (putF "onward" (.ref on) (putF "pairs" (.ref pl) (putF "size" (.int n) [])))) = H5 at hx5 b5 hon5 q5 hpl5 p5 n5 ⊢
  have lk5 : (putF "onward" (.ref on) (putF "pairs" (.ref pl) (putF "size" (.int n) []))).lookup ("pairs" : Str) = some (V.ref pl) := by rw [lookup_putF, if_neg (by decide +kernel), lookup_putF, if_pos rfl]
  -- self.backward = [rooms_led_from(self.pairs, room) for room in range(rooms)]
  refine ⟨_, rfl, n, rfl, (by have := ok.lo; omega), (by have := ok.hi; omega), comp_range (fun i acc τ H6 => Same H5 H6 ∧ (∃ u, τ = [u, some (.ref x)]) ∧ RowsV H6 (((rooms n).map (behind ps)).take i) acc ∧ NewV old acc) bign ⟨Same.refl _, ⟨none, rfl⟩, .nil, NewV.nil⟩ ?_ ?_ ?_⟩
  · rintro i acc τ H4 hi ⟨_, _, q, _⟩
    rw [← q.length, List.length_take]
    omega
  · rintro i acc' τ H6 hi ⟨e, ⟨u, rfl⟩, q, nv⟩
    unfold gName
    refine yes_go ⟨_, rfl, x, C, dx, _, _, rfl, e _ _ hx5, T.cl, T.n_pairs, lk5, _, rfl, pl, _, ps, acc, n, rfl, SqL.of (e _ _ hpl5), PairsV.same e p5, ok, fun p H7 e7 f7 g7 => ?_⟩
    refine ⟨e.trans e7, ⟨_, rfl⟩, ?_, nv.snoc (n5 _ (e.free f7))⟩
    have hi' : ((rooms n).map (behind ps))[i]? = some (behind ps (0 + (i : Int))) := by
      have z := rooms_get (n := n) (r := (i : Int)) (by omega) (by omega) (behind ps)
      rw [Int.toNat_natCast] at z
      rw [z, Int.zero_add]
    rw [take_snoc hi']
    exact rows_snoc (RowsV.same e7 q) ⟨p, rfl, g7⟩
  rintro bs τ H6 ⟨e6, _, q6, nv6⟩ bk hbk
  have nbk : old bk = none := n5 _ (e6.free hbk)
  rw [rl] at q6
  have hx6 : H6 x = some (.ins C dx (putF "onward" (.ref on) (putF "pairs" (.ref pl) (putF "size" (.int n) [])))) := e6 _ _ hx5
  have nbx : bk ≠ x := fun z => by rw [z, hx6] at hbk; cases hbk
  have e6' : Same H5 (upd H6 bk (.lst bs)) := e6.trans (Same.new hbk)
  refine ⟨_, rfl, x, C, dx, _, rfl, e6' _ _ hx5, T.cl, T.n_backward, (by show 3 < 1000; decide), ?_⟩
  have b7 : But x H5 (upd (upd H6 bk (.lst bs)) x (.ins C dx (putF "backward" (.ref bk) (putF "onward" (.ref on) (putF "pairs" (.ref pl) (putF "size" (.int n) [])))))) := (Same.but e6').then But.upd
  refine k _ ⟨⟨dx, pl, on, bk, acc, os, bs, upd_same, b7 _ _ hpl5 npx, b7.pairs hx5 (fun _ z => by cases z) p5, b7 _ _ hon5 nox, rowsBut b7 hx5 (fun _ z => by cases z) q5, by rw [upd_ne nbx, upd_same], rowsBut But.upd (e6' _ _ hx5) (fun _ z => by cases z) (RowsV.same (Same.new hbk) q6), ⟨ox, npl, non, nbk⟩, nv2, nv4, nv6⟩, ok⟩ ?_
  exact b1.then (b3.then (b5.then b7))
end L3
end
section
namespace L3
open PySem PySem.Spec PyProof.Rows L2 Mp
def tr_Net_leads (w : World) (K : PySem.W.Frag) (C : Addr) : TS :=
    (tSeq (tDrop (tMeth C "check_room" (sp_Net_check_room K C) [] E0 (tVar 0) (tCons (tVar 1) tNil)))
      (tRet (tCB (rListOf K) (tCons (tOp (rIxL K) (tFld K (tVar 0) "onward") (tVar 1)) tNil))))
theorem ln_Net_leads {K : PySem.W.Frag} {C : Addr} {vs : List V} {H : Hp} {Q : VK} {E : XK} (h : sp_Net_leads K C vs H Q E) : vs.length = 2 := by
  obtain ⟨x, r, n, ps, old, rfl, _⟩ := h
  rfl
theorem rd_Net_leads {w : World} {K : PySem.W.Frag} {C : Addr} (T : TG K C) {vs : List V} {H : Hp} {Q : VK} {E : XK} (h : sp_Net_leads K C vs H Q E) : tr_Net_leads w K C { nx := fun _ H' => Q .non H', rt := Q } (start ["self", "room"] vs) H := by
  obtain ⟨x, r, n, ps, old, rfl, N, h0, h1', k⟩ := h
  obtain ⟨⟨dx, pl, on, bk, xs, os, bs, h1, h2, h3, h4, h5, h6, h7, _⟩, ok⟩ := id N
  refine ⟨_, rfl, x, dx, _, rfl, h1, flds_no _ _ _ _ (by decide +kernel) (by decide +kernel) (by decide +kernel) (by decide +kernel), _, rfl, x, r, n, ps, old, rfl, N, h0, h1', ?_⟩
  obtain ⟨v, hv, l, rfl, hl⟩ := rows_get h5 (rooms_get h0 h1' (ahead ps))
  refine ⟨_, rfl, x, C, dx, _, _, rfl, h1, T.cl, T.n_onward, flds_onward _ _ _ _, _, rfl, on, os, r, .ref l, rfl, rfl, SqL.of h4, ?_, l, _, rfl, .inl (SqL.of hl), k⟩
  have e : r = ((r.toNat : Nat) : Int) := (Int.toNat_of_nonneg h0).symm
  rw [e]
  exact atI_nat hv
def trx_Net_leads (w : World) (K : PySem.W.Frag) (C : Addr) (xa : XA) (E : XK) : TS :=
    (tSeq (tDrop (tMeth C "check_room" (spo_Net_check_room K C xa) [] E (tVar 0) (tCons (tVar 1) tNil)))
      (tRet (tCB (rListOf K) (tCons (tOp (rIxL K) (tFld K (tVar 0) "onward") (tVar 1)) tNil))))
theorem lnx_Net_leads {K : PySem.W.Frag} {C : Addr} {xa : XA} {vs : List V} {H : Hp} {Q : VK} {E : XK} (h : spx_Net_leads K C xa vs H Q E) : vs.length = 2 := by
  obtain ⟨y, r, n, ps, old, rfl, _⟩ := h
  rfl
theorem rdx_Net_leads {w : World} {K : PySem.W.Frag} {C : Addr} {xa : XA} (T : TG K C) {vs : List V} {H : Hp} {Q : VK} {E : XK} (h : spx_Net_leads K C xa vs H Q E) : trx_Net_leads w K C xa E { nx := fun _ H' => Q .non H', rt := Q } (start ["self", "room"] vs) H := by
  obtain ⟨y, r, n, ps, old, rfl, N, h0, k⟩ := h
  obtain ⟨dx, pl, on, bk, gx⟩ := N.fld
  exact ⟨_, rfl, y, dx, _, rfl, gx, flds_no _ _ _ _ (by decide +kernel) (by decide +kernel) (by decide +kernel) (by decide +kernel), _, rfl, .inr ⟨y, r, n, ps, old, rfl, N, h0, k⟩⟩
end L3
end
section
namespace L3
open PySem PySem.Spec PyProof.Rows L2 Mp
def tr_Net_led (w : World) (K : PySem.W.Frag) (C : Addr) : TS :=
    (tSeq (tDrop (tMeth C "check_room" (sp_Net_check_room K C) [] E0 (tVar 0) (tCons (tVar 1) tNil)))
      (tRet (tCB (rListOf K) (tCons (tOp (rIxL K) (tFld K (tVar 0) "backward") (tVar 1)) tNil))))
theorem ln_Net_led {K : PySem.W.Frag} {C : Addr} {vs : List V} {H : Hp} {Q : VK} {E : XK} (h : sp_Net_led K C vs H Q E) : vs.length = 2 := by
  obtain ⟨x, r, n, ps, old, rfl, _⟩ := h
  rfl
theorem rd_Net_led {w : World} {K : PySem.W.Frag} {C : Addr} (T : TG K C) {vs : List V} {H : Hp} {Q : VK} {E : XK} (h : sp_Net_led K C vs H Q E) : tr_Net_led w K C { nx := fun _ H' => Q .non H', rt := Q } (start ["self", "room"] vs) H := by
  obtain ⟨x, r, n, ps, old, rfl, N, h0, h1', k⟩ := h
  obtain ⟨⟨dx, pl, on, bk, xs, os, bs, h1, h2, h3, h4, h5, h6, h7, _⟩, ok⟩ := id N
  refine ⟨_, rfl, x, dx, _, rfl, h1, flds_no _ _ _ _ (by decide +kernel) (by decide +kernel) (by decide +kernel) (by decide +kernel), _, rfl, x, r, n, ps, old, rfl, N, h0, h1', ?_⟩
  obtain ⟨v, hv, l, rfl, hl⟩ := rows_get h7 (rooms_get h0 h1' (behind ps))
  refine ⟨_, rfl, x, C, dx, _, _, rfl, h1, T.cl, T.n_backward, flds_backward _ _ _ _, _, rfl, bk, bs, r, .ref l, rfl, rfl, SqL.of h6, ?_, l, _, rfl, .inl (SqL.of hl), k⟩
  have e : r = ((r.toNat : Nat) : Int) := (Int.toNat_of_nonneg h0).symm
  rw [e]
  exact atI_nat hv
def trx_Net_led (w : World) (K : PySem.W.Frag) (C : Addr) (xa : XA) (E : XK) : TS :=
    (tSeq (tDrop (tMeth C "check_room" (spo_Net_check_room K C xa) [] E (tVar 0) (tCons (tVar 1) tNil)))
      (tRet (tCB (rListOf K) (tCons (tOp (rIxL K) (tFld K (tVar 0) "backward") (tVar 1)) tNil))))
theorem lnx_Net_led {K : PySem.W.Frag} {C : Addr} {xa : XA} {vs : List V} {H : Hp} {Q : VK} {E : XK} (h : spx_Net_led K C xa vs H Q E) : vs.length = 2 := by
  obtain ⟨y, r, n, ps, old, rfl, _⟩ := h
  rfl
theorem rdx_Net_led {w : World} {K : PySem.W.Frag} {C : Addr} {xa : XA} (T : TG K C) {vs : List V} {H : Hp} {Q : VK} {E : XK} (h : spx_Net_led K C xa vs H Q E) : trx_Net_led w K C xa E { nx := fun _ H' => Q .non H', rt := Q } (start ["self", "room"] vs) H := by
  obtain ⟨y, r, n, ps, old, rfl, N, h0, k⟩ := h
  obtain ⟨dx, pl, on, bk, gx⟩ := N.fld
  exact ⟨_, rfl, y, dx, _, rfl, gx, flds_no _ _ _ _ (by decide +kernel) (by decide +kernel) (by decide +kernel) (by decide +kernel), _, rfl, .inr ⟨y, r, n, ps, old, rfl, N, h0, k⟩⟩
end L3
end
section
namespace L3
open PySem PySem.Spec PyProof.Rows L2 Mp
def tr_steps_past (w : World) (K : PySem.W.Frag) (C : Addr) : TS :=
    (tSeq (tIfS (tTest (tOp rEq (tVar 1) (tC (.int 0)))) (tRet tDNewK) tNext)
      (tSeq (tAsg (tDisp [((tC (.int 0)), (tC .non))]) (gName 2))
      (tSeq (tAsg (tLst (tCons (tC (.int 0)) tNil)) (gName 3))
      (tSeq (tWhile (tTru K (tVar 3)) (tSeq (tAsg (tBM K "list" (rPopAt) (tVar 3) (tCons (tC (.int 0)) tNil)) (gName 4))
        (tFor (iList K (tMeth C "leads" (sp_Net_leads K C) [] E0 (tVar 0) (tCons (tVar 4) tNil))) (gName 5)
          (tIfS (tAnd (tTest (tOp rNe (tVar 5) (tVar 1))) (tB (tDNotIn (tVar 5) (tVar 2)))) (tSeq (sDPut (tVar 2) (tVar 5) (tVar 4))
            (tDrop (tBM K "list" (rAppend) (tVar 3) (tCons (tVar 5) tNil)))) tNext))))
      (tRet (tVar 2))))))
theorem ln_steps_past {K : PySem.W.Frag} {C : Addr} {vs : List V} {H : Hp} {Q : VK} {E : XK} (h : sp_steps_past K C vs H Q E) : vs.length = 2 := by
  obtain ⟨x, c, n, ps, old, z, rfl, _⟩ := h
  rfl
theorem rd_steps_past {w : World} {K : PySem.W.Frag} {C : Addr} (T : TG K C) {vs : List V} {H : Hp} {Q : VK} {E : XK} (h : sp_steps_past K C vs H Q E) : tr_steps_past w K C { nx := fun _ H' => Q .non H', rt := Q } (start ["net", "closed", "step_before", "waiting", "room", "further"] vs) H := by
  obtain ⟨x, c, n, ps, old, z, rfl, N, hc, k⟩ := h
  have hs0 : scal c (.int 0) = true := by rcases hc with ⟨rfl, _⟩ | rfl <;> rfl
  have hd0 : decide (c = .int 0) = decide (z = 0) := by
    rcases hc with ⟨rfl, rfl⟩ | rfl
    · rfl
    · exact decV
  have hsf : ∀ f : Int, scal (.int f) c = true := fun f => by rcases hc with ⟨rfl, _⟩ | rfl <;> rfl
  have hdf : ∀ f : Int, 0 ≤ f → decide (V.int f = c) = decide (f = z) := fun f h => by
    rcases hc with ⟨rfl, rfl⟩ | rfl
    · rw [decide_eq_false (by omega : ¬ f = -1)]
      exact decide_eq_false fun e => by cases e
    · exact decV
  refine ⟨_, rfl, hs0, _, rfl, ?_⟩
  rw [hd0]
  by_cases hz : z = 0
  · rw [decide_eq_true hz]
    refine iteT fun d hd => k d [] _ (Same.new hd) hd upd_same ?_
    rw [hz]
    exact found_none
  rw [decide_eq_false hz]
  refine iteF fun d hd => ?_
  refine ⟨upd_same, [(Sum.inl 0, .non)], rfl, (by decide), ?_⟩
  have e1 : Same H (upd (upd H d (.dK [])) d (.dK (mergeK [] [(Sum.inl 0, .non)]))) := Same.upd (Same.new hd) hd
  have g1 : upd (upd H d (.dK [])) d (.dK (mergeK [] [(Sum.inl 0, .non)])) d = some (.dK (kvOf [(0, none)])) := upd_same
  generalize upd (upd H d (.dK [])) d (.dK (mergeK [] [(Sum.inl 0, .non)])) = H1 at e1 g1 ⊢
  refine ⟨(by show 1 ≤ sizeLine; decide), fun q hq => ?_⟩
  have nq : H q = none := e1.free hq
  have ndq : d ≠ q := ne_of_none g1 hq
  refine ⟨fun m σ H3 => ∃ (u4 u5 : Option V) (tr : Tr) (wq : List Int), σ = [some (.ref x), some c, some (.ref d), some (.ref q), u4, u5] ∧ Same H H3 ∧ H3 d = some (.dK (kvOf tr)) ∧ H3 q = some (.lst (wq.map V.int)) ∧ Bfs ps z tr wq none ∧ wq.length ≤ tr.length ∧
    m = 2 * (n.toNat - tr.length) + wq.length, ⟨_, none, none, [(0, none)], [0], rfl, Same.upd e1 nq, (by rw [upd_ne ndq]; exact g1), upd_same, Bfs.first ps z, (by decide), rfl⟩, ?_⟩
  rintro m σ H3 ⟨u4, u5, tr, wq, rfl, e3, gd, gq, B, ql, rfl⟩
  refine ⟨_, rfl, (!(wq.map V.int).isEmpty), .inl ⟨_, SqL.of gq, rfl⟩, ?_⟩
  cases wq with
  | nil => exact iteF ⟨_, rfl, k d tr H3 e3 hd gd (B.done hz)⟩
  | cons r wq =>
    refine iteT ⟨fun σ' H' => ∃ (u4 u5 : Option V) (tr' : Tr) (wq' : List Int), σ' = [some (.ref x), some c, some (.ref d), some (.ref q), u4, u5] ∧ Same H H' ∧ H' d = some (.dK (kvOf tr')) ∧ H' q = some (.lst (wq'.map V.int)) ∧ Bfs ps z tr' wq' none ∧ wq'.length ≤ tr'.length ∧
      2 * (n.toNat - tr'.length) + wq'.length < 2 * (n.toNat - tr.length) + (r :: wq).length, fun σ' H' ⟨a1, a2, a3, a4, d1, d2, d3, d4, d5, d6, d7⟩ => ⟨_, d7, a1, a2, a3, a4, d1, d2, d3, d4, d5, d6, rfl⟩, ?_⟩
    obtain ⟨B1, hr⟩ := B.pop
    obtain ⟨r0, r1⟩ := N.ok.lt (B.tree.rch hz hr)
    -- room = waiting.pop(0)
    refine ⟨_, rfl, .inl ⟨rfl, _, SqL.of gq⟩, q, _, 0, 0, .int r, rfl, rfl, gq, (by decide), (by decide), (ixN_seq (ixN_int (Int.le_refl 0) (by simp))).1, rfl, ?_⟩
    have gq4 : upd H3 q (.lst (((r :: wq).map V.int).eraseIdx 0)) q = some (.lst (wq.map V.int)) := upd_same
    have gd4 : upd H3 q (.lst (((r :: wq).map V.int).eraseIdx 0)) d = some (.dK (kvOf tr)) := by rw [upd_ne ndq]; exact gd
    have e4 : Same H (upd H3 q (.lst (((r :: wq).map V.int).eraseIdx 0))) := Same.upd e3 nq
    generalize upd H3 q (.lst (((r :: wq).map V.int).eraseIdx 0)) = H4 at gq4 gd4 e4 ⊢
    -- for further in net.leads(room)
    obtain ⟨dx, pl, on, bk, gx⟩ := (N.same e4).fld
    refine ⟨_, rfl, x, dx, _, rfl, gx, flds_no _ _ _ _ (by decide +kernel) (by decide +kernel) (by decide +kernel) (by decide +kernel), _, rfl, x, r, n, ps, old, rfl, N.same e4, r0, r1, fun la hla => ?_⟩
    have nla : H la = none := e4.free hla
    have l64 := N.len_ahead r
    refine ⟨la, rfl, ⟨_, SqL.of upd_same⟩, for_list (K := K) (a := la) (xs := (ahead ps r).map V.int) (fun i σ H5 => ∃ (u5 : Option V) (tr' : Tr) (wq' : List Int), σ = [some (.ref x), some c, some (.ref d), some (.ref q), some (.int r), u5] ∧ Same H H5 ∧ H5 la = some (.lst ((ahead ps r).map V.int)) ∧ H5 d = some (.dK (kvOf tr')) ∧ H5 q = some (.lst (wq'.map V.int)) ∧
      Bfs ps z tr' wq' (some r) ∧ r ∈ ks tr' ∧ (∀ b ∈ (ahead ps r).take i, b ≠ z → b ∈ ks tr') ∧ 2 * (n.toNat - tr'.length) + wq'.length < 2 * (n.toNat - tr.length) + (r :: wq).length ∧ wq'.length ≤ tr'.length)
      ⟨u5, tr, wq, rfl, e4.trans (Same.new hla), upd_same, (by rw [upd_ne (ne_of_none gd4 hla)]; exact gd4), (by rw [upd_ne (ne_of_none gq4 hla)]; exact gq4), B1, hr, (fun b hb => by simp at hb), (by simp), (by simp at ql; omega)⟩
      (fun i σ H5 _ ⟨_, _, _, _, _, g, _⟩ => SqL.of g) ?_ ?_⟩
    · rintro i y σ H5 hi ⟨u5, tr', wq', rfl, e5, ga, gd5, gq5, B5, hr5, cl5, m5, ql5⟩
      rw [List.getElem?_map] at hi
      obtain ⟨f, hf, rfl⟩ := Option.map_eq_some_iff.mp hi
      have mf : (r, f) ∈ ps := mem_ahead.mp (List.mem_of_getElem? hf)
      have f0 : 0 ≤ f := (N.ok.ok _ mf).2.2.1
      have stay : (f ≠ z → f ∈ ks tr') → ∀ b ∈ (ahead ps r).take (i + 1), b ≠ z → b ∈ ks tr' := fun hh b hb => by
        rw [take_snoc hf] at hb
        rcases List.mem_append.mp hb with h | h
        · exact cl5 b h
        · rw [List.mem_singleton] at h
          rw [h]
          exact hh
      refine ⟨_, rfl, _, rfl, hsf f, _, rfl, ?_⟩
      rw [hdf f f0]
      by_cases hfz : f = z
      · rw [decide_eq_true hfz]
        exact iteF (iteF ⟨_, tr', wq', rfl, e5, ga, gd5, gq5, B5, hr5, stay fun h => (h hfz).elim, m5, ql5⟩)
      · rw [decide_eq_false hfz]
        refine iteT ⟨_, rfl, _, rfl, d, _, rfl, DGet.k (k := Sum.inl f) gd5, _, rfl, ?_⟩
        rw [valV_iff B5.tree.nd]
        by_cases hk : f ∈ ks tr'
        · rw [decide_eq_true hk]
          exact iteF ⟨_, tr', wq', rfl, e5, ga, gd5, gq5, B5, hr5, stay fun _ => hk, m5, ql5⟩
        · rw [decide_eq_false hk]
          have B6 := B5.add hr5 hk mf hfz
          have t6 := N.ok.tree hz B6.tree
          rw [List.length_append] at t6
          have hi40 := N.ok.hi
          have lt5 : tr'.length ≤ 40 := by omega
          refine iteT ⟨_, rfl, _, rfl, _, rfl, d, _, rfl, DPut.k (k := Sum.inl f) gd5 (small1000 (by rw [kvOf_len]; omega)), ?_⟩
          rw [kvOf_put hk]
          have gq6 : upd H5 d (.dK (kvOf (tr' ++ [(f, some r)]))) q = some (.lst (wq'.map V.int)) := by rw [upd_ne (Ne.symm ndq)]; exact gq5
          refine ⟨_, rfl, .inl ⟨rfl, _, SqL.of gq6⟩, _, rfl, q, _, .int f, rfl, rfl, gq6, small1000 (by rw [List.length_map]; omega), ?_⟩
          refine ⟨_, tr' ++ [(f, some r)], wq' ++ [f], rfl, Same.upd (Same.upd e5 hd) nq, ?_, ?_, ?_, B6, ?_, ?_, ?_, ?_⟩
          · rw [upd_ne (ne_of_none gq4 hla).symm, upd_ne (ne_of_none gd4 hla).symm]
            exact ga
          · rw [upd_ne ndq, upd_same]
          · rw [upd_same, List.map_append]
            rfl
          · rw [ks_snoc]
            exact List.mem_append_left _ hr5
          · intro b hb hbz
            rw [ks_snoc]
            rw [take_snoc hf] at hb
            rcases List.mem_append.mp hb with h | h
            · exact List.mem_append_left _ (cl5 b h hbz)
            · exact List.mem_append_right _ h
          · simp at m5 t6 ⊢
            omega
          · simp
            omega
    · rintro σ H5 ⟨u5, tr', wq', rfl, e5, ga, gd5, gq5, B5, hr5, cl5, m5, ql5⟩
      refine ⟨_, _, tr', wq', rfl, e5, gd5, gq5, B5.close fun b m hb => ?_, ql5, m5⟩
      refine cl5 b ?_ hb
      rw [List.length_map, List.take_length]
      exact mem_ahead.mpr m
end L3
end
section
namespace L3
open PySem PySem.Spec PyProof.Rows L2 Mp
def tr_check_all_reached (w : World) (K : PySem.W.Frag) (C : Addr) : TS :=
    (tSeq (tFor (iList K (tVar 1)) (gName 2)
        (tDrop (tMeth C "check_room" (sp_Net_check_room K C) [] E0 (tVar 0) (tCons (tVar 2) tNil))))
      (tSeq (tAsg (tCall (sp_steps_past K C) [] E0 (tCons (tVar 0) (tCons (tC .non) tNil))) (gName 3))
      (tFor (iList K (tVar 1)) (gName 2)
        (tIfS (tB (tDNotIn (tVar 2) (tVar 3))) tNever tNext))))
theorem ln_check_all_reached {K : PySem.W.Frag} {C : Addr} {vs : List V} {H : Hp} {Q : VK} {E : XK} (h : sp_check_all_reached K C vs H Q E) : vs.length = 2 := by
  obtain ⟨x, a, rs, n, ps, old, rfl, _⟩ := h
  rfl
theorem rd_check_all_reached {w : World} {K : PySem.W.Frag} {C : Addr} (T : TG K C) {vs : List V} {H : Hp} {Q : VK} {E : XK} (h : sp_check_all_reached K C vs H Q E) : tr_check_all_reached w K C { nx := fun _ H' => Q .non H', rt := Q } (start ["net", "some", "room", "step_before"] vs) H := by
  obtain ⟨x, a, rs, n, ps, old, rfl, N, hs, hr, k⟩ := h
  obtain ⟨dx, pl, on, bk, gx⟩ := N.fld
  refine ⟨_, rfl, a, rfl, ⟨_, hs⟩, for_list (K := K) (a := a) (xs := rs.map V.int) (fun i σ H2 => ∃ u2 : Option V, σ = [some (.ref x), some (.ref a), u2, none] ∧ H2 = H) ⟨none, rfl, rfl⟩ (fun i σ H2 _ ⟨_, _, e⟩ => e ▸ hs) ?_ ?_⟩
  · rintro i y σ H2 hi ⟨u2, rfl, rfl⟩
    obtain ⟨r, hri, rfl⟩ := int_get hi
    obtain ⟨r0, r1⟩ := N.ok.lt (hr r (List.mem_of_getElem? hri))
    exact ⟨_, rfl, x, dx, _, rfl, gx, flds_no _ _ _ _ (by decide +kernel) (by decide +kernel) (by decide +kernel) (by decide +kernel), _, rfl, x, r, n, ps, old, rfl, N, r0, r1, _, rfl, rfl⟩
  · rintro σ H2 ⟨u2, rfl, rfl⟩
    refine ⟨_, rfl, x, .non, n, ps, old, -1, rfl, N, .inl ⟨rfl, rfl⟩, fun d tr H' e nd g F => ?_⟩
    refine ⟨_, rfl, a, rfl, ⟨_, e.seq hs⟩, for_list (K := K) (a := a) (xs := rs.map V.int) (fun i σ H3 => ∃ u2 : Option V, σ = [some (.ref x), some (.ref a), u2, some (.ref d)] ∧ H3 = H') ⟨_, rfl, rfl⟩ (fun i σ H3 _ ⟨_, _, e2⟩ => e2 ▸ e.seq hs) ?_ ?_⟩
    · rintro i y σ H3 hi ⟨u2, rfl, rfl⟩
      obtain ⟨r, hri, rfl⟩ := int_get hi
      refine ⟨_, rfl, _, rfl, d, _, rfl, DGet.k (k := Sum.inl r) g, _, rfl, ?_⟩
      rw [valV_iff F.tree.nd, decide_eq_true ((F.all r).mpr (hr r (List.mem_of_getElem? hri)))]
      exact iteF ⟨_, rfl, rfl⟩
    · rintro σ H3 ⟨u2, rfl, rfl⟩
      exact k _ e
def trx_check_all_reached (w : World) (K : PySem.W.Frag) (C : Addr) (xa : XA) (E : XK) : TS :=
    (tSeq (tFor (iList K (tVar 1)) (gName 2)
        (tDrop (tMeth C "check_room" (spo_Net_check_room K C xa) [] E (tVar 0) (tCons (tVar 2) tNil))))
      (tSeq (tAsg (tCall (sp_steps_past K C) [] E0 (tCons (tVar 0) (tCons (tC .non) tNil))) (gName 3))
      (tFor (iList K (tVar 1)) (gName 2)
        (tIfS (tB (tDNotIn (tVar 2) (tVar 3))) (tRaise xa.Unreached E (tCons (tC (.str "no way leads to this room")) tNil)) tNext))))
theorem lnx_check_all_reached {K : PySem.W.Frag} {C : Addr} {xa : XA} {vs : List V} {H : Hp} {Q : VK} {E : XK} (h : spx_check_all_reached K C xa vs H Q E) : vs.length = 2 := by
  obtain ⟨y, a, rs, n, ps, old, rfl, _⟩ := h
  rfl
theorem rdx_check_all_reached {w : World} {K : PySem.W.Frag} {C : Addr} {xa : XA} (T : TG K C) {vs : List V} {H : Hp} {Q : VK} {E : XK} (h : spx_check_all_reached K C xa vs H Q E) : trx_check_all_reached w K C xa E { nx := fun _ H' => Q .non H', rt := Q } (start ["net", "some", "room", "step_before"] vs) H := by
  obtain ⟨y, a, rs, n, ps, old, rfl, N, hs, hh⟩ := h
  obtain ⟨dx, pl, on, bk, gx⟩ := N.fld
  rcases hh with ⟨hall, ⟨kb, hkb, hnr⟩, k⟩ | ⟨⟨kb, hkb, hnr⟩, k⟩
  · refine ⟨_, rfl, a, rfl, ⟨_, hs⟩, for_list (K := K) (a := a) (xs := rs.map V.int) (fun i σ H2 => ∃ u2 : Option V, σ = [some (.ref y), some (.ref a), u2, none] ∧ H2 = H) ⟨none, rfl, rfl⟩ (fun i σ H2 _ ⟨_, _, e⟩ => e ▸ hs) ?_ ?_⟩
    · rintro i v σ H2 hi ⟨u2, rfl, rfl⟩
      obtain ⟨r, hri, rfl⟩ := int_get hi
      obtain ⟨r0, r1⟩ := hall r (List.mem_of_getElem? hri)
      exact ⟨_, rfl, y, dx, _, rfl, gx, flds_no _ _ _ _ (by decide +kernel) (by decide +kernel) (by decide +kernel) (by decide +kernel), _, rfl, .inl ⟨y, r, n, ps, old, rfl, N, r0, r1, _, rfl, rfl⟩⟩
    · rintro σ H2 ⟨u2, rfl, rfl⟩
      refine ⟨_, rfl, y, .non, n, ps, old, -1, rfl, N, .inl ⟨rfl, rfl⟩, fun d tr H' e nd g F => ?_⟩
      refine ⟨_, rfl, a, rfl, ⟨_, e.seq hs⟩, for_list (K := K) (a := a) (xs := rs.map V.int) (fun i σ H3 => ∃ u2 : Option V, σ = [some (.ref y), some (.ref a), u2, some (.ref d)] ∧ H3 = H' ∧ ∀ k ∈ rs.take i, Rch ps (-1) k) ⟨_, rfl, rfl, fun k hk => by simp at hk⟩ (fun i σ H3 _ ⟨_, _, e2, _⟩ => e2 ▸ e.seq hs) ?_ ?_⟩
      · rintro i v σ H3 hi ⟨u2, rfl, rfl, al⟩
        obtain ⟨r, hri, rfl⟩ := int_get hi
        refine ⟨_, rfl, _, rfl, d, _, rfl, DGet.k (k := Sum.inl r) g, _, rfl, ?_⟩
        rw [valV_iff F.tree.nd]
        by_cases hk : r ∈ ks tr
        · rw [decide_eq_true hk]
          refine iteF ⟨_, rfl, rfl, fun q hq => ?_⟩
          rw [take_snoc hri] at hq
          rcases List.mem_append.mp hq with z | z
          · exact al q z
          · rw [List.mem_singleton.mp z]; exact (F.all r).mp hk
        · rw [decide_eq_false hk]
          exact iteT ⟨(by show 1 ≤ sizeLine; decide), k _ e⟩
      · rintro σ H3 ⟨u2, rfl, rfl, al⟩
        rw [List.length_map, List.take_length] at al
        exact absurd (al kb hkb) hnr
  · refine ⟨_, rfl, a, rfl, ⟨_, hs⟩, for_list (K := K) (a := a) (xs := rs.map V.int) (fun i σ H2 => ∃ u2 : Option V, σ = [some (.ref y), some (.ref a), u2, none] ∧ H2 = H ∧ ∀ k ∈ rs.take i, 0 ≤ k ∧ k < n) ⟨none, rfl, rfl, fun k hk => by simp at hk⟩ (fun i σ H2 _ ⟨_, _, e, _⟩ => e ▸ hs) ?_ ?_⟩
    · rintro i v σ H2 hi ⟨u2, rfl, rfl, al⟩
      obtain ⟨r, hri, rfl⟩ := int_get hi
      by_cases hr : 0 ≤ r ∧ r < n
      · refine ⟨_, rfl, y, dx, _, rfl, gx, flds_no _ _ _ _ (by decide +kernel) (by decide +kernel) (by decide +kernel) (by decide +kernel), _, rfl, .inl ⟨y, r, n, ps, old, rfl, N, hr.1, hr.2, _, rfl, rfl, fun q hq => ?_⟩⟩
        rw [take_snoc hri] at hq
        rcases List.mem_append.mp hq with z | z
        · exact al q z
        · rw [List.mem_singleton.mp z]; exact hr
      · exact ⟨_, rfl, y, dx, _, rfl, gx, flds_no _ _ _ _ (by decide +kernel) (by decide +kernel) (by decide +kernel) (by decide +kernel), _, rfl, .inr ⟨y, r, n, ps, old, rfl, N, hr, k _ (Same.refl _)⟩⟩
    · rintro σ H2 ⟨u2, rfl, rfl, al⟩
      rw [List.length_map, List.take_length] at al
      exact absurd (al kb hkb) hnr
end L3
end
section
namespace L3
open PySem PySem.Spec PyProof.Rows L2 Mp
def tr_reached (w : World) (K : PySem.W.Frag) (C : Addr) : TS :=
    (tRet (tCB (rSortedD) (tCons (tCall (sp_steps_past K C) [] E0 (tCons (tVar 0) (tCons (tC .non) tNil))) tNil)))
theorem ln_reached {K : PySem.W.Frag} {C : Addr} {vs : List V} {H : Hp} {Q : VK} {E : XK} (h : sp_reached K C vs H Q E) : vs.length = 1 := by
  obtain ⟨x, n, ps, old, rfl, _⟩ := h
  rfl
theorem rd_reached {w : World} {K : PySem.W.Frag} {C : Addr} (T : TG K C) {vs : List V} {H : Hp} {Q : VK} {E : XK} (h : sp_reached K C vs H Q E) : tr_reached w K C { nx := fun _ H' => Q .non H', rt := Q } (start ["net"] vs) H := by
  obtain ⟨x, n, ps, old, rfl, N, k⟩ := h
  refine ⟨_, rfl, x, .non, n, ps, old, -1, rfl, N, .inl ⟨rfl, rfl⟩, fun d tr H' e nd g F => ?_⟩
  have fl := N.ok.found F
  have hi := N.ok.hi
  refine ⟨d, kvOf tr, ks tr, rfl, g, kvOf_keys tr, (by simp [ks]; omega), fun l H2 e2 n2 g2 => k l H2 (e.trans e2) (e.free n2) ?_⟩
  rw [g2, sorted_filter n F.tree.nd fun k => ?_]
  · rfl
  rw [F.all k, rch_iff]
  exact ⟨fun h => ⟨(N.ok.lt h).1, (N.ok.lt h).2, h⟩, fun h => h.2.2⟩
end L3
end
section
namespace L3
open PySem PySem.Spec PyProof.Rows L2 Mp
def tr_guards_all (w : World) (K : PySem.W.Frag) (C : Addr) : TS :=
    (tSeq (tAsg (tCall (sp_steps_past K C) [] E0 (tCons (tVar 0) (tCons (tVar 1) tNil))) (gName 3))
      (tRet (tNotV (tCB (rAny K) (tCons (tComp (iList K (tVar 2)) 1 [3] (gName 0) tYes (tDIn (tVar 0) (tVar 1))) tNil)))))
theorem ln_guards_all {K : PySem.W.Frag} {C : Addr} {vs : List V} {H : Hp} {Q : VK} {E : XK} (h : sp_guards_all K C vs H Q E) : vs.length = 3 := by
  obtain ⟨x, g, a, rs, n, ps, old, rfl, _⟩ := h
  rfl
theorem rd_guards_all {w : World} {K : PySem.W.Frag} {C : Addr} (T : TG K C) {vs : List V} {H : Hp} {Q : VK} {E : XK} (h : sp_guards_all K C vs H Q E) : tr_guards_all w K C { nx := fun _ H' => Q .non H', rt := Q } (start ["net", "room", "some", "step_before"] vs) H := by
  obtain ⟨x, g, a, rs, n, ps, old, rfl, N, hs, hl, hr, k⟩ := h
  refine ⟨_, rfl, _, rfl, x, .int g, n, ps, old, g, rfl, N, .inr rfl, fun d tr H1 e1 nd gd F => ?_⟩
  refine ⟨_, rfl, a, rfl, ⟨_, e1.seq hs⟩, comp_int_pure (K := K) (ys := rs) (caps := [some (.ref d)]) (fun _ => true) (fun k => .bl (decide (k ∈ ks tr))) (e1.seq hs) hl rfl (fun y P _ h => h) (fun y P _ _ h => ?_) fun c hc => ?_⟩
  · refine ⟨_, rfl, _, rfl, d, _, rfl, DGet.k (k := Sum.inl y) gd, ?_⟩
    rw [valV_iff F.tree.nd]
    exact h
  · refine ⟨c, rs.map fun k => decide (k ∈ ks tr), rfl, SqL.of ?_, _, rfl, ?_⟩
    · rw [upd_same, List.filter_eq_self.mpr (fun _ _ => rfl), List.map_map]
      rfl
    · rw [any_out F hr]
      exact k _ (e1.trans (Same.new hc))
end L3
end
section
namespace L3
open PySem PySem.Spec PyProof.Rows L2 Mp
def tr_first_doors (w : World) (K : PySem.W.Frag) (C : Addr) : TS :=
    (tSeq (tAsg (tCall (sp_steps_past K C) [] E0 (tCons (tVar 0) (tCons (tVar 1) tNil))) (gName 2))
      (tRet (tComp (iEnum K (tCons (tMeth C "doors" (sp_Net_doors K C) [] E0 (tVar 0) tNil) tNil)) 2 [1, 2] (gTup K 2 (gCons (gName 0) (gCons (gName 1) gNil))) (tAnd (tTest (tOp rEq (tOp (rIxT K) (tVar 1) (tC (.int 1))) (tVar 2))) (tB (tDIn (tOp (rIxT K) (tVar 1) (tC (.int 0))) (tVar 3)))) (tVar 0))))
theorem ln_first_doors {K : PySem.W.Frag} {C : Addr} {vs : List V} {H : Hp} {Q : VK} {E : XK} (h : sp_first_doors K C vs H Q E) : vs.length = 2 := by
  obtain ⟨x, g, n, ps, old, rfl, _⟩ := h
  rfl
theorem rd_first_doors {w : World} {K : PySem.W.Frag} {C : Addr} (T : TG K C) {vs : List V} {H : Hp} {Q : VK} {E : XK} (h : sp_first_doors K C vs H Q E) : tr_first_doors w K C { nx := fun _ H' => Q .non H', rt := Q } (start ["net", "room", "step_before"] vs) H := by
  obtain ⟨x, g, n, ps, old, rfl, N, k⟩ := h
  have plen := N.ok.len
  refine ⟨_, rfl, _, rfl, x, .int g, n, ps, old, g, rfl, N, .inr rfl, fun d tr H1 e1 nd gd F => ?_⟩
  obtain ⟨dx, pl, on, bk, gx⟩ := (N.same e1).fld
  refine ⟨_, rfl, x, dx, _, rfl, gx, flds_no _ _ _ _ (by decide +kernel) (by decide +kernel) (by decide +kernel) (by decide +kernel), x, n, ps, old, rfl, N.same e1, fun l xs nl hp => ?_⟩
  have e2 : Same H1 (upd H1 l (.lst xs)) := Same.new nl
  have gl : upd H1 l (.lst xs) l = some (.lst xs) := upd_same
  have hp2 := PairsV.same e2 hp
  have gd2 := e2 _ _ gd
  generalize upd H1 l (.lst xs) = H2 at e2 gl hp2 gd2 ⊢
  refine ⟨l, xs, rfl, SqL.of gl, comp_enum_doors (K := K) (caps := [some (.int g), some (.ref d)]) (fun k => decide ((ps.getD k.toNat (0, 0)).2 = g) && rch ps g (ps.getD k.toNat (0, 0)).1) (SqL.of gl) hp2 (by omega) rfl (fun j y t H3 P hj e3 gt h => ?_) fun a H3 e3 na => ?_⟩
  · have gd3 := e3 _ _ gd2
    rw [show ((j : Nat) : Int).toNat = j by omega, getD_of hj] at h
    refine ⟨_, rfl, t, _, 1, _, rfl, rfl, SqT.of gt, rfl, _, rfl, rfl, _, rfl, ?_⟩
    rw [decV]
    refine ite2 (fun z => ?_) fun z => ?_
    · rw [z, Bool.true_and] at h
      refine ⟨_, rfl, t, _, 0, _, rfl, rfl, SqT.of gt, rfl, _, rfl, d, _, rfl, DGet.k (k := Sum.inl y.1) gd3, _, rfl, ?_⟩
      rw [valV_iff F.tree.nd, found_dec F]
      exact h
    · rw [Bool.not_eq_true] at z
      rw [z, Bool.false_and] at h
      exact h
  · refine k a _ (e1.trans (e2.trans (e3.trans (Same.new na)))) ((e1.trans (e2.trans e3)).free na) ?_
    rw [upd_same, first_ints]
end L3
end
section
namespace L3
open PySem PySem.Spec PyProof.Rows L2 Mp
def tr_check_reached (w : World) (K : PySem.W.Frag) (C : Addr) : TS :=
    (tDrop (tCall (sp_check_all_reached K C) [] E0 (tCons (tVar 0) (tCons (tLst (tCons (tVar 1) tNil)) tNil))))
theorem ln_check_reached {K : PySem.W.Frag} {C : Addr} {vs : List V} {H : Hp} {Q : VK} {E : XK} (h : sp_check_reached K C vs H Q E) : vs.length = 2 := by
  obtain ⟨x, r, n, ps, old, rfl, _⟩ := h
  rfl
theorem rd_check_reached {w : World} {K : PySem.W.Frag} {C : Addr} (T : TG K C) {vs : List V} {H : Hp} {Q : VK} {E : XK} (h : sp_check_reached K C vs H Q E) : tr_check_reached w K C { nx := fun _ H' => Q .non H', rt := Q } (start ["net", "room"] vs) H := by
  obtain ⟨x, r, n, ps, old, rfl, N, hr, k⟩ := h
  refine ⟨_, rfl, _, rfl, (by show 1 ≤ sizeLine; decide), fun a ha => ?_⟩
  have e1 : Same H (upd H a (.lst [.int r])) := Same.new ha
  exact ⟨x, a, [r], n, ps, old, rfl, N.same e1, SqL.of upd_same, (fun k hk => by rw [List.mem_singleton.mp hk]; exact hr), fun H' e' => k H' (e1.trans e')⟩
def trx_check_reached (w : World) (K : PySem.W.Frag) (C : Addr) (xa : XA) (E : XK) : TS :=
    (tDrop (tCall (spo_check_all_reached K C xa) [] E (tCons (tVar 0) (tCons (tLst (tCons (tVar 1) tNil)) tNil))))
theorem lnx_check_reached {K : PySem.W.Frag} {C : Addr} {xa : XA} {vs : List V} {H : Hp} {Q : VK} {E : XK} (h : spx_check_reached K C xa vs H Q E) : vs.length = 2 := by
  obtain ⟨y, r, n, ps, old, rfl, _⟩ := h
  rfl
theorem rdx_check_reached {w : World} {K : PySem.W.Frag} {C : Addr} {xa : XA} (T : TG K C) {vs : List V} {H : Hp} {Q : VK} {E : XK} (h : spx_check_reached K C xa vs H Q E) : trx_check_reached w K C xa E { nx := fun _ H' => Q .non H', rt := Q } (start ["net", "room"] vs) H := by
  obtain ⟨y, r, n, ps, old, rfl, N, hh⟩ := h
  refine ⟨_, rfl, _, rfl, (by show 1 ≤ sizeLine; decide), fun a ha => .inr ?_⟩
  have e1 : Same H (upd H a (.lst [.int r])) := Same.new ha
  refine ⟨y, a, [r], n, ps, old, rfl, N.same e1, SqL.of upd_same, ?_⟩
  rcases hh with ⟨r0, r1, hr, k⟩ | ⟨hr, k⟩
  · exact .inl ⟨fun q hq => by rw [List.mem_singleton.mp hq]; exact ⟨r0, r1⟩, ⟨r, by simp, hr⟩, fun H' e' => k H' (e1.trans e')⟩
  · exact .inr ⟨⟨r, by simp, hr⟩, fun H' e' => k H' (e1.trans e')⟩
end L3
end
section
namespace L3
open PySem PySem.Spec PyProof.Rows L2 Mp
def tr_guarded (w : World) (K : PySem.W.Frag) (C : Addr) : TS :=
    (tSeq (tAsg (tCall (sp_steps_past K C) [] E0 (tCons (tVar 0) (tCons (tVar 1) tNil))) (gName 2))
      (tRet (tComp (iList K (tCall (sp_reached K C) [] E0 (tCons (tVar 0) tNil))) 1 [2] (gName 0) (tB (tDNotIn (tVar 0) (tVar 1))) (tVar 0))))
theorem ln_guarded {K : PySem.W.Frag} {C : Addr} {vs : List V} {H : Hp} {Q : VK} {E : XK} (h : sp_guarded K C vs H Q E) : vs.length = 2 := by
  obtain ⟨x, g, n, ps, old, rfl, _⟩ := h
  rfl
theorem rd_guarded {w : World} {K : PySem.W.Frag} {C : Addr} (T : TG K C) {vs : List V} {H : Hp} {Q : VK} {E : XK} (h : sp_guarded K C vs H Q E) : tr_guarded w K C { nx := fun _ H' => Q .non H', rt := Q } (start ["net", "room", "step_before"] vs) H := by
  obtain ⟨x, g, n, ps, old, rfl, N, k⟩ := h
  refine ⟨_, rfl, _, rfl, x, .int g, n, ps, old, g, rfl, N, .inr rfl, fun d tr H1 e1 nd gd F => ?_⟩
  refine ⟨_, rfl, x, n, ps, old, rfl, N.same e1, fun l H2 e2 nl gl => ?_⟩
  have gd2 := e2 _ _ gd
  refine ⟨l, rfl, ⟨_, SqL.of gl⟩, comp_int_pure (K := K) (ys := reachedL n ps) (caps := [some (.ref d)]) (fun k => !decide (k ∈ ks tr)) V.int (SqL.of gl) (Nat.le_trans (rooms_small N.ok _) (by decide)) rfl (fun y P _ h => ?_) (fun y P _ _ h => ⟨_, rfl, h⟩) fun a ha => ?_⟩
  · refine ⟨_, rfl, _, rfl, d, _, rfl, DGet.k (k := Sum.inl y) gd2, _, rfl, ?_⟩
    rw [valV_iff F.tree.nd]
    exact h
  · refine k a _ (e1.trans (e2.trans (Same.new ha))) ((e1.trans e2).free ha) ?_
    rw [upd_same, guarded_eq F]
end L3
end
section
namespace L3
open PySem PySem.Spec PyProof.Rows L2 Mp
def tr_way_to (w : World) (K : PySem.W.Frag) (C : Addr) : TS :=
    (tSeq (tDrop (tCall (sp_check_reached K C) [] E0 (tCons (tVar 0) (tCons (tVar 1) tNil))))
      (tRet (tCall (sp_trace_way K C) [] E0 (tCons (tCall (sp_steps_past K C) [] E0 (tCons (tVar 0) (tCons (tC .non) tNil))) (tCons (tVar 1) tNil)))))
theorem ln_way_to {K : PySem.W.Frag} {C : Addr} {vs : List V} {H : Hp} {Q : VK} {E : XK} (h : sp_way_to K C vs H Q E) : vs.length = 2 := by
  obtain ⟨x, r, n, ps, old, rfl, _⟩ := h
  rfl
theorem rd_way_to {w : World} {K : PySem.W.Frag} {C : Addr} (T : TG K C) {vs : List V} {H : Hp} {Q : VK} {E : XK} (h : sp_way_to K C vs H Q E) : tr_way_to w K C { nx := fun _ H' => Q .non H', rt := Q } (start ["net", "room"] vs) H := by
  obtain ⟨x, r, n, ps, old, rfl, N, hr, k⟩ := h
  have hi := N.ok.hi
  refine ⟨_, rfl, _, rfl, x, r, n, ps, old, rfl, N, hr, fun H1 e1 => ?_⟩
  refine ⟨_, rfl, x, .non, n, ps, old, -1, rfl, N.same e1, .inl ⟨rfl, rfl⟩, fun d tr H2 e2 nd g F => ?_⟩
  have fl := N.ok.found F
  exact ⟨_, rfl, d, r, ps, -1, tr, rfl, g, F.tree, (F.all r).mpr hr, (by omega), fun l w H3 e3 nl gl W Wk Wl Wn => k l w H3 (e1.trans (e2.trans e3)) ((e1.trans e2).free nl) gl W Wl Wn⟩
def trx_way_to (w : World) (K : PySem.W.Frag) (C : Addr) (xa : XA) (E : XK) : TS :=
    (tSeq (tDrop (tCall (spo_check_reached K C xa) [] E (tCons (tVar 0) (tCons (tVar 1) tNil))))
      (tRet (tCall (sp_trace_way K C) [] E0 (tCons (tCall (sp_steps_past K C) [] E0 (tCons (tVar 0) (tCons (tC .non) tNil))) (tCons (tVar 1) tNil)))))
theorem lnx_way_to {K : PySem.W.Frag} {C : Addr} {xa : XA} {vs : List V} {H : Hp} {Q : VK} {E : XK} (h : spx_way_to K C xa vs H Q E) : vs.length = 2 := by
  obtain ⟨y, r, n, ps, old, rfl, _⟩ := h
  rfl
theorem rdx_way_to {w : World} {K : PySem.W.Frag} {C : Addr} {xa : XA} (T : TG K C) {vs : List V} {H : Hp} {Q : VK} {E : XK} (h : spx_way_to K C xa vs H Q E) : trx_way_to w K C xa E { nx := fun _ H' => Q .non H', rt := Q } (start ["net", "room"] vs) H := by
  obtain ⟨y, r, n, ps, old, rfl, N, hh⟩ := h
  exact ⟨_, rfl, _, rfl, .inr ⟨y, r, n, ps, old, rfl, N, hh⟩⟩
end L3
end
section
namespace L3
open PySem PySem.Spec PyProof.Rows L2 Mp
def tr_way_past (w : World) (K : PySem.W.Frag) (C : Addr) : TS :=
    (tSeq (tDrop (tMeth C "check_room" (sp_Net_check_room K C) [] E0 (tVar 0) (tCons (tVar 2) tNil)))
      (tSeq (tDrop (tCall (sp_check_reached K C) [] E0 (tCons (tVar 0) (tCons (tVar 1) tNil))))
      (tSeq (tAsg (tCall (sp_steps_past K C) [] E0 (tCons (tVar 0) (tCons (tVar 2) tNil))) (gName 3))
      (tSeq (tIfS (tB (tDNotIn (tVar 1) (tVar 3))) (tRet (tC .non)) tNext)
      (tRet (tCall (sp_trace_way K C) [] E0 (tCons (tVar 3) (tCons (tVar 1) tNil))))))))
theorem ln_way_past {K : PySem.W.Frag} {C : Addr} {vs : List V} {H : Hp} {Q : VK} {E : XK} (h : sp_way_past K C vs H Q E) : vs.length = 3 := by
  obtain ⟨x, r, o, n, ps, old, rfl, _⟩ := h
  rfl
theorem rd_way_past {w : World} {K : PySem.W.Frag} {C : Addr} (T : TG K C) {vs : List V} {H : Hp} {Q : VK} {E : XK} (h : sp_way_past K C vs H Q E) : tr_way_past w K C { nx := fun _ H' => Q .non H', rt := Q } (start ["net", "room", "other", "step_before"] vs) H := by
  obtain ⟨x, r, o, n, ps, old, rfl, N, o0, o1, hr, k, k'⟩ := h
  have hi := N.ok.hi
  obtain ⟨dx, pl, on, bk, gx⟩ := N.fld
  refine ⟨_, rfl, x, dx, _, rfl, gx, flds_no _ _ _ _ (by decide +kernel) (by decide +kernel) (by decide +kernel) (by decide +kernel), _, rfl, x, o, n, ps, old, rfl, N, o0, o1, ?_⟩
  refine ⟨_, rfl, _, rfl, x, r, n, ps, old, rfl, N, hr, fun H1 e1 => ?_⟩
  refine ⟨_, rfl, _, rfl, x, .int o, n, ps, old, o, rfl, N.same e1, .inr rfl, fun d tr H2 e2 nd g F => ?_⟩
  have fl := N.ok.found F
  refine ⟨_, rfl, _, rfl, d, _, rfl, DGet.k (k := Sum.inl r) g, _, rfl, ?_⟩
  rw [valV_iff F.tree.nd]
  by_cases h : r ∈ ks tr
  · rw [decide_eq_true h]
    exact iteF ⟨_, rfl, _, rfl, d, r, ps, o, tr, rfl, g, F.tree, h, (by omega), fun l w H3 e3 nl gl W Wk Wl _ => k l w H3 (e1.trans (e2.trans e3)) ((e1.trans e2).free nl) gl W (fun y hy => ((F.all y).mp (Wk y hy)).ne) Wl ((F.all r).mp h)⟩
  · rw [decide_eq_false h]
    exact iteT (k' H2 (e1.trans e2) fun z => h ((F.all r).mpr z))
def trx_way_past (w : World) (K : PySem.W.Frag) (C : Addr) (xa : XA) (E : XK) : TS :=
    (tSeq (tDrop (tMeth C "check_room" (spo_Net_check_room K C xa) [] E (tVar 0) (tCons (tVar 2) tNil)))
      (tSeq (tDrop (tCall (spo_check_reached K C xa) [] E (tCons (tVar 0) (tCons (tVar 1) tNil))))
      (tSeq (tAsg (tCall (sp_steps_past K C) [] E0 (tCons (tVar 0) (tCons (tVar 2) tNil))) (gName 3))
      (tSeq (tIfS (tB (tDNotIn (tVar 1) (tVar 3))) (tRet (tC .non)) tNext)
      (tRet (tCall (sp_trace_way K C) [] E0 (tCons (tVar 3) (tCons (tVar 1) tNil))))))))
theorem lnx_way_past {K : PySem.W.Frag} {C : Addr} {xa : XA} {vs : List V} {H : Hp} {Q : VK} {E : XK} (h : spx_way_past K C xa vs H Q E) : vs.length = 3 := by
  obtain ⟨y, r, o, n, ps, old, rfl, _⟩ := h
  rfl
theorem rdx_way_past {w : World} {K : PySem.W.Frag} {C : Addr} {xa : XA} (T : TG K C) {vs : List V} {H : Hp} {Q : VK} {E : XK} (h : spx_way_past K C xa vs H Q E) : trx_way_past w K C xa E { nx := fun _ H' => Q .non H', rt := Q } (start ["net", "room", "other", "step_before"] vs) H := by
  obtain ⟨y, r, o, n, ps, old, rfl, N, hh⟩ := h
  obtain ⟨dx, pl, on, bk, gx⟩ := N.fld
  rcases hh with ⟨ho, k⟩ | ⟨o0, o1, hb⟩
  · exact ⟨_, rfl, y, dx, _, rfl, gx, flds_no _ _ _ _ (by decide +kernel) (by decide +kernel) (by decide +kernel) (by decide +kernel), _, rfl, .inr ⟨y, o, n, ps, old, rfl, N, ho, k H (Same.refl _)⟩⟩
  · refine ⟨_, rfl, y, dx, _, rfl, gx, flds_no _ _ _ _ (by decide +kernel) (by decide +kernel) (by decide +kernel) (by decide +kernel), _, rfl, .inl ⟨y, o, n, ps, old, rfl, N, o0, o1, ?_⟩⟩
    exact ⟨_, rfl, _, rfl, .inr ⟨y, r, n, ps, old, rfl, N, hb⟩⟩
end L3
end
section
namespace L3
open PySem PySem.Spec PyProof.Rows L2 Mp
def tr_guards (w : World) (K : PySem.W.Frag) (C : Addr) : TS :=
    (tSeq (tDrop (tMeth C "check_room" (sp_Net_check_room K C) [] E0 (tVar 0) (tCons (tVar 1) tNil)))
      (tSeq (tDrop (tCall (sp_check_reached K C) [] E0 (tCons (tVar 0) (tCons (tVar 2) tNil))))
      (tRet (tCall (sp_guards_all K C) [] E0 (tCons (tVar 0) (tCons (tVar 1) (tCons (tLst (tCons (tVar 2) tNil)) tNil)))))))
theorem ln_guards {K : PySem.W.Frag} {C : Addr} {vs : List V} {H : Hp} {Q : VK} {E : XK} (h : sp_guards K C vs H Q E) : vs.length = 3 := by
  obtain ⟨x, g, r, n, ps, old, rfl, _⟩ := h
  rfl
theorem rd_guards {w : World} {K : PySem.W.Frag} {C : Addr} (T : TG K C) {vs : List V} {H : Hp} {Q : VK} {E : XK} (h : sp_guards K C vs H Q E) : tr_guards w K C { nx := fun _ H' => Q .non H', rt := Q } (start ["net", "room", "other"] vs) H := by
  obtain ⟨x, g, r, n, ps, old, rfl, N, g0, g1, hr, k⟩ := h
  obtain ⟨dx, pl, on, bk, gx⟩ := N.fld
  refine ⟨_, rfl, x, dx, _, rfl, gx, flds_no _ _ _ _ (by decide +kernel) (by decide +kernel) (by decide +kernel) (by decide +kernel), _, rfl, x, g, n, ps, old, rfl, N, g0, g1, ?_⟩
  refine ⟨_, rfl, _, rfl, x, r, n, ps, old, rfl, N, hr, fun H1 e1 => ?_⟩
  refine ⟨_, rfl, _, rfl, _, rfl, (by show 1 ≤ sizeLine; decide), fun a ha => ?_⟩
  have e2 : Same H1 (upd H1 a (.lst [.int r])) := Same.new ha
  refine ⟨x, g, a, [r], n, ps, old, rfl, (N.same e1).same e2, SqL.of upd_same, by simp, fun k hk => by rw [List.mem_singleton.mp hk]; exact hr, fun H' e' => ?_⟩
  rw [all_one]
  exact k H' (e1.trans (e2.trans e'))
def trx_guards (w : World) (K : PySem.W.Frag) (C : Addr) (xa : XA) (E : XK) : TS :=
    (tSeq (tDrop (tMeth C "check_room" (spo_Net_check_room K C xa) [] E (tVar 0) (tCons (tVar 1) tNil)))
      (tSeq (tDrop (tCall (spo_check_reached K C xa) [] E (tCons (tVar 0) (tCons (tVar 2) tNil))))
      (tRet (tCall (sp_guards_all K C) [] E0 (tCons (tVar 0) (tCons (tVar 1) (tCons (tLst (tCons (tVar 2) tNil)) tNil)))))))
theorem lnx_guards {K : PySem.W.Frag} {C : Addr} {xa : XA} {vs : List V} {H : Hp} {Q : VK} {E : XK} (h : spx_guards K C xa vs H Q E) : vs.length = 3 := by
  obtain ⟨y, o, r, n, ps, old, rfl, _⟩ := h
  rfl
theorem rdx_guards {w : World} {K : PySem.W.Frag} {C : Addr} {xa : XA} (T : TG K C) {vs : List V} {H : Hp} {Q : VK} {E : XK} (h : spx_guards K C xa vs H Q E) : trx_guards w K C xa E { nx := fun _ H' => Q .non H', rt := Q } (start ["net", "room", "other"] vs) H := by
  obtain ⟨y, o, r, n, ps, old, rfl, N, hh⟩ := h
  obtain ⟨dx, pl, on, bk, gx⟩ := N.fld
  rcases hh with ⟨ho, k⟩ | ⟨o0, o1, hb⟩
  · exact ⟨_, rfl, y, dx, _, rfl, gx, flds_no _ _ _ _ (by decide +kernel) (by decide +kernel) (by decide +kernel) (by decide +kernel), _, rfl, .inr ⟨y, o, n, ps, old, rfl, N, ho, k H (Same.refl _)⟩⟩
  · refine ⟨_, rfl, y, dx, _, rfl, gx, flds_no _ _ _ _ (by decide +kernel) (by decide +kernel) (by decide +kernel) (by decide +kernel), _, rfl, .inl ⟨y, o, n, ps, old, rfl, N, o0, o1, ?_⟩⟩
    exact ⟨_, rfl, _, rfl, .inr ⟨y, r, n, ps, old, rfl, N, hb⟩⟩
end L3
end
section
namespace L3
open PySem PySem.Spec PyProof.Rows L2 Mp
def tr_edge (w : World) (K : PySem.W.Frag) (C : Addr) : TS :=
    (tSeq (tDrop (tCall (sp_check_reached K C) [] E0 (tCons (tVar 0) (tCons (tVar 1) tNil))))
      (tSeq (tAsg (tCall (sp_guarded K C) [] E0 (tCons (tVar 0) (tCons (tVar 1) tNil))) (gName 2))
      (tSeq (tAsg (tComp (iList K (tMeth C "doors" (sp_Net_doors K C) [] E0 (tVar 0) tNil)) 2 [2, 1] (gTup K 2 (gCons (gName 0) (gCons (gName 1) gNil))) (tAnd (tTest (tOp (rIn K false) (tVar 0) (tVar 2))) (tOr (tTest (tOp rEq (tVar 1) (tVar 3))) (tTest (tOp (rIn K true) (tVar 1) (tVar 2))))) (tVar 1)) (gName 3))
      (tRet (tCB (rSortedA w) (tCons (tCB (rSetOf w K) (tCons (tVar 3) tNil)) tNil))))))
theorem ln_edge {K : PySem.W.Frag} {C : Addr} {vs : List V} {H : Hp} {Q : VK} {E : XK} (h : sp_edge K C vs H Q E) : vs.length = 2 := by
  obtain ⟨x, r, n, ps, old, rfl, _⟩ := h
  rfl
theorem rd_edge {w : World} {K : PySem.W.Frag} {C : Addr} (T : TG K C) {vs : List V} {H : Hp} {Q : VK} {E : XK} (h : sp_edge K C vs H Q E) : tr_edge w K C { nx := fun _ H' => Q .non H', rt := Q } (start ["net", "room", "inside", "beyond"] vs) H := by
  obtain ⟨x, r, n, ps, old, rfl, N, hr, k⟩ := h
  have plen := N.ok.len
  refine ⟨_, rfl, _, rfl, x, r, n, ps, old, rfl, N, hr, fun H1 e1 => ?_⟩
  refine ⟨_, rfl, _, rfl, x, r, n, ps, old, rfl, N.same e1, fun l H2 e2 nl gl => ?_⟩
  have N2 := N.same (e1.trans e2)
  obtain ⟨dx, pl, on, bk, gx⟩ := N2.fld
  refine ⟨_, rfl, x, dx, _, rfl, gx, flds_no _ _ _ _ (by decide +kernel) (by decide +kernel) (by decide +kernel) (by decide +kernel), x, n, ps, old, rfl, N2, fun dl xs ndl hp => ?_⟩
  have e3 : Same H2 (upd H2 dl (.lst xs)) := Same.new ndl
  have gdl : upd H2 dl (.lst xs) dl = some (.lst xs) := upd_same
  have hp3 := PairsV.same e3 hp
  have gl3 := e3 _ _ gl
  generalize upd H2 dl (.lst xs) = H3 at e3 gdl hp3 gl3 ⊢
  refine ⟨dl, rfl, ⟨_, SqL.of gdl⟩, comp_two_pure (K := K) (caps := [some (.ref l), some (.int r)]) (outB ((rooms n).filter (domB ps r)) r) (fun p => .int p.2) (SqL.of gdl) hp3 (by omega) rfl (fun y P _ h => ?_) (fun y P _ _ h => ⟨_, rfl, h⟩) fun q hq => ?_⟩
  · unfold outB at h
    refine ⟨_, rfl, _, rfl, l, _, rfl, .inl (SqL.of gl3), rfl, flat_ints _, _, rfl, ?_⟩
    rw [in_int]
    refine ite2 (fun z => ?_) fun z => ?_
    · rw [z, Bool.true_and] at h
      refine ⟨_, rfl, _, rfl, rfl, _, rfl, ?_⟩
      rw [decV]
      refine ite2 (fun z2 => ?_) fun z2 => ?_
      · rw [z2, Bool.true_or] at h
        exact h
      · rw [Bool.not_eq_true] at z2
        rw [z2, Bool.false_or] at h
        refine ⟨_, rfl, _, rfl, l, _, rfl, .inl (SqL.of gl3), rfl, flat_ints _, _, rfl, ?_⟩
        rw [notin_int]
        exact h
    · rw [Bool.not_eq_true] at z
      rw [z, Bool.false_and] at h
      exact h
  · have hsm := (N.ok.ends (outB ((rooms n).filter (domB ps r)) r)).1
    have em : ((ps.filter (outB ((rooms n).filter (domB ps r)) r)).map fun p => V.int p.2) = ((ps.filter (outB ((rooms n).filter (domB ps r)) r)).map (·.2)).map V.int := by
      rw [List.map_map]
      rfl
    rw [em]
    have e123 := e1.trans (e2.trans e3)
    refine ⟨_, rfl, q, _, rfl, SqL.of upd_same, ?_, fun s hs => ⟨s, _, rfl, upd_same, ded_small N.ok.lo N.ok.hi hsm, fun p H' e nn g => k p H' (e123.trans (((Same.new hq).trans (Same.new hs)).trans e)) (e123.free (((Same.new hq).trans (Same.new hs)).free nn)) ?_⟩⟩
    · have := List.length_filter_le (outB ((rooms n).filter (domB ps r)) r) ps
      rw [List.length_map]
      unfold scanBound
      omega
    · rw [g, edge_srt N.ok]
def trx_edge (w : World) (K : PySem.W.Frag) (C : Addr) (xa : XA) (E : XK) : TS :=
    (tSeq (tDrop (tCall (spo_check_reached K C xa) [] E (tCons (tVar 0) (tCons (tVar 1) tNil))))
      (tSeq (tAsg (tCall (sp_guarded K C) [] E0 (tCons (tVar 0) (tCons (tVar 1) tNil))) (gName 2))
      (tSeq (tAsg (tComp (iList K (tMeth C "doors" (sp_Net_doors K C) [] E0 (tVar 0) tNil)) 2 [2, 1] (gTup K 2 (gCons (gName 0) (gCons (gName 1) gNil))) (tAnd (tTest (tOp (rIn K false) (tVar 0) (tVar 2))) (tOr (tTest (tOp rEq (tVar 1) (tVar 3))) (tTest (tOp (rIn K true) (tVar 1) (tVar 2))))) (tVar 1)) (gName 3))
      (tRet (tCB (rSortedA w) (tCons (tCB (rSetOf w K) (tCons (tVar 3) tNil)) tNil))))))
theorem lnx_edge {K : PySem.W.Frag} {C : Addr} {xa : XA} {vs : List V} {H : Hp} {Q : VK} {E : XK} (h : spx_edge K C xa vs H Q E) : vs.length = 2 := by
  obtain ⟨y, r, n, ps, old, rfl, _⟩ := h
  rfl
theorem rdx_edge {w : World} {K : PySem.W.Frag} {C : Addr} {xa : XA} (T : TG K C) {vs : List V} {H : Hp} {Q : VK} {E : XK} (h : spx_edge K C xa vs H Q E) : trx_edge w K C xa E { nx := fun _ H' => Q .non H', rt := Q } (start ["net", "room", "inside", "beyond"] vs) H := by
  obtain ⟨y, r, n, ps, old, rfl, N, hh⟩ := h
  exact ⟨_, rfl, _, rfl, .inr ⟨y, r, n, ps, old, rfl, N, hh⟩⟩
end L3
end
section
namespace L3
open PySem PySem.Spec PyProof.Rows L2 Mp
def tr_guards_of (w : World) (K : PySem.W.Frag) (C : Addr) : TS :=
    (tRet (tComp (iList K (tCall (sp_way_to K C) [] E0 (tCons (tVar 0) (tCons (tVar 1) tNil)))) 1 [0, 1] (gName 0) (tB (tCall (sp_guards_all K C) [] E0 (tCons (tVar 1) (tCons (tVar 0) (tCons (tLst (tCons (tVar 2) tNil)) tNil))))) (tVar 0)))
theorem ln_guards_of {K : PySem.W.Frag} {C : Addr} {vs : List V} {H : Hp} {Q : VK} {E : XK} (h : sp_guards_of K C vs H Q E) : vs.length = 2 := by
  obtain ⟨x, r, n, ps, old, rfl, _⟩ := h
  rfl
theorem rd_guards_of {w : World} {K : PySem.W.Frag} {C : Addr} (T : TG K C) {vs : List V} {H : Hp} {Q : VK} {E : XK} (h : sp_guards_of K C vs H Q E) : tr_guards_of w K C { nx := fun _ H' => Q .non H', rt := Q } (start ["net", "room"] vs) H := by
  obtain ⟨x, r, n, ps, old, rfl, N, hr, k⟩ := h
  refine ⟨_, rfl, _, rfl, x, r, n, ps, old, rfl, N, hr, fun l w H1 e1 nl gl W Wl Wn => ?_⟩
  refine ⟨l, rfl, ⟨_, SqL.of gl⟩, comp_int_same (K := K) (ys := w) (caps := [some (.ref x), some (.int r)]) (fun y => domB ps y r) V.int (SqL.of gl) Wl rfl (fun y H2 P hy e2 h => ?_) (fun y H2 P _ _ _ h => ⟨_, rfl, h⟩) fun a H2 e2 ha => ?_⟩
  · refine ⟨_, rfl, _, rfl, _, rfl, (by show 1 ≤ sizeLine; decide), fun c hc => ?_⟩
    have e3 : Same H2 (upd H2 c (.lst [.int r])) := Same.new hc
    refine ⟨x, y, c, [r], n, ps, old, rfl, N.same (e1.trans (e2.trans e3)), SqL.of upd_same, by simp, fun k hk => by rw [List.mem_singleton.mp hk]; exact hr, fun H' e' => ⟨_, rfl, ?_⟩⟩
    rw [all_one]
    exact h H' (e3.trans e')
  · exact k a _ _ (e1.trans (e2.trans (Same.new ha))) ((e1.trans e2).free ha) upd_same (W.guards (OkNet.ok2 N.ok) Wn hr fun x => domB_iff)
def trx_guards_of (w : World) (K : PySem.W.Frag) (C : Addr) (xa : XA) (E : XK) : TS :=
    (tRet (tComp (iList K (tCall (spo_way_to K C xa) [] E (tCons (tVar 0) (tCons (tVar 1) tNil)))) 1 [0, 1] (gName 0) (tB (tCall (sp_guards_all K C) [] E0 (tCons (tVar 1) (tCons (tVar 0) (tCons (tLst (tCons (tVar 2) tNil)) tNil))))) (tVar 0)))
theorem lnx_guards_of {K : PySem.W.Frag} {C : Addr} {xa : XA} {vs : List V} {H : Hp} {Q : VK} {E : XK} (h : spx_guards_of K C xa vs H Q E) : vs.length = 2 := by
  obtain ⟨y, r, n, ps, old, rfl, _⟩ := h
  rfl
theorem rdx_guards_of {w : World} {K : PySem.W.Frag} {C : Addr} {xa : XA} (T : TG K C) {vs : List V} {H : Hp} {Q : VK} {E : XK} (h : spx_guards_of K C xa vs H Q E) : trx_guards_of w K C xa E { nx := fun _ H' => Q .non H', rt := Q } (start ["net", "room"] vs) H := by
  obtain ⟨y, r, n, ps, old, rfl, N, hh⟩ := h
  exact ⟨_, rfl, _, rfl, .inr ⟨y, r, n, ps, old, rfl, N, hh⟩⟩
end L3
end
section
namespace L3
open PySem PySem.Spec PyProof.Rows L2 Mp
def tr_joins (w : World) (K : PySem.W.Frag) (C : Addr) : TS :=
    (tSeq (tDrop (tCall (sp_check_all_reached K C) [] E0 (tCons (tVar 0) (tCons (tVar 1) tNil))))
      (tSeq (tAsg tDNewK (gName 2))
      (tSeq (tAsg (tCB (rListOf K) (tCons (tVar 1) tNil)) (gName 3))
      (tSeq (tWhile (tTru K (tVar 3)) (tSeq (tAsg (tBM0 K "list" rPop (tVar 3)) (gName 4))
        (tFor (iList K (tCall (sp_edge K C) [] E0 (tCons (tVar 0) (tCons (tVar 4) tNil)))) (gName 5)
          (tIfS (tB (tDNotIn (tVar 5) (tVar 2))) (tSeq (sDPut (tVar 2) (tVar 5) (tC (.bl true)))
            (tDrop (tBM K "list" (rAppend) (tVar 3) (tCons (tVar 5) tNil)))) tNext))))
      (tRet (tComp (iList K (tCB (rSortedD) (tCons (tVar 2) tNil))) 1 [] (gName 0) (tTest (tOp rNe (tVar 0) (tC (.int 0)))) (tVar 0)))))))
theorem ln_joins {K : PySem.W.Frag} {C : Addr} {vs : List V} {H : Hp} {Q : VK} {E : XK} (h : sp_joins K C vs H Q E) : vs.length = 2 := by
  obtain ⟨x, a, rs, n, ps, old, rfl, _⟩ := h
  rfl
theorem rd_joins {w : World} {K : PySem.W.Frag} {C : Addr} (T : TG K C) {vs : List V} {H : Hp} {Q : VK} {E : XK} (h : sp_joins K C vs H Q E) : tr_joins w K C { nx := fun _ H' => Q .non H', rt := Q } (start ["net", "some", "found", "waiting", "room", "further"] vs) H := by
  obtain ⟨x, a, rs, n, ps, old, rfl, N, hs, hl, hr, k⟩ := h
  have O := N.ok
  have hi40 := O.hi
  have lo := O.lo
  refine ⟨_, rfl, _, rfl, x, a, rs, n, ps, old, rfl, N, hs, hr, fun H1 e1 => ?_⟩
  refine fun d hd => ?_
  have e2 : Same H1 (upd H1 d (.dK [])) := Same.new hd
  have gd2 : upd H1 d (.dK []) d = some (.dK (kvT [])) := upd_same
  generalize upd H1 d (.dK []) = H2 at e2 gd2 ⊢
  refine ⟨_, rfl, a, _, rfl, .inl ((e1.trans e2).seq hs), fun q hq => ?_⟩
  have nd : H d = none := e1.free hd
  have nq : H q = none := (e1.trans e2).free hq
  have ndq : d ≠ q := ne_of_none gd2 hq
  have e3 : Same H (upd H2 q (.lst (rs.map V.int))) := (e1.trans e2).trans (Same.new hq)
  refine ⟨fun m σ H3 => ∃ (u4 u5 : Option V) (fs wq : List Int), σ = [some (.ref x), some (.ref a), some (.ref d), some (.ref q), u4, u5] ∧ Same H H3 ∧ H3 d = some (.dK (kvT fs)) ∧ H3 q = some (.lst (wq.map V.int)) ∧ CloS ps rs fs wq none ∧ wq.length ≤ rs.length + fs.length ∧
    m = 2 * (n.toNat - fs.length) + wq.length, ⟨_, none, none, [], rs, rfl, e3, (by rw [upd_ne ndq]; exact gd2), upd_same, CloS.first, (by simp), rfl⟩, ?_⟩
  rintro m σ H3 ⟨u4, u5, fs, wq, rfl, e3, gd, gq, B, ql, rfl⟩
  have ok := OkNet.ok2 O
  have flen : ∀ {fs wq : List Int} {r}, CloS ps rs fs wq r → fs.length ≤ n.toNat := fun {fs wq r} c => nodup_small n.toNat fs c.nd fun k hk => by
    have := O.lt ((c.sound k hk).reached ok)
    omega
  refine ⟨_, rfl, (!(wq.map V.int).isEmpty), .inl ⟨_, SqL.of gq, rfl⟩, ?_⟩
  by_cases hw : wq = []
  · subst hw
    have fl := flen B
    refine iteF ⟨_, rfl, d, kvT fs, fs, rfl, gd, kvT_keys fs, (by omega), fun s H4 e4 n4 g4 => ?_⟩
    have sl : (SetIt.srt fs).length ≤ 1000 := by rw [(SetIt.srt_perm fs).length_eq]; omega
    refine ⟨s, rfl, ⟨_, SqL.of g4⟩, comp_int_pure (K := K) (ys := SetIt.srt fs) (caps := []) (fun k => !decide (k = 0)) V.int (SqL.of g4) sl rfl (fun y P _ h => ?_) (fun y P _ _ h => ⟨_, rfl, h⟩) fun c hc => ?_⟩
    · refine ⟨_, rfl, rfl, _, rfl, ?_⟩
      rw [decV]
      exact h
    · exact k c _ _ (e3.trans (e4.trans (Same.new hc))) ((e3.trans e4).free hc) upd_same (CloS.joins O B)
  · obtain ⟨wt, r, ew⟩ : ∃ wt r, wq = wt ++ [r] := ⟨_, _, (List.dropLast_concat_getLast hw).symm⟩
    subst ew
    have hne : (!((wt ++ [r]).map V.int).isEmpty) = true := by simp
    rw [hne]
    have B1 := B.pop
    have rr : Rch ps (-1) r := by
      rcases B1.rsound r rfl with z | z
      · exact hr r z
      · exact (B1.sound r z).reached ok
    refine iteT ⟨fun σ' H' => ∃ (u4 u5 : Option V) (fs' wq' : List Int), σ' = [some (.ref x), some (.ref a), some (.ref d), some (.ref q), u4, u5] ∧ Same H H' ∧ H' d = some (.dK (kvT fs')) ∧ H' q = some (.lst (wq'.map V.int)) ∧ CloS ps rs fs' wq' none ∧ wq'.length ≤ rs.length + fs'.length ∧
      2 * (n.toNat - fs'.length) + wq'.length < 2 * (n.toNat - fs.length) + (wt ++ [r]).length, fun σ' H' ⟨a1, a2, a3, a4, d1, d2, d3, d4, d5, d6, d7⟩ => ⟨_, d7, a1, a2, a3, a4, d1, d2, d3, d4, d5, d6, rfl⟩, ?_⟩
    -- room = waiting.pop()
    refine ⟨_, rfl, .inl ⟨rfl, _, SqL.of gq⟩, q, _, .int r, rfl, rfl, gq, (by simp), ?_⟩
    have ed : ((wt ++ [r]).map V.int).dropLast = wt.map V.int := by simp
    rw [ed]
    have gq4 : upd H3 q (.lst (wt.map V.int)) q = some (.lst (wt.map V.int)) := upd_same
    have gd4 : upd H3 q (.lst (wt.map V.int)) d = some (.dK (kvT fs)) := by rw [upd_ne ndq]; exact gd
    have e4 : Same H (upd H3 q (.lst (wt.map V.int))) := Same.upd e3 nq
    generalize upd H3 q (.lst (wt.map V.int)) = H4 at gq4 gd4 e4 ⊢
    -- for further in edge(net, room)
    refine ⟨_, rfl, _, rfl, x, r, n, ps, old, rfl, N.same e4, rr, fun la H5 e5 nla gla => ?_⟩
    have gd5 := e5 _ _ gd4
    have gq5 := e5 _ _ gq4
    have dla : d ≠ la := ne_of_none gd4 nla
    have qla : q ≠ la := ne_of_none gq4 nla
    refine ⟨la, rfl, ⟨_, SqL.of gla⟩, for_list (K := K) (a := la) (xs := (edgeL n ps r).map V.int) (fun i σ H6 => ∃ (u5 : Option V) (fs' wq' : List Int), σ = [some (.ref x), some (.ref a), some (.ref d), some (.ref q), some (.int r), u5] ∧ Same H H6 ∧ H6 la = some (.lst ((edgeL n ps r).map V.int)) ∧ H6 d = some (.dK (kvT fs')) ∧ H6 q = some (.lst (wq'.map V.int)) ∧
      CloS ps rs fs' wq' (some r) ∧ (∀ b ∈ (edgeL n ps r).take i, b ∈ fs') ∧ wq'.length ≤ rs.length + fs'.length ∧ 2 * (n.toNat - fs'.length) + wq'.length < 2 * (n.toNat - fs.length) + (wt ++ [r]).length)
      ⟨u5, fs, wt, rfl, e4.trans e5, gla, gd5, gq5, B1, (fun b hb => by simp at hb), (by simp at ql; omega), (by simp)⟩ (fun i σ H6 _ ⟨_, _, _, _, _, g, _⟩ => SqL.of g) ?_ ?_⟩
    · rintro i y σ H6 hi ⟨u5, fs', wq', rfl, e6, ga, gd6, gq6, B6, cl6, ql6, m6⟩
      obtain ⟨f, hf, rfl⟩ := int_get hi
      have ef : Edge ps r f := (mem_edge O).mp (List.mem_of_getElem? hf)
      refine ⟨_, rfl, _, rfl, d, _, rfl, DGet.k (k := Sum.inl f) gd6, _, rfl, ?_⟩
      rw [kvT_val]
      by_cases hk : f ∈ fs'
      · rw [decide_eq_true hk]
        refine iteF ⟨_, fs', wq', rfl, e6, ga, gd6, gq6, B6, fun b hb => ?_, ql6, m6⟩
        rw [take_snoc hf] at hb
        rcases List.mem_append.mp hb with z | z
        · exact cl6 b z
        · rw [List.mem_singleton.mp z]; exact hk
      · rw [decide_eq_false hk]
        have B7 := B6.add ef hk
        have t7 := flen B7
        rw [List.length_append, List.length_singleton] at t7
        refine iteT ⟨_, rfl, _, rfl, d, _, rfl, DPut.k (k := Sum.inl f) gd6 (small1000 (by rw [kvT_len]; omega)), ?_⟩
        rw [kvT_put hk]
        have gq7 : upd H6 d (.dK (kvT (fs' ++ [f]))) q = some (.lst (wq'.map V.int)) := by rw [upd_ne (Ne.symm ndq)]; exact gq6
        refine ⟨_, rfl, .inl ⟨rfl, _, SqL.of gq7⟩, _, rfl, q, _, .int f, rfl, rfl, gq7, (by rw [List.length_map, sizeLine_eq]; omega), ?_⟩
        refine ⟨_, fs' ++ [f], wq' ++ [f], rfl, Same.upd (Same.upd e6 nd) nq, ?_, ?_, ?_, B7, ?_, ?_, ?_⟩
        · rw [upd_ne qla.symm, upd_ne dla.symm]
          exact ga
        · rw [upd_ne ndq, upd_same]
        · rw [upd_same, List.map_append]
          rfl
        · intro b hb
          rw [take_snoc hf] at hb
          rcases List.mem_append.mp hb with z | z
          · exact List.mem_append_left _ (cl6 b z)
          · exact List.mem_append_right _ z
        · simp
          omega
        · simp at m6 ⊢
          omega
    · rintro σ H6 ⟨u5, fs', wq', rfl, e6, ga, gd6, gq6, B6, cl6, ql6, m6⟩
      refine ⟨_, _, fs', wq', rfl, e6, gd6, gq6, B6.close fun o eo => ?_, ql6, m6⟩
      refine cl6 o ?_
      rw [List.length_map, List.take_length]
      exact (mem_edge O).mpr eo
def trx_joins (w : World) (K : PySem.W.Frag) (C : Addr) (xa : XA) (E : XK) : TS :=
    (tSeq (tDrop (tCall (spo_check_all_reached K C xa) [] E (tCons (tVar 0) (tCons (tVar 1) tNil))))
      (tSeq (tAsg tDNewK (gName 2))
      (tSeq (tAsg (tCB (rListOf K) (tCons (tVar 1) tNil)) (gName 3))
      (tSeq (tWhile (tTru K (tVar 3)) (tSeq (tAsg (tBM0 K "list" rPop (tVar 3)) (gName 4))
        (tFor (iList K (tCall (sp_edge K C) [] E0 (tCons (tVar 0) (tCons (tVar 4) tNil)))) (gName 5)
          (tIfS (tB (tDNotIn (tVar 5) (tVar 2))) (tSeq (sDPut (tVar 2) (tVar 5) (tC (.bl true)))
            (tDrop (tBM K "list" (rAppend) (tVar 3) (tCons (tVar 5) tNil)))) tNext))))
      (tRet (tComp (iList K (tCB (rSortedD) (tCons (tVar 2) tNil))) 1 [] (gName 0) (tTest (tOp rNe (tVar 0) (tC (.int 0)))) (tVar 0)))))))
theorem lnx_joins {K : PySem.W.Frag} {C : Addr} {xa : XA} {vs : List V} {H : Hp} {Q : VK} {E : XK} (h : spx_joins K C xa vs H Q E) : vs.length = 2 := by
  obtain ⟨y, a, rs, n, ps, old, rfl, _⟩ := h
  rfl
theorem rdx_joins {w : World} {K : PySem.W.Frag} {C : Addr} {xa : XA} (T : TG K C) {vs : List V} {H : Hp} {Q : VK} {E : XK} (h : spx_joins K C xa vs H Q E) : trx_joins w K C xa E { nx := fun _ H' => Q .non H', rt := Q } (start ["net", "some", "found", "waiting", "room", "further"] vs) H := by
  obtain ⟨y, a, rs, n, ps, old, rfl, N, hs, hh⟩ := h
  exact ⟨_, rfl, _, rfl, .inr ⟨y, a, rs, n, ps, old, rfl, N, hs, hh⟩⟩
end L3
end
section
namespace L3
open PySem PySem.Spec PyProof.Rows L2 Mp
def tr_law_no_room (w : World) (K : PySem.W.Frag) (C : Addr) : TS :=
    (tIfS (tTest (tOp rEq (tVar 1) (tC (.int 0)))) (tDrop (tMeth C "leads" (sp_Net_leads K C) [] E0 (tVar 0) (tCons (tVar 2) tNil))) (tIfS (tTest (tOp rEq (tVar 1) (tC (.int 1)))) (tDrop (tMeth C "led" (sp_Net_led K C) [] E0 (tVar 0) (tCons (tVar 2) tNil))) (tIfS (tTest (tOp rEq (tVar 1) (tC (.int 2)))) (tDrop (tCall (sp_way_past K C) [] E0 (tCons (tVar 0) (tCons (tC (.int 0)) (tCons (tVar 2) tNil))))) (tIfS (tTest (tOp rEq (tVar 1) (tC (.int 3)))) (tDrop (tCall (sp_way_past K C) [] E0 (tCons (tVar 0) (tCons (tOp (rI0 fun i j => .int (i - j)) (tMeth C "rooms" (sp_Net_rooms K C) [] E0 (tVar 0) tNil) (tC (.int 1))) (tCons (tVar 2) tNil))))) (tIfS (tTest (tOp rEq (tVar 1) (tC (.int 4)))) (tDrop (tCall (sp_guards K C) [] E0 (tCons (tVar 0) (tCons (tVar 2) (tCons (tOp (rI0 fun i j => .int (i - j)) (tMeth C "rooms" (sp_Net_rooms K C) [] E0 (tVar 0) tNil) (tC (.int 1))) tNil))))) (tDrop (tCall (sp_guards K C) [] E0 (tCons (tVar 0) (tCons (tVar 2) (tCons (tC (.int 0)) tNil))))))))))
theorem ln_law_no_room {K : PySem.W.Frag} {C : Addr} {vs : List V} {H : Hp} {Q : VK} {E : XK} (h : sp_law_no_room K C vs H Q E) : vs.length = 3 := by
  obtain ⟨a, b, c, rfl, _⟩ := h
  rfl
theorem rd_law_no_room {w : World} {K : PySem.W.Frag} {C : Addr} (T : TG K C) {vs : List V} {H : Hp} {Q : VK} {E : XK} (h : sp_law_no_room K C vs H Q E) : tr_law_no_room w K C { nx := fun _ H' => Q .non H', rt := Q } (start ["net", "way", "room"] vs) H := by
  obtain ⟨a, b, c, rfl, hF⟩ := h
  exact hF.elim
def trx_law_no_room (w : World) (K : PySem.W.Frag) (C : Addr) (xa : XA) (E : XK) : TS :=
    (tIfS (tTest (tOp rEq (tVar 1) (tC (.int 0)))) (tDrop (tMeth C "leads" (spo_Net_leads K C xa) [] E (tVar 0) (tCons (tVar 2) tNil))) (tIfS (tTest (tOp rEq (tVar 1) (tC (.int 1)))) (tDrop (tMeth C "led" (spo_Net_led K C xa) [] E (tVar 0) (tCons (tVar 2) tNil))) (tIfS (tTest (tOp rEq (tVar 1) (tC (.int 2)))) (tDrop (tCall (spo_way_past K C xa) [] E (tCons (tVar 0) (tCons (tC (.int 0)) (tCons (tVar 2) tNil))))) (tIfS (tTest (tOp rEq (tVar 1) (tC (.int 3)))) (tDrop (tCall (spo_way_past K C xa) [] E (tCons (tVar 0) (tCons (tOp (rI0 fun i j => .int (i - j)) (tMeth C "rooms" (sp_Net_rooms K C) [] E0 (tVar 0) tNil) (tC (.int 1))) (tCons (tVar 2) tNil))))) (tIfS (tTest (tOp rEq (tVar 1) (tC (.int 4)))) (tDrop (tCall (spo_guards K C xa) [] E (tCons (tVar 0) (tCons (tVar 2) (tCons (tOp (rI0 fun i j => .int (i - j)) (tMeth C "rooms" (sp_Net_rooms K C) [] E0 (tVar 0) tNil) (tC (.int 1))) tNil))))) (tDrop (tCall (spo_guards K C xa) [] E (tCons (tVar 0) (tCons (tVar 2) (tCons (tC (.int 0)) tNil))))))))))
theorem lnx_law_no_room {K : PySem.W.Frag} {C : Addr} {xa : XA} {vs : List V} {H : Hp} {Q : VK} {E : XK} (h : spx_law_no_room K C xa vs H Q E) : vs.length = 3 := by
  obtain ⟨y, way, r, n, ps, old, rfl, _⟩ := h
  rfl
theorem rdx_law_no_room {w : World} {K : PySem.W.Frag} {C : Addr} {xa : XA} (T : TG K C) {vs : List V} {H : Hp} {Q : VK} {E : XK} (h : spx_law_no_room K C xa vs H Q E) : trx_law_no_room w K C xa E { nx := fun _ H' => Q .non H', rt := Q } (start ["net", "way", "room"] vs) H := by
  obtain ⟨y, way, r, n, ps, old, rfl, N, w0, w1, hr, k⟩ := h
  obtain ⟨dx, pl, on, bk, gx⟩ := N.fld
  refine ⟨_, rfl, rfl, _, rfl, ?_⟩
  rw [decV]
  by_cases h0 : way = 0
  · rw [decide_eq_true h0]
    exact iteT ⟨_, rfl, y, dx, _, rfl, gx, flds_no _ _ _ _ (by decide +kernel) (by decide +kernel) (by decide +kernel) (by decide +kernel), _, rfl, .inr ⟨y, r, n, ps, old, rfl, N, hr, k H (Same.refl _)⟩⟩
  rw [decide_eq_false h0]
  refine iteF ⟨_, rfl, rfl, _, rfl, ?_⟩
  rw [decV]
  by_cases h1 : way = 1
  · rw [decide_eq_true h1]
    exact iteT ⟨_, rfl, y, dx, _, rfl, gx, flds_no _ _ _ _ (by decide +kernel) (by decide +kernel) (by decide +kernel) (by decide +kernel), _, rfl, .inr ⟨y, r, n, ps, old, rfl, N, hr, k H (Same.refl _)⟩⟩
  rw [decide_eq_false h1]
  refine iteF ⟨_, rfl, rfl, _, rfl, ?_⟩
  rw [decV]
  by_cases h2 : way = 2
  · rw [decide_eq_true h2]
    exact iteT ⟨_, rfl, _, rfl, .inr ⟨y, 0, r, n, ps, old, rfl, N, .inl ⟨hr, k⟩⟩⟩
  rw [decide_eq_false h2]
  refine iteF ⟨_, rfl, rfl, _, rfl, ?_⟩
  rw [decV]
  by_cases h3 : way = 3
  · rw [decide_eq_true h3]
    exact iteT ⟨_, rfl, _, rfl, y, dx, _, rfl, gx, flds_no _ _ _ _ (by decide +kernel) (by decide +kernel) (by decide +kernel) (by decide +kernel), y, n, ps, old, rfl, N, _, _, rfl, rfl, _, rfl, .inr ⟨y, n - 1, r, n, ps, old, rfl, N, .inl ⟨hr, k⟩⟩⟩
  rw [decide_eq_false h3]
  refine iteF ⟨_, rfl, rfl, _, rfl, ?_⟩
  rw [decV]
  by_cases h4 : way = 4
  · rw [decide_eq_true h4]
    exact iteT ⟨_, rfl, _, rfl, _, rfl, y, dx, _, rfl, gx, flds_no _ _ _ _ (by decide +kernel) (by decide +kernel) (by decide +kernel) (by decide +kernel), y, n, ps, old, rfl, N, _, _, rfl, rfl, .inr ⟨y, r, n - 1, n, ps, old, rfl, N, .inl ⟨hr, k⟩⟩⟩
  rw [decide_eq_false h4]
  exact iteF ⟨_, rfl, _, rfl, .inr ⟨y, r, 0, n, ps, old, rfl, N, .inl ⟨hr, k⟩⟩⟩
end L3
end
section
namespace L3
open PySem PySem.Spec PyProof.Rows L2 Mp
def tr_nearest (w : World) (K : PySem.W.Frag) (C : Addr) : TS :=
    (tSeq (tAsg (tCall (sp_guards_of K C) [] E0 (tCons (tVar 0) (tCons (tVar 1) tNil))) (gName 2))
      (tRet (tIf (tTest (tOp (rI0 fun i j => .bl (decide (j < i))) (tCB (rLenS K) (tCons (tVar 2) tNil)) (tC (.int 1)))) (tOp (rIxL K) (tVar 2) (tUn (rU fun i => .int (-i)) (tC (.int 2)))) (tC .non))))
theorem ln_nearest {K : PySem.W.Frag} {C : Addr} {vs : List V} {H : Hp} {Q : VK} {E : XK} (h : sp_nearest K C vs H Q E) : vs.length = 2 := by
  obtain ⟨x, r, n, ps, old, rfl, _⟩ := h
  rfl
theorem rd_nearest {w : World} {K : PySem.W.Frag} {C : Addr} (T : TG K C) {vs : List V} {H : Hp} {Q : VK} {E : XK} (h : sp_nearest K C vs H Q E) : tr_nearest w K C { nx := fun _ H' => Q .non H', rt := Q } (start ["net", "room", "row"] vs) H := by
  obtain ⟨x, r, n, ps, old, rfl, N, hr, k0, k1⟩ := h
  refine ⟨_, rfl, _, rfl, x, r, n, ps, old, rfl, N, hr, fun l gs H1 e1 nl gl G => ?_⟩
  refine ⟨_, rfl, l, _, rfl, .inl (SqL.of gl), _, _, rfl, rfl, _, rfl, ?_⟩
  by_cases h0 : r = 0
  · subst h0
    have := G.zero
    subst this
    rw [decide_eq_false (by decide)]
    exact iteF (k0 rfl H1 e1)
  · obtain ⟨m, g, e, hN⟩ := G.near (OkNet.ok2 N.ok) hr h0
    subst e
    rw [decide_eq_true (by simp; omega)]
    refine iteT ⟨_, rfl, 2, rfl, l, _, -2, .int g, rfl, rfl, SqL.of gl, ?_, k1 h0 g H1 e1 hN⟩
    rw [List.map_append]
    exact atI_neg2 _ _ _
def trx_nearest (w : World) (K : PySem.W.Frag) (C : Addr) (xa : XA) (E : XK) : TS :=
    (tSeq (tAsg (tCall (spo_guards_of K C xa) [] E (tCons (tVar 0) (tCons (tVar 1) tNil))) (gName 2))
      (tRet (tIf (tTest (tOp (rI0 fun i j => .bl (decide (j < i))) (tCB (rLenS K) (tCons (tVar 2) tNil)) (tC (.int 1)))) (tOp (rIxL K) (tVar 2) (tUn (rU fun i => .int (-i)) (tC (.int 2)))) (tC .non))))
theorem lnx_nearest {K : PySem.W.Frag} {C : Addr} {xa : XA} {vs : List V} {H : Hp} {Q : VK} {E : XK} (h : spx_nearest K C xa vs H Q E) : vs.length = 2 := by
  obtain ⟨y, r, n, ps, old, rfl, _⟩ := h
  rfl
theorem rdx_nearest {w : World} {K : PySem.W.Frag} {C : Addr} {xa : XA} (T : TG K C) {vs : List V} {H : Hp} {Q : VK} {E : XK} (h : spx_nearest K C xa vs H Q E) : trx_nearest w K C xa E { nx := fun _ H' => Q .non H', rt := Q } (start ["net", "room", "row"] vs) H := by
  obtain ⟨y, r, n, ps, old, rfl, N, hh⟩ := h
  exact ⟨_, rfl, _, rfl, .inr ⟨y, r, n, ps, old, rfl, N, hh⟩⟩
end L3
end
section
namespace L3
open PySem PySem.Spec PyProof.Rows L2 Mp
def tr_bars_of (w : World) (K : PySem.W.Frag) (C : Addr) : TS :=
    (tSeq (tAsg (tLst tNil) (gName 2))
      (tSeq (tFor (iList K (tCall (sp_guards_of K C) [] E0 (tCons (tVar 0) (tCons (tVar 1) tNil)))) (gName 3)
        (tSeq (tAsg (tCall (sp_first_doors K C) [] E0 (tCons (tVar 0) (tCons (tVar 3) tNil))) (gName 4))
        (tIfS (tTest (tOp rEq (tCB (rLenS K) (tCons (tVar 4) tNil)) (tC (.int 1)))) (tDrop (tBM K "list" (rExtend) (tVar 2) (tCons (tVar 4) tNil))) tNext)))
      (tRet (tVar 2))))
theorem ln_bars_of {K : PySem.W.Frag} {C : Addr} {vs : List V} {H : Hp} {Q : VK} {E : XK} (h : sp_bars_of K C vs H Q E) : vs.length = 2 := by
  obtain ⟨x, r, n, ps, old, rfl, _⟩ := h
  rfl
theorem rd_bars_of {w : World} {K : PySem.W.Frag} {C : Addr} (T : TG K C) {vs : List V} {H : Hp} {Q : VK} {E : XK} (h : sp_bars_of K C vs H Q E) : tr_bars_of w K C { nx := fun _ H' => Q .non H', rt := Q } (start ["net", "room", "bars", "guard", "numbers"] vs) H := by
  obtain ⟨x, r, n, ps, old, rfl, N, hr, k⟩ := h
  have plen := N.ok.len
  refine ⟨Nat.zero_le _, fun b nb => ?_⟩
  have e0 : Same H (upd H b (.lst [])) := Same.new nb
  have g0 : upd H b (.lst []) b = some (.lst (dsV [])) := upd_same
  generalize upd H b (.lst []) = H0 at e0 g0 ⊢
  refine ⟨_, rfl, _, rfl, x, r, n, ps, old, rfl, N.same e0, hr, fun l gs H1 e1 nl gl G => ?_⟩
  have glen := OkNet.guards N.ok G
  have lb : l ≠ b := fun z => by rw [z, g0] at nl; cases nl
  refine ⟨l, rfl, ⟨_, SqL.of gl⟩, for_list (K := K) (a := l) (xs := gs.map V.int) (fun i σ H2 => ∃ u3 u4 : Option V, σ = [some (.ref x), some (.int r), some (.ref b), u3, u4] ∧ Same H H2 ∧ H2 l = some (.lst (gs.map V.int)) ∧ H2 b = some (.lst (dsV ((gs.take i).flatMap (barF ps))))) ⟨none, none, rfl, e0.trans e1, gl, e1 _ _ g0⟩ (fun i σ H2 _ ⟨_, _, _, _, g, _⟩ => SqL.of g) ?_ ?_⟩
  · rintro i y σ H2 hi ⟨u3, u4, rfl, e2, gl2, gb2⟩
    obtain ⟨g, hg, rfl⟩ := int_get hi
    refine ⟨_, rfl, _, rfl, x, g, n, ps, old, rfl, N.same e2, fun a H3 e3 na ga => ?_⟩
    have gl3 := e3 _ _ gl2
    have gb3 := e3 _ _ gb2
    have fl := first_len ps g
    have es : (gs.take (i + 1)).flatMap (barF ps) = (gs.take i).flatMap (barF ps) ++ barF ps g := by
      rw [take_snoc hg, List.flatMap_append, List.flatMap_cons, List.flatMap_nil, List.append_nil]
    refine ⟨_, rfl, a, _, rfl, .inl (SqL.of ga), rfl, _, rfl, ?_⟩
    rw [decV]
    have hlen : ((dsV (firstL ps g)).length : Int) = ((firstL ps g).length : Int) := by unfold dsV; rw [List.length_map]
    rw [hlen]
    refine ite2 (fun z => ?_) fun z => ?_
    · have z1 : (firstL ps g).length = 1 := by have := of_decide_eq_true z; omega
      refine ⟨_, rfl, .inl ⟨rfl, _, SqL.of gb3⟩, _, rfl, b, a, _, _, rfl, rfl, gb3, ga, ?_, ?_⟩
      · have h1 := bars_len (ps := ps) (gs.take i)
        have h2 : (gs.take i).length ≤ gs.length := by rw [List.length_take]; omega
        unfold dsV
        rw [List.length_map, List.length_map, sizeLine_eq]
        omega
      · refine ⟨_, _, rfl, Same.upd (e2.trans e3) nb, (by rw [upd_ne lb]; exact gl3), ?_⟩
        rw [upd_same, es]
        unfold barF dsV
        rw [if_pos z1, List.map_append]
    · have z1 : ¬ (firstL ps g).length = 1 := fun q => z (decide_eq_true (by omega))
      refine ⟨_, _, rfl, e2.trans e3, gl3, ?_⟩
      have eb : barF ps g = [] := by unfold barF; rw [if_neg z1]
      rw [es, eb, List.append_nil]
      exact gb3
  · rintro σ H2 ⟨u3, u4, rfl, e2, gl2, gb2⟩
    rw [List.length_map, List.take_length] at gb2
    exact ⟨_, rfl, k b _ H2 e2 nb gb2 (G.bars (OkNet.ok2 N.ok) hr (first_nd ps) fun g k => mem_first)⟩
def trx_bars_of (w : World) (K : PySem.W.Frag) (C : Addr) (xa : XA) (E : XK) : TS :=
    (tSeq (tAsg (tLst tNil) (gName 2))
      (tSeq (tFor (iList K (tCall (spo_guards_of K C xa) [] E (tCons (tVar 0) (tCons (tVar 1) tNil)))) (gName 3)
        (tSeq (tAsg (tCall (sp_first_doors K C) [] E0 (tCons (tVar 0) (tCons (tVar 3) tNil))) (gName 4))
        (tIfS (tTest (tOp rEq (tCB (rLenS K) (tCons (tVar 4) tNil)) (tC (.int 1)))) (tDrop (tBM K "list" (rExtend) (tVar 2) (tCons (tVar 4) tNil))) tNext)))
      (tRet (tVar 2))))
theorem lnx_bars_of {K : PySem.W.Frag} {C : Addr} {xa : XA} {vs : List V} {H : Hp} {Q : VK} {E : XK} (h : spx_bars_of K C xa vs H Q E) : vs.length = 2 := by
  obtain ⟨y, r, n, ps, old, rfl, _⟩ := h
  rfl
theorem rdx_bars_of {w : World} {K : PySem.W.Frag} {C : Addr} {xa : XA} (T : TG K C) {vs : List V} {H : Hp} {Q : VK} {E : XK} (h : spx_bars_of K C xa vs H Q E) : trx_bars_of w K C xa E { nx := fun _ H' => Q .non H', rt := Q } (start ["net", "room", "bars", "guard", "numbers"] vs) H := by
  obtain ⟨y, r, n, ps, old, rfl, N, hh⟩ := h
  refine ⟨Nat.zero_le _, fun b nb => ?_⟩
  have e0 : Same H (upd H b (.lst [])) := Same.new nb
  refine ⟨_, rfl, _, rfl, .inr ⟨y, r, n, ps, old, rfl, N.same e0, ?_⟩⟩
  rcases hh with ⟨r0, r1, hr, k⟩ | ⟨hr, k⟩
  · exact .inl ⟨r0, r1, hr, fun H' e' => k H' (e0.trans e')⟩
  · exact .inr ⟨hr, fun H' e' => k H' (e0.trans e')⟩
end L3
end
section
namespace L3
open PySem PySem.Spec PyProof.Rows L2 Mp
def tr_common (w : World) (K : PySem.W.Frag) (C : Addr) : TS :=
    (tSeq (tDrop (tCall (sp_check_all_reached K C) [] E0 (tCons (tVar 0) (tCons (tVar 1) tNil))))
      (tSeq (tAsg (tComp (iList K (tCall (sp_guards_of K C) [] E0 (tCons (tVar 0) (tCons (tOp (rIxL K) (tVar 1) (tC (.int 0))) tNil)))) 1 [0, 1] (gName 0) (tB (tCall (sp_guards_all K C) [] E0 (tCons (tVar 1) (tCons (tVar 0) (tCons (tVar 2) tNil))))) (tVar 0)) (gName 2))
      (tRet (tOp (rIxL K) (tVar 2) (tUn (rU fun i => .int (-i)) (tC (.int 1)))))))
theorem ln_common {K : PySem.W.Frag} {C : Addr} {vs : List V} {H : Hp} {Q : VK} {E : XK} (h : sp_common K C vs H Q E) : vs.length = 2 := by
  obtain ⟨x, a, rs, n, ps, old, rfl, _⟩ := h
  rfl
theorem rd_common {w : World} {K : PySem.W.Frag} {C : Addr} (T : TG K C) {vs : List V} {H : Hp} {Q : VK} {E : XK} (h : sp_common K C vs H Q E) : tr_common w K C { nx := fun _ H' => Q .non H', rt := Q } (start ["net", "some", "shared"] vs) H := by
  obtain ⟨x, a, rs, n, ps, old, rfl, N, hs, hne, hl, hr, k⟩ := h
  refine ⟨_, rfl, _, rfl, x, a, rs, n, ps, old, rfl, N, hs, hr, fun H1 e1 => ?_⟩
  obtain ⟨r0, rt, rfl⟩ : ∃ r0 rt, rs = r0 :: rt := by
    cases rs with
    | nil => exact absurd rfl hne
    | cons c t => exact ⟨c, t, rfl⟩
  refine ⟨_, rfl, _, rfl, a, _, 0, .int r0, rfl, rfl, e1.seq hs, atI_int (Int.le_refl 0) (by simp), x, r0, n, ps, old, rfl, N.same e1, hr r0 (by simp), fun l gs H2 e2 nl gl G => ?_⟩
  have glen := OkNet.guards N.ok G
  refine ⟨l, rfl, ⟨_, SqL.of gl⟩, comp_int_same (K := K) (ys := gs) (caps := [some (.ref x), some (.ref a)]) (fun y => (r0 :: rt).all (domB ps y)) V.int (SqL.of gl) (by omega) rfl (fun y H3 P hy e3 h => ?_) (fun y H3 P _ _ _ h => ⟨_, rfl, h⟩) fun c H3 e3 hc => ?_⟩
  · have e4 := e1.trans (e2.trans e3)
    exact ⟨_, rfl, _, rfl, _, rfl, x, y, a, r0 :: rt, n, ps, old, rfl, N.same e4, e4.seq hs, hl, hr, fun H4 e5 => ⟨_, rfl, h H4 e5⟩⟩
  · obtain ⟨m, g, em, hg⟩ := G.common (OkNet.ok2 N.ok) (rs := r0 :: rt) (by simp) hr (q := fun y => (r0 :: rt).all (domB ps y)) (fun x => all_dom)
    rw [em]
    refine ⟨_, rfl, 1, rfl, c, _, -1, .int g, rfl, rfl, SqL.of upd_same, ?_, k g _ (e1.trans (e2.trans (e3.trans (Same.new hc)))) hg⟩
    rw [List.map_append]
    exact atI_last _ _
def trx_common (w : World) (K : PySem.W.Frag) (C : Addr) (xa : XA) (E : XK) : TS :=
    (tSeq (tDrop (tCall (spo_check_all_reached K C xa) [] E (tCons (tVar 0) (tCons (tVar 1) tNil))))
      (tSeq (tAsg (tComp (iList K (tCall (spo_guards_of K C xa) [] E (tCons (tVar 0) (tCons (tOp (rIxL K) (tVar 1) (tC (.int 0))) tNil)))) 1 [0, 1] (gName 0) (tB (tCall (sp_guards_all K C) [] E0 (tCons (tVar 1) (tCons (tVar 0) (tCons (tVar 2) tNil))))) (tVar 0)) (gName 2))
      (tRet (tOp (rIxL K) (tVar 2) (tUn (rU fun i => .int (-i)) (tC (.int 1)))))))
theorem lnx_common {K : PySem.W.Frag} {C : Addr} {xa : XA} {vs : List V} {H : Hp} {Q : VK} {E : XK} (h : spx_common K C xa vs H Q E) : vs.length = 2 := by
  obtain ⟨y, a, rs, n, ps, old, rfl, _⟩ := h
  rfl
theorem rdx_common {w : World} {K : PySem.W.Frag} {C : Addr} {xa : XA} (T : TG K C) {vs : List V} {H : Hp} {Q : VK} {E : XK} (h : spx_common K C xa vs H Q E) : trx_common w K C xa E { nx := fun _ H' => Q .non H', rt := Q } (start ["net", "some", "shared"] vs) H := by
  obtain ⟨y, a, rs, n, ps, old, rfl, N, hs, hh⟩ := h
  exact ⟨_, rfl, _, rfl, .inr ⟨y, a, rs, n, ps, old, rfl, N, hs, hh⟩⟩
end L3
end
section
namespace L3
open PySem PySem.Spec PyProof.Rows L2 Mp
def tr_law_asked (w : World) (K : PySem.W.Frag) (C : Addr) : TS :=
    (tIfS (tTest (tOp rEq (tVar 1) (tC (.int 0)))) (tDrop (tCall (sp_way_to K C) [] E0 (tCons (tVar 0) (tCons (tVar 2) tNil)))) (tIfS (tTest (tOp rEq (tVar 1) (tC (.int 1)))) (tDrop (tCall (sp_way_past K C) [] E0 (tCons (tVar 0) (tCons (tVar 2) (tCons (tC (.int 0)) tNil))))) (tIfS (tTest (tOp rEq (tVar 1) (tC (.int 2)))) (tDrop (tCall (sp_guards K C) [] E0 (tCons (tVar 0) (tCons (tC (.int 0)) (tCons (tVar 2) tNil))))) (tIfS (tTest (tOp rEq (tVar 1) (tC (.int 3)))) (tDrop (tCall (sp_guards_of K C) [] E0 (tCons (tVar 0) (tCons (tVar 2) tNil)))) (tIfS (tTest (tOp rEq (tVar 1) (tC (.int 4)))) (tDrop (tCall (sp_nearest K C) [] E0 (tCons (tVar 0) (tCons (tVar 2) tNil)))) (tIfS (tTest (tOp rEq (tVar 1) (tC (.int 5)))) (tDrop (tCall (sp_bars_of K C) [] E0 (tCons (tVar 0) (tCons (tVar 2) tNil)))) (tIfS (tTest (tOp rEq (tVar 1) (tC (.int 6)))) (tDrop (tCall (sp_edge K C) [] E0 (tCons (tVar 0) (tCons (tVar 2) tNil)))) (tIfS (tTest (tOp rEq (tVar 1) (tC (.int 7)))) (tDrop (tCall (sp_common K C) [] E0 (tCons (tVar 0) (tCons (tVar 3) tNil)))) (tDrop (tCall (sp_joins K C) [] E0 (tCons (tVar 0) (tCons (tVar 3) tNil))))))))))))
theorem ln_law_asked {K : PySem.W.Frag} {C : Addr} {vs : List V} {H : Hp} {Q : VK} {E : XK} (h : sp_law_asked K C vs H Q E) : vs.length = 4 := by
  obtain ⟨a, b, c, d, rfl, _⟩ := h
  rfl
theorem rd_law_asked {w : World} {K : PySem.W.Frag} {C : Addr} (T : TG K C) {vs : List V} {H : Hp} {Q : VK} {E : XK} (h : sp_law_asked K C vs H Q E) : tr_law_asked w K C { nx := fun _ H' => Q .non H', rt := Q } (start ["net", "way", "room", "some"] vs) H := by
  obtain ⟨a, b, c, d, rfl, hF⟩ := h
  exact hF.elim
def trx_law_asked (w : World) (K : PySem.W.Frag) (C : Addr) (xa : XA) (E : XK) : TS :=
    (tIfS (tTest (tOp rEq (tVar 1) (tC (.int 0)))) (tDrop (tCall (spo_way_to K C xa) [] E (tCons (tVar 0) (tCons (tVar 2) tNil)))) (tIfS (tTest (tOp rEq (tVar 1) (tC (.int 1)))) (tDrop (tCall (spo_way_past K C xa) [] E (tCons (tVar 0) (tCons (tVar 2) (tCons (tC (.int 0)) tNil))))) (tIfS (tTest (tOp rEq (tVar 1) (tC (.int 2)))) (tDrop (tCall (spo_guards K C xa) [] E (tCons (tVar 0) (tCons (tC (.int 0)) (tCons (tVar 2) tNil))))) (tIfS (tTest (tOp rEq (tVar 1) (tC (.int 3)))) (tDrop (tCall (spo_guards_of K C xa) [] E (tCons (tVar 0) (tCons (tVar 2) tNil)))) (tIfS (tTest (tOp rEq (tVar 1) (tC (.int 4)))) (tDrop (tCall (spo_nearest K C xa) [] E (tCons (tVar 0) (tCons (tVar 2) tNil)))) (tIfS (tTest (tOp rEq (tVar 1) (tC (.int 5)))) (tDrop (tCall (spo_bars_of K C xa) [] E (tCons (tVar 0) (tCons (tVar 2) tNil)))) (tIfS (tTest (tOp rEq (tVar 1) (tC (.int 6)))) (tDrop (tCall (spo_edge K C xa) [] E (tCons (tVar 0) (tCons (tVar 2) tNil)))) (tIfS (tTest (tOp rEq (tVar 1) (tC (.int 7)))) (tDrop (tCall (spo_common K C xa) [] E (tCons (tVar 0) (tCons (tVar 3) tNil)))) (tDrop (tCall (spo_joins K C xa) [] E (tCons (tVar 0) (tCons (tVar 3) tNil))))))))))))
theorem lnx_law_asked {K : PySem.W.Frag} {C : Addr} {xa : XA} {vs : List V} {H : Hp} {Q : VK} {E : XK} (h : spx_law_asked K C xa vs H Q E) : vs.length = 4 := by
  obtain ⟨y, way, r, a, rs, n, ps, old, rfl, _⟩ := h
  rfl
theorem rdx_law_asked {w : World} {K : PySem.W.Frag} {C : Addr} {xa : XA} (T : TG K C) {vs : List V} {H : Hp} {Q : VK} {E : XK} (h : spx_law_asked K C xa vs H Q E) : trx_law_asked w K C xa E { nx := fun _ H' => Q .non H', rt := Q } (start ["net", "way", "room", "some"] vs) H := by
  obtain ⟨y, way, r, a, rs, n, ps, old, rfl, N, w0, w1, hs, hb, hl⟩ := h
  have n0 := N.ok.lo
  have go : way = 0 ∨ way = 1 ∨ way = 2 ∨ way = 3 ∨ way = 4 ∨ way = 5 ∨ way = 6 ∨ way = 7 ∨ way = 8 := by omega
  refine ⟨_, rfl, rfl, _, rfl, ?_⟩
  rw [decV]
  by_cases h0 : way = 0
  · rw [decide_eq_true h0]
    exact iteT ⟨_, rfl, _, rfl, .inr ⟨y, r, n, ps, old, rfl, N, hb⟩⟩
  rw [decide_eq_false h0]
  refine iteF ⟨_, rfl, rfl, _, rfl, ?_⟩
  rw [decV]
  by_cases h1 : way = 1
  · rw [decide_eq_true h1]
    exact iteT ⟨_, rfl, _, rfl, .inr ⟨y, r, 0, n, ps, old, rfl, N, .inr ⟨Int.le_refl 0, by omega, hb⟩⟩⟩
  rw [decide_eq_false h1]
  refine iteF ⟨_, rfl, rfl, _, rfl, ?_⟩
  rw [decV]
  by_cases h2 : way = 2
  · rw [decide_eq_true h2]
    exact iteT ⟨_, rfl, _, rfl, .inr ⟨y, 0, r, n, ps, old, rfl, N, .inr ⟨Int.le_refl 0, by omega, hb⟩⟩⟩
  rw [decide_eq_false h2]
  refine iteF ⟨_, rfl, rfl, _, rfl, ?_⟩
  rw [decV]
  by_cases h3 : way = 3
  · rw [decide_eq_true h3]
    exact iteT ⟨_, rfl, _, rfl, .inr ⟨y, r, n, ps, old, rfl, N, hb⟩⟩
  rw [decide_eq_false h3]
  refine iteF ⟨_, rfl, rfl, _, rfl, ?_⟩
  rw [decV]
  by_cases h4 : way = 4
  · rw [decide_eq_true h4]
    exact iteT ⟨_, rfl, _, rfl, .inr ⟨y, r, n, ps, old, rfl, N, hb⟩⟩
  rw [decide_eq_false h4]
  refine iteF ⟨_, rfl, rfl, _, rfl, ?_⟩
  rw [decV]
  by_cases h5 : way = 5
  · rw [decide_eq_true h5]
    exact iteT ⟨_, rfl, _, rfl, .inr ⟨y, r, n, ps, old, rfl, N, hb⟩⟩
  rw [decide_eq_false h5]
  refine iteF ⟨_, rfl, rfl, _, rfl, ?_⟩
  rw [decV]
  by_cases h6 : way = 6
  · rw [decide_eq_true h6]
    exact iteT ⟨_, rfl, _, rfl, .inr ⟨y, r, n, ps, old, rfl, N, hb⟩⟩
  rw [decide_eq_false h6]
  refine iteF ⟨_, rfl, rfl, _, rfl, ?_⟩
  rw [decV]
  by_cases h7 : way = 7
  · rw [decide_eq_true h7]
    exact iteT ⟨_, rfl, _, rfl, .inr ⟨y, a, rs, n, ps, old, rfl, N, hs, hl⟩⟩
  rw [decide_eq_false h7]
  exact iteF ⟨_, rfl, _, rfl, .inr ⟨y, a, rs, n, ps, old, rfl, N, hs, hl⟩⟩
end L3
end
section
namespace L3
open PySem PySem.Spec PyProof.Rows L2 Mp
def tr_law_told (w : World) (K : PySem.W.Frag) (C : Addr) (xa : XA) : TS :=
    (tSeq (tAsg (tLst tNil) (gName 5))
      (tSeq (tTry K xa.PassError 7 6 (fun Ew => (tIfS (tTest (tOp rEq (tVar 2) (tC (.int 0)))) (tDrop (tCall (spo_law_no_room K C xa) [] Ew (tCons (tVar 0) (tCons (tOp (rI (fun _ j => 0 < j) fun i j => .int (i % j)) (tVar 1) (tC (.int 6))) (tCons (tVar 3) tNil))))) (tDrop (tCall (spo_law_asked K C xa) [] Ew (tCons (tVar 0) (tCons (tVar 1) (tCons (tVar 3) (tCons (tVar 4) tNil))))))))
      (tAsg (tCall (sp_law_which K C) [] E0 (tCons (tVar 6) tNil)) (gName 5)))
      (tRet (tVar 5))))
theorem told_fin {w : World} {K : PySem.W.Frag} {C : Addr} {xa : XA} (TX : TXB K xa) {Q : VK} {H H0 : Hp} {rm : Bool} (e0 : Same H H0) (k : ∀ l H', Same H H' → H l = none → H' l = some (.lst [.bl false, .bl rm, .bl (!rm), .bl true]) → Q (.ref l) H') {H' : Hp} (e' : Same H0 H') {D0 : Addr} (h : D0 = if rm then xa.NoRoom else xa.Unreached) :
    ∃ D, Value.ref D0 = .ref D ∧ PySem.W.exmOne K (.ref D0) (.ref xa.PassError) = some true ∧ ∀ ea, H' ea = none →
      tAsg (tCall (sp_law_which K C) [] E0 (tCons (tVar 6) tNil)) (gName 5) { nx := fun σ' H2 => tRet (tVar 5) { nx := fun _ H' => Q .non H', rt := Q } (σ'.set 6 none) H2, rt := Q } ((List.replicate 7 none).set 6 (some (.ref ea))) (upd H' ea (ExcO ea D)) := by
  refine ⟨D0, rfl, ?_, fun ea nea => ?_⟩
  · rw [h]
    cases rm with
    | true => exact TX.mR
    | false => exact TX.mU
  · subst h
    refine ⟨_, rfl, ea, xa, rm, rfl, TX, upd_same, fun l nl => ?_⟩
    have e3 : Same H (upd (upd H' ea (ExcO ea (if rm then xa.NoRoom else xa.Unreached))) l (.lst [.bl false, .bl rm, .bl (!rm), .bl true])) := e0.trans (e'.trans ((Same.new nea).trans (Same.new nl)))
    exact ⟨_, rfl, k l _ e3 ((e0.trans (e'.trans (Same.new nea))).free nl) upd_same⟩
theorem ln_law_told {K : PySem.W.Frag} {C : Addr} {vs : List V} {H : Hp} {Q : VK} {E : XK} (h : sp_law_told K C vs H Q E) : vs.length = 5 := by
  obtain ⟨y, way, kind, r, a, rs, n, ps, old, rm, rfl, _⟩ := h
  rfl
theorem rd_law_told {w : World} {K : PySem.W.Frag} {C : Addr} {xa : XA} (TX : TXB K xa) (T : TG K C) {vs : List V} {H : Hp} {Q : VK} {E : XK} (h : sp_law_told K C vs H Q E) : tr_law_told w K C xa { nx := fun _ H' => Q .non H', rt := Q } (start ["net", "way", "kind", "room", "some", "told", "e"] vs) H := by
  obtain ⟨y, way, kind, r, a, rs, n, ps, old, rm, rfl, N, w0, w1, hs, ht, hf, k⟩ := h
  refine ⟨Nat.zero_le _, fun c nc => ?_⟩
  have e0 : Same H (upd H c (.lst [])) := Same.new nc
  generalize upd H c (.lst []) = H0 at e0 ⊢
  have N0 := N.same e0
  have hs0 := e0.seq hs
  refine ⟨_, rfl, rfl, _, rfl, ?_⟩
  rw [decV]
  by_cases hk : kind = 0
  · rw [decide_eq_true hk]
    cases rm with
    | false => exact absurd hk (hf rfl).1
    | true =>
      refine iteT ⟨_, rfl, _, rfl, _, _, rfl, rfl, (by show (0 : Int) < 6; decide), _, rfl, .inr ⟨y, way % 6, r, n, ps, old, rfl, N0, Int.emod_nonneg _ (by decide), Int.emod_lt_of_pos _ (by decide), (ht rfl).1, fun H' e' => ?_⟩⟩
      exact told_fin (w := w) (rm := true) TX e0 k e' rfl
  · rw [decide_eq_false hk]
    refine iteF ⟨_, rfl, _, rfl, _, rfl, _, rfl, .inr ⟨y, way, r, a, rs, n, ps, old, rfl, N0, w0, w1, hs0, ?_, ?_⟩⟩
    · cases rm with
      | true => exact .inr ⟨(ht rfl).1, fun H' e' => told_fin (w := w) (rm := true) TX e0 k e' rfl⟩
      | false =>
        obtain ⟨_, ⟨r0, r1⟩, nr, _⟩ := hf rfl
        exact .inl ⟨r0, r1, nr, fun H' e' => told_fin (w := w) (rm := false) TX e0 k e' rfl⟩
    · cases rm with
      | true => exact .inr ⟨(ht rfl).2, fun H' e' => told_fin (w := w) (rm := true) TX e0 k e' rfl⟩
      | false =>
        obtain ⟨_, _, _, h1, h2⟩ := hf rfl
        exact .inl ⟨h1, h2, fun H' e' => told_fin (w := w) (rm := false) TX e0 k e' rfl⟩
end L3
end
section
namespace L3
open PySem PySem.Spec PyProof.Rows L2 Mp
def tr_law_15 (w : World) (K : PySem.W.Frag) (C : Addr) : TS :=
    (tRet (tAndV (tNotN (tVar 11)) (tAndV (tOp rEq (tOp (rIxL K) (tVar 11) (tC (.int 0))) (tC (.int 0))) (tAndV (tOp rEq (tOp (rIxL K) (tVar 11) (tUn (rU fun i => .int (-i)) (tC (.int 1)))) (tC (.int 0))) (tOp (rIn K true) (tOp (rI0 fun i j => .int (i - j)) (tVar 2) (tC (.int 1))) (tVar 11))))))
def tr_law_14 (w : World) (K : PySem.W.Frag) (C : Addr) : TS :=
    tSeq (tAsg (tCall (sp_way_past K C) [] E0 (tCons (tVar 4) (tCons (tC (.int 0)) (tCons (tOp (rI0 fun i j => .int (i - j)) (tVar 2) (tC (.int 1))) tNil)))) (gName 11))
      (tr_law_15 w K C)
def tr_law_13 (w : World) (K : PySem.W.Frag) (C : Addr) : TS :=
    tSeq (tIfS (tB (tIsT (tCall (sp_guards K C) [] E0 (tCons (tVar 4) (tCons (tOp (rI0 fun i j => .int (i - j)) (tVar 2) (tC (.int 1))) (tCons (tC (.int 0)) tNil)))))) (tRet (tC (.bl false))) tNext)
      (tr_law_14 w K C)
def tr_law_12 (w : World) (K : PySem.W.Frag) (C : Addr) : TS :=
    tSeq (tIfS (tTest (tOp (rEqD K true) (tCall (sp_law_told K C) [] E0 (tCons (tVar 4) (tCons (tVar 7) (tCons (tVar 8) (tCons (tVar 9) (tCons (tVar 10) tNil)))))) (tLst (tCons (tC (.bl false)) (tCons (tOp (rI0 fun i j => .bl (decide (i < j))) (tVar 8) (tC (.int 2))) (tCons (tOp rEq (tVar 8) (tC (.int 2))) (tCons (tC (.bl true)) tNil))))))) (tRet (tC (.bl false))) tNext)
      (tr_law_13 w K C)
def tr_law_11 (w : World) (K : PySem.W.Frag) (C : Addr) : TS :=
    tSeq (tIfS (tTest (tOp rEq (tOp (rI (fun _ j => 0 < j) fun i j => .int (i % j)) (tCall (sp_law_cell_at K C) [] E0 (tCons (tVar 0) (tCons (tC (.int 5)) tNil))) (tC (.int 2))) (tC (.int 1)))) (tDrop (tBM K "list" (rInsert) (tVar 10) (tCons (tOp (rI (fun _ j => 0 < j) fun i j => .int (i % j)) (tOp (rI CDiv fun i j => .int (i / j)) (tCall (sp_law_cell_at K C) [] E0 (tCons (tVar 0) (tCons (tC (.int 5)) tNil))) (tC (.int 2))) (tOp (rI0 fun i j => .int (i + j)) (tCB (rLenS K) (tCons (tVar 10) tNil)) (tC (.int 1)))) (tCons (tOp (rI0 fun i j => .int (i - j)) (tVar 2) (tC (.int 1))) tNil)))) tNext)
      (tr_law_12 w K C)
def tr_law_10 (w : World) (K : PySem.W.Frag) (C : Addr) : TS :=
    tSeq (tDrop (tBM K "list" (rInsert) (tVar 10) (tCons (tOp (rI (fun _ j => 0 < j) fun i j => .int (i % j)) (tCall (sp_law_cell_at K C) [] E0 (tCons (tVar 0) (tCons (tC (.int 4)) tNil))) (tOp (rI0 fun i j => .int (i + j)) (tCB (rLenS K) (tCons (tVar 10) tNil)) (tC (.int 1)))) (tCons (tVar 9) tNil))))
      (tr_law_11 w K C)
def tr_law_9 (w : World) (K : PySem.W.Frag) (C : Addr) : TS :=
    tSeq (tAsg (tOp rRep (tLst (tCons (tC (.int 0)) tNil)) (tOp (rI (fun _ j => 0 < j) fun i j => .int (i % j)) (tCall (sp_law_cell_at K C) [] E0 (tCons (tVar 0) (tCons (tC (.int 3)) tNil))) (tC (.int 4)))) (gName 10))
      (tr_law_10 w K C)
def tr_law_8 (w : World) (K : PySem.W.Frag) (C : Addr) : TS :=
    tSeq (tAsg (tOp (rIxL K) (tLst (tCons (tVar 6) (tCons (tVar 6) (tCons (tOp (rI0 fun i j => .int (i - j)) (tVar 2) (tC (.int 1))) tNil)))) (tVar 8)) (gName 9))
      (tr_law_9 w K C)
def tr_law_7 (w : World) (K : PySem.W.Frag) (C : Addr) : TS :=
    tSeq (tAsg (tOp (rI (fun _ j => 0 < j) fun i j => .int (i % j)) (tOp (rI CDiv fun i j => .int (i / j)) (tCall (sp_law_cell_at K C) [] E0 (tCons (tVar 0) (tCons (tC (.int 0)) tNil))) (tC (.int 9))) (tC (.int 3))) (gName 8))
      (tr_law_8 w K C)
def tr_law_6 (w : World) (K : PySem.W.Frag) (C : Addr) : TS :=
    tSeq (tAsg (tOp (rI (fun _ j => 0 < j) fun i j => .int (i % j)) (tCall (sp_law_cell_at K C) [] E0 (tCons (tVar 0) (tCons (tC (.int 0)) tNil))) (tC (.int 9))) (gName 7))
      (tr_law_7 w K C)
def tr_law_5 (w : World) (K : PySem.W.Frag) (C : Addr) : TS :=
    tSeq (tAsg (tOp (rIxL K) (tLst (tCons (tOp (rI0 fun i j => .int (i - j)) (tUn (rU fun i => .int (-i)) (tC (.int 1))) (tVar 5)) (tCons (tVar 2) (tCons (tOp (rI0 fun i j => .int (i + j)) (tVar 2) (tVar 5)) tNil)))) (tOp (rI (fun _ j => 0 < j) fun i j => .int (i % j)) (tCall (sp_law_cell_at K C) [] E0 (tCons (tVar 0) (tCons (tC (.int 2)) tNil))) (tC (.int 3)))) (gName 6))
      (tr_law_6 w K C)
def tr_law_4 (w : World) (K : PySem.W.Frag) (C : Addr) : TS :=
    tSeq (tAsg (tOp (rI (fun _ j => 0 < j) fun i j => .int (i % j)) (tCall (sp_law_cell_at K C) [] E0 (tCons (tVar 0) (tCons (tC (.int 1)) tNil))) (tOp (rI CPow fun i j => .int (i ^ j.toNat)) (tC (.int 10)) (tC (.int 59)))) (gName 5))
      (tr_law_5 w K C)
def tr_law_3 (w : World) (K : PySem.W.Frag) (C : Addr) : TS :=
    tSeq (tAsg (tMake C (sp_Net_init K C) [] E0 (tCons (tVar 2) (tCons (tCB (rListOf K) (tCons (tVar 3) tNil)) tNil))) (gName 4))
      (tr_law_4 w K C)
def tr_law_2 (w : World) (K : PySem.W.Frag) (C : Addr) : TS :=
    tSeq (tAsg (tComp (iList K (tOp (rIxT K) (tVar 1) (tC (.int 1)))) 1 [2] (gName 0) (tOr (tTest (tOp rNe (tOp (rIxT K) (tVar 0) (tC (.int 1))) (tOp (rI0 fun i j => .int (i - j)) (tVar 1) (tC (.int 1))))) (tTest (tOp rEq (tOp (rIxT K) (tVar 0) (tC (.int 0))) (tOp (rI0 fun i j => .int (i - j)) (tVar 1) (tC (.int 1)))))) (tVar 0)) (gName 3))
      (tr_law_3 w K C)
def tr_law_1 (w : World) (K : PySem.W.Frag) (C : Addr) : TS :=
    tSeq (tAsg (tCB (rMax2) (tCons (tC (.int 2)) (tCons (tOp (rIxT K) (tVar 1) (tC (.int 0))) tNil))) (gName 2))
      (tr_law_2 w K C)
def tr_law (w : World) (K : PySem.W.Frag) (C : Addr) : TS :=
    tSeq (tAsg (tCall (sp_law_net K C) [] E0 (tCons (tVar 0) (tCons (tC (.int 6)) (tCons (tC (.int 12)) (tCons (tC (.int 24)) tNil))))) (gName 1))
      (tr_law_1 w K C)
set_option maxHeartbeats 4000000
theorem eqv_bls : ∀ bs cs : List Bool, PyData.eqvAll (bs.map .bool) (cs.map .bool) = decide (bs = cs)
  | [], [] => rfl
  | [], _ :: _ => rfl
  | _ :: _, [] => rfl
  | a :: r, b :: t => by
    rw [List.map_cons, List.map_cons, PyData.eqvAll, eqv_bls r t]
    have : PyData.eqv (.bool a) (.bool b) = decide (a = b) := by cases a <;> cases b <;> rfl
    rw [this, Bool.eq_iff_iff]
    simp
theorem lay_bls : ∀ bs : List Bool, PyData.canLayAll0 (bs.map .bool) = true
  | [] => rfl
  | _ :: r => by
    rw [List.map_cons, PyData.canLayAll0, lay_bls r]
    rfl
theorem deep_bls0 : ∀ bs : List Bool, PyData.depthAll (bs.map .bool) = 0
  | [] => rfl
  | _ :: r => by
    rw [List.map_cons, PyData.depthAll, deep_bls0 r]
    rfl
theorem sh_bls (bs : List Bool) : SeqAt.shaped (.list (bs.map .bool)) = true := by
  unfold SeqAt.shaped
  rw [PyData.canLay0, lay_bls, PyData.depth, deep_bls0]
  rfl
theorem eq_bls {K : PySem.W.Frag} {H : Hp} {a b : Addr} {bs cs : List Bool} {neg : Bool} {Q : VK} (ha : SqL K H a (bs.map V.bl)) (hb : SqL K H b (cs.map V.bl)) (q : Q (.bl (if neg then !decide (bs = cs) else decide (bs = cs))) H) : rEqD K neg (.ref a) (.ref b) H Q := by
  refine ⟨_, _, deep_list ha (deep_bls bs), deep_list hb (deep_bls cs), sh_bls bs, sh_bls cs, ?_⟩
  have : PyData.eqv (.list (bs.map .bool)) (.list (cs.map .bool)) = decide (bs = cs) := by
    rw [PyData.eqv]
    exact eqv_bls bs cs
  rw [this]
  exact q
theorem rep_ints (z : Int) : ∀ k : Nat, (List.replicate k [V.int z]).flatten = (List.replicate k z).map V.int
  | 0 => rfl
  | k + 1 => by
    rw [List.replicate_succ, List.replicate_succ, List.flatten_cons, rep_ints z k]
    rfl
theorem ins_ints (L : List Int) (i : Nat) (r : Int) : (L.map V.int).take i ++ V.int r :: (L.map V.int).drop i = (L.take i ++ r :: L.drop i).map V.int := by
  rw [List.map_append, List.map_cons, List.map_take, List.map_drop]
theorem mem_ins {L : List Int} {i : Nat} {r x : Int} : x ∈ L.take i ++ r :: L.drop i ↔ x = r ∨ x ∈ L := by
  rw [List.mem_append, List.mem_cons]
  constructor
  · rintro (h | h | h)
    · exact .inr (List.mem_of_mem_take h)
    · exact .inl h
    · exact .inr (List.mem_of_mem_drop h)
  · rintro (h | h)
    · exact .inr (.inl h)
    · rw [← List.take_append_drop i L, List.mem_append] at h
      exact h.imp id .inr
theorem rest_k14 {w : World} {K : PySem.W.Frag} {C : Addr} (T : TG K C) {Q : VK} {n way kind room : Int} {ps : List (Int × Int)} {rs : List Int} {x sm : Addr} {u0 u1 u3 u5 u6 : Option V} {old H5 : Hp} (N : NetAt C old H5 x n ps) (n2 : 2 ≤ n) (nr : ¬ Rch ps (-1) (n - 1)) (w0 : 0 ≤ way) (w1 : way < 9) (k0 : 0 ≤ kind) (k1 : kind < 3)
    (hr1 : kind < 2 → ¬ (0 ≤ room ∧ room < n)) (hr2 : kind = 2 → room = n - 1) (gsm : H5 sm = some (.lst (rs.map V.int))) (hin : room ∈ rs) (hall : ∀ y ∈ rs, y = room ∨ y = 0 ∨ y = n - 1) (q : ∀ H', Q (.bl true) H') :
    tr_law_12 w K C { nx := fun _ H' => Q .non H', rt := Q } [u0, u1, some (.int n), u3, some (.ref x), u5, u6, some (.int way), some (.int kind), some (.int room), some (.ref sm), none] H5 := by
  have r0 : Rch ps (-1) 0 := .start (by decide)
  have rp : Rch ps (n - 1) 0 := .start (by omega)
  refine ⟨_, rfl, _, rfl, _, rfl, _, rfl, _, rfl, x, way, kind, room, sm, rs, n, ps, old, decide (kind < 2), rfl, N, w0, w1, SqL.of gsm, fun h => ?_, fun h => ?_, fun l H6 e6 nl gl => ?_⟩
  · have h := hr1 (of_decide_eq_true h)
    exact ⟨h, room, hin, h⟩
  · have h := of_decide_eq_false h
    have e := hr2 (by omega)
    subst e
    refine ⟨by omega, ⟨by omega, by omega⟩, nr, fun y hy => ?_, n - 1, hin, nr⟩
    rcases hall y hy with z | z | z <;> omega
  refine ⟨_, rfl, _, _, rfl, rfl, _, rfl, rfl, (by show 4 ≤ sizeLine; decide), fun z nz => ?_⟩
  rw [decV]
  have e7 : Same H6 (upd H6 z (.lst [.bl false, .bl (decide (kind < 2)), .bl (decide (kind = 2)), .bl true])) := Same.new nz
  refine eq_bls (bs := [false, decide (kind < 2), !decide (kind < 2), true]) (cs := [false, decide (kind < 2), decide (kind = 2), true]) (SqL.of (e7 _ _ gl)) (SqL.of upd_same) ⟨_, rfl, ?_⟩
  have ek : (!decide (kind < 2)) = decide (kind = 2) := by
    rw [Bool.eq_iff_iff, Bool.not_eq_true', decide_eq_false_iff_not, decide_eq_true_iff]
    omega
  rw [ek, decide_eq_true rfl]
  refine iteF ?_
  have e57 := e6.trans e7
  generalize upd H6 z (.lst [.bl false, .bl (decide (kind < 2)), .bl (decide (kind = 2)), .bl true]) = H7 at e57 ⊢
  have N7 := N.same e57
  refine ⟨_, rfl, _, rfl, _, _, rfl, rfl, x, n - 1, 0, n, ps, old, rfl, N7, by omega, by omega, r0, fun H8 e8 => ⟨_, rfl, _, rfl, ?_⟩⟩
  have ed : domB ps (n - 1) 0 = false := domB_not.mpr fun d => d.2 rp
  rw [ed]
  refine iteF ?_
  have N8 := N7.same e8
  refine ⟨_, rfl, _, rfl, _, _, rfl, rfl, x, 0, n - 1, n, ps, old, rfl, N8, by omega, by omega, r0, fun f wl H9 e9 nf gf W av wlen _ => ?_, fun H9 e9 no => absurd rp no⟩
  have h0 : atI (wl.map V.int) 0 = some (.int 0) := by
    have := W.head
    cases wl with
    | nil => cases this
    | cons c r =>
      have ec : c = 0 := by simpa using this
      subst ec
      exact atI_int (Int.le_refl 0) (by simp)
  refine ⟨_, rfl, _, rfl, iteT ⟨_, rfl, f, _, 0, _, rfl, rfl, SqL.of gf, h0, rfl, _, rfl, ?_⟩⟩
  rw [decV, decide_eq_true rfl]
  refine iteT ⟨_, rfl, 1, rfl, f, _, -1, _, rfl, rfl, SqL.of gf, atI_getLast W.last, rfl, _, rfl, ?_⟩
  rw [decV, decide_eq_true rfl]
  refine iteT ⟨_, rfl, _, _, rfl, rfl, _, rfl, f, _, rfl, .inl (SqL.of gf), rfl, flat_ints _, ?_⟩
  rw [notin_int, decide_eq_false (fun h => av _ h rfl)]
  exact q H9
theorem ln_law {K : PySem.W.Frag} {C : Addr} {vs : List V} {H : Hp} {Q : VK} {E : XK} (h : sp_law K C vs H Q E) : vs.length = 1 := by
  obtain ⟨a, ns, rfl, _⟩ := h
  rfl
theorem rd_law {w : World} {K : PySem.W.Frag} {C : Addr} (T : TG K C) {vs : List V} {H : Hp} {Q : VK} {E : XK} (h : sp_law K C vs H Q E) : tr_law w K C { nx := fun _ H' => Q .non H', rt := Q } (start ["script", "drawn", "many", "pairs", "net", "far", "gone", "way", "kind", "room", "some", "found"] vs) H := by
  obtain ⟨a, ns, rfl, hs, hlen, q⟩ := h
  have O0 := drawn_ok ns 6 (most := 12) (extra := 24) (by decide) (by decide) (by decide) (by decide)
  have hm12 := many_lo ns 6 (most := 12) (by decide)
  refine ⟨_, rfl, a, ns, 6, 12, 24, rfl, hs, (by decide), (by decide), (by decide), (by decide), fun t l xs H1 e1 ht0 hl0 ht hl hp => ?_⟩
  generalize manyOf ns 6 12 = n0 at O0 ht hm12
  generalize doorsOf ns 6 12 24 = ps0 at O0 hp
  -- many
  refine ⟨_, rfl, t, _, 0, _, rfl, rfl, SqT.of ht, rfl, 2, n0, rfl, ?_⟩
  obtain ⟨n, hn, n2, nn, n12⟩ : ∃ n : Int, (if n0 > 2 then n0 else 2) = n ∧ 2 ≤ n ∧ n0 ≤ n ∧ n ≤ 12 := by
    refine ⟨_, rfl, ?_, ?_, ?_⟩ <;> split <;> omega
  rw [hn]
  have plen0 := O0.len
  -- pairs
  refine ⟨_, rfl, t, _, 1, _, rfl, rfl, SqT.of ht, rfl, l, rfl, ⟨_, SqL.of hl⟩, comp_pair_self (K := K) (caps := [some (.int n)]) (fun p => !decide (p.2 = n - 1) || decide (p.1 = n - 1)) (SqL.of hl) hp (by omega) rfl (fun y z P hy gz h => ?_) fun pl zs hpl hz => ?_⟩
  · refine ⟨_, rfl, z, _, 1, _, rfl, rfl, SqT.of gz, rfl, _, rfl, _, _, rfl, rfl, rfl, _, rfl, ?_⟩
    rw [decV]
    refine ite2 (fun z1 => ?_) fun z1 => ?_
    · rw [z1, Bool.true_or] at h
      exact h
    · rw [Bool.not_eq_true] at z1
      rw [z1, Bool.false_or] at h
      refine ⟨_, rfl, z, _, 0, _, rfl, rfl, SqT.of gz, rfl, _, rfl, _, _, rfl, rfl, rfl, _, rfl, ?_⟩
      rw [decV]
      exact h
  have e2 : Same H1 (upd H1 pl (.lst zs)) := Same.new hpl
  have gpl : upd H1 pl (.lst zs) pl = some (.lst zs) := upd_same
  have hz2 := PairsV.same e2 hz
  have O : OkNet n (ps0.filter fun p => !decide (p.2 = n - 1) || decide (p.1 = n - 1)) := by
    refine ⟨by omega, by omega, Nat.le_trans (List.length_filter_le _ _) plen0, fun p hp => ?_⟩
    obtain ⟨h1, h2, h3, h4⟩ := O0.ok p (List.mem_filter.mp hp).1
    exact ⟨h1, by omega, h3, by omega⟩
  have nr : ¬ Rch (ps0.filter fun p => !decide (p.2 = n - 1) || decide (p.1 = n - 1)) (-1) (n - 1) := fun r => by
    refine Rch.closed (S := fun y => y ≠ n - 1) (fun _ => by omega) (fun u v hu m _ e => ?_) r rfl
    have := (List.mem_filter.mp m).2
    rw [Bool.or_eq_true, Bool.not_eq_true', decide_eq_false_iff_not, decide_eq_true_iff] at this
    exact this.elim (fun z => z e) hu
  generalize (ps0.filter fun p => !decide (p.2 = n - 1) || decide (p.1 = n - 1)) = ps at hz2 O nr
  generalize upd H1 pl (.lst zs) = H2 at e2 gpl hz2 ⊢
  -- net
  refine ⟨_, rfl, _, rfl, pl, zs, rfl, .inl (SqL.of gpl), fun c1 hc1 => ?_⟩
  have f1 := Same.new (o := .lst zs) hc1
  have gc1 : upd H2 c1 (.lst zs) c1 = some (.lst zs) := upd_same
  generalize upd H2 c1 (.lst zs) = H3 at f1 gc1 ⊢
  intro x dx hx hdx nx
  refine net_made gc1 (PairsV.same f1 hz2) O hx hdx fun H4 f2 N => ⟨rfl, ?_⟩
  clear hx hdx nx dx
  have hs4 := (e1.trans (e2.trans (f1.trans f2))).seq hs
  -- far
  have hp59 : (0 : Int) < 10 ^ (59 : Int).toNat := by decide
  have far0 := Int.emod_nonneg (cell ns 1) (by omega : (10 : Int) ^ (59 : Int).toNat ≠ 0)
  refine ⟨_, rfl, a, ns, 1, rfl, hs4, _, _, rfl, rfl, (⟨by decide, by decide, by decide⟩ : CPow 10 59), _, _, rfl, rfl, hp59, ?_⟩
  dsimp only
  generalize cell ns 1 % 10 ^ (59 : Int).toNat = far at far0 ⊢
  -- gone
  refine ⟨1, rfl, _, rfl, _, _, rfl, rfl, _, rfl, _, rfl, _, rfl, _, _, rfl, rfl, (by show 3 ≤ sizeLine; decide), fun g0 ng0 => ?_⟩
  dsimp only
  have f3 : Same H4 (upd H4 g0 (.lst [.int (-1 - far), .int n, .int (n + far)])) := Same.new ng0
  have gg0 : upd H4 g0 (.lst [.int (-1 - far), .int n, .int (n + far)]) g0 = some (.lst [.int (-1 - far), .int n, .int (n + far)]) := upd_same
  have c2a := Int.emod_nonneg (cell ns 2) (by decide : (3 : Int) ≠ 0)
  have c2b := Int.emod_lt_of_pos (cell ns 2) (by decide : (0 : Int) < 3)
  obtain ⟨gone, hat, hbad⟩ : ∃ gone, atI [V.int (-1 - far), V.int n, V.int (n + far)] (cell ns 2 % 3) = some (.int gone) ∧ ¬ (0 ≤ gone ∧ gone < n) := by
    generalize cell ns 2 % 3 = i at c2a c2b
    have hi : i = 0 ∨ i = 1 ∨ i = 2 := by omega
    rcases hi with rfl | rfl | rfl
    · exact ⟨_, rfl, by omega⟩
    · exact ⟨_, rfl, by omega⟩
    · exact ⟨_, rfl, by omega⟩
  generalize upd H4 g0 (.lst [.int (-1 - far), .int n, .int (n + far)]) = H5 at f3 gg0 ⊢
  have hs5 := f3.seq hs4
  refine ⟨_, rfl, a, ns, 2, rfl, hs5, _, _, rfl, rfl, (by show (0 : Int) < 3; decide), g0, _, _, .int gone, rfl, rfl, SqL.of gg0, hat, ?_⟩
  -- way, kind
  have w0 := Int.emod_nonneg (cell ns 0) (by decide : (9 : Int) ≠ 0)
  have w1 := Int.emod_lt_of_pos (cell ns 0) (by decide : (0 : Int) < 9)
  have k0 := Int.emod_nonneg (cell ns 0 / 9) (by decide : (3 : Int) ≠ 0)
  have k1 := Int.emod_lt_of_pos (cell ns 0 / 9) (by decide : (0 : Int) < 3)
  refine ⟨_, rfl, a, ns, 0, rfl, hs5, _, _, rfl, rfl, (by show (0 : Int) < 9; decide), ?_⟩
  refine ⟨_, rfl, a, ns, 0, rfl, hs5, _, _, rfl, rfl, (⟨by decide, by decide⟩ : CDiv (cell ns 0) 9), _, _, rfl, rfl, (by show (0 : Int) < 3; decide), ?_⟩
  dsimp only
  generalize cell ns 0 % 9 = way at w0 w1 ⊢
  generalize cell ns 0 / 9 % 3 = kind at k0 k1 ⊢
  -- room
  refine ⟨_, rfl, _, rfl, _, rfl, _, _, rfl, rfl, (by show 3 ≤ sizeLine; decide), fun g1 ng1 => ?_⟩
  dsimp only
  have f4 : Same H5 (upd H5 g1 (.lst [.int gone, .int gone, .int (n - 1)])) := Same.new ng1
  have gg1 : upd H5 g1 (.lst [.int gone, .int gone, .int (n - 1)]) g1 = some (.lst [.int gone, .int gone, .int (n - 1)]) := upd_same
  obtain ⟨room, hat2, hr1, hr2⟩ : ∃ room, atI [V.int gone, V.int gone, V.int (n - 1)] kind = some (.int room) ∧ (kind < 2 → ¬ (0 ≤ room ∧ room < n)) ∧ (kind = 2 → room = n - 1) := by
    have hi : kind = 0 ∨ kind = 1 ∨ kind = 2 := by omega
    rcases hi with rfl | rfl | rfl
    · exact ⟨_, rfl, fun _ => hbad, fun h => by omega⟩
    · exact ⟨_, rfl, fun _ => hbad, fun h => by omega⟩
    · exact ⟨_, rfl, fun h => by omega, fun _ => rfl⟩
  generalize upd H5 g1 (.lst [.int gone, .int gone, .int (n - 1)]) = H6 at f4 gg1 ⊢
  have hs6 := f4.seq hs5
  refine ⟨_, rfl, g1, _, _, .int room, rfl, rfl, SqL.of gg1, hat2, ?_⟩
  -- some
  have c3a := Int.emod_nonneg (cell ns 3) (by decide : (4 : Int) ≠ 0)
  have c3b := Int.emod_lt_of_pos (cell ns 3) (by decide : (0 : Int) < 4)
  refine ⟨(by show 1 ≤ sizeLine; decide), fun z0 nz0 => ?_⟩
  have f5 : Same H6 (upd H6 z0 (.lst [.int 0])) := Same.new nz0
  have gz0 : upd H6 z0 (.lst [.int 0]) z0 = some (.lst [.int 0]) := upd_same
  generalize upd H6 z0 (.lst [.int 0]) = H7 at f5 gz0 ⊢
  have hs7 := f5.seq hs6
  refine ⟨_, rfl, a, ns, 3, rfl, hs7, _, _, rfl, rfl, (by show (0 : Int) < 4; decide), z0, cell ns 3 % 4, [.int 0], rfl, rfl, gz0, (by omega), (by omega), (by rw [sizeLine_eq]; simp; omega), fun sm nsm => ?_⟩
  dsimp only
  rw [rep_ints]
  generalize hL : List.replicate (cell ns 3 % 4).toNat (0 : Int) = L0
  have L0m : ∀ y ∈ L0, y = 0 := fun y hy => by rw [← hL] at hy; exact (List.mem_replicate.mp hy).2
  have L0l : L0.length ≤ 3 := by rw [← hL, List.length_replicate]; omega
  have f6 : Same H7 (upd H7 sm (.lst (L0.map V.int))) := Same.new nsm
  have gsm : upd H7 sm (.lst (L0.map V.int)) sm = some (.lst (L0.map V.int)) := upd_same
  have nsm4 : H4 sm = none := (f3.trans (f4.trans f5)).free nsm
  generalize upd H7 sm (.lst (L0.map V.int)) = H8 at f6 gsm ⊢
  have hs8 := f6.seq hs7
  have e48 := f3.trans (f4.trans (f5.trans f6))
  have el0 : ((L0.map V.int).length : Int) = (L0.length : Int) := by rw [List.length_map]
  -- some.insert(.., room)
  have i0 := Int.emod_nonneg (cell ns 4) (by omega : (L0.length : Int) + 1 ≠ 0)
  have i1 := Int.emod_lt_of_pos (cell ns 4) (by omega : (0 : Int) < (L0.length : Int) + 1)
  refine ⟨_, rfl, .inl ⟨rfl, _, SqL.of gsm⟩, _, rfl, a, ns, 4, rfl, hs8, _, rfl, sm, _, rfl, .inl (SqL.of gsm), _, _, rfl, rfl, _, _, rfl, rfl, (by show (0 : Int) < _; rw [el0]; omega), _, rfl, sm, _, _, .int room, rfl, rfl, gsm, (by rw [el0]; exact i0), (by rw [el0]; omega), (by rw [List.length_map, sizeLine_eq]; omega), ?_⟩
  dsimp only
  rw [el0, ins_ints]
  have mem1 : ∀ y, y ∈ L0.take (cell ns 4 % ((L0.length : Int) + 1)).toNat ++ room :: L0.drop (cell ns 4 % ((L0.length : Int) + 1)).toNat ↔ y = room ∨ y ∈ L0 := fun y => mem_ins
  have len1 : (L0.take (cell ns 4 % ((L0.length : Int) + 1)).toNat ++ room :: L0.drop (cell ns 4 % ((L0.length : Int) + 1)).toNat).length ≤ 4 := by
    rw [List.length_append, List.length_cons, List.length_take, List.length_drop]
    omega
  generalize L0.take (cell ns 4 % ((L0.length : Int) + 1)).toNat ++ room :: L0.drop (cell ns 4 % ((L0.length : Int) + 1)).toNat = L1 at mem1 len1
  have e49 : Same H4 (upd H8 sm (.lst (L1.map V.int))) := Same.upd e48 nsm4
  have gsm9 : upd H8 sm (.lst (L1.map V.int)) sm = some (.lst (L1.map V.int)) := upd_same
  generalize upd H8 sm (.lst (L1.map V.int)) = H9 at e49 gsm9 ⊢
  have hs9 := e49.seq hs4
  have all1 : ∀ y ∈ L1, y = room ∨ y = 0 ∨ y = n - 1 := fun y hy => by
    rcases (mem1 y).mp hy with z | z
    · exact .inl z
    · exact .inr (.inl (L0m y z))
  have in1 : room ∈ L1 := (mem1 room).mpr (.inl rfl)
  -- if ..: some.insert(.., many - 1)
  refine ⟨_, rfl, a, ns, 5, rfl, hs9, _, _, rfl, rfl, (by show (0 : Int) < 2; decide), rfl, _, rfl, ?_⟩
  refine ite2 (fun _ => ?_) fun _ => ?_
  · have el1 : ((L1.map V.int).length : Int) = (L1.length : Int) := by rw [List.length_map]
    have j0 := Int.emod_nonneg (cell ns 5 / 2) (by omega : (L1.length : Int) + 1 ≠ 0)
    have j1 := Int.emod_lt_of_pos (cell ns 5 / 2) (by omega : (0 : Int) < (L1.length : Int) + 1)
    refine ⟨_, rfl, .inl ⟨rfl, _, SqL.of gsm9⟩, _, rfl, a, ns, 5, rfl, hs9, _, _, rfl, rfl, (⟨by decide, by decide⟩ : CDiv (cell ns 5) 2), _, rfl, sm, _, rfl, .inl (SqL.of gsm9), _, _, rfl, rfl, _, _, rfl, rfl, (by show (0 : Int) < _; rw [el1]; omega), _, rfl, _, _, rfl, rfl, sm, _, _, .int (n - 1), rfl, rfl, gsm9, (by rw [el1]; exact j0), (by rw [el1]; omega), (by rw [List.length_map, sizeLine_eq]; omega), ?_⟩
    dsimp only
    rw [el1, ins_ints]
    have e410 := Same.upd (o := .lst ((L1.take (cell ns 5 / 2 % ((L1.length : Int) + 1)).toNat ++ (n - 1) :: L1.drop (cell ns 5 / 2 % ((L1.length : Int) + 1)).toNat).map V.int)) e49 nsm4
    refine rest_k14 T (N.same e410) n2 nr w0 w1 k0 k1 hr1 hr2 upd_same (mem_ins.mpr (.inr in1)) (fun y hy => ?_) q
    rcases mem_ins.mp hy with z | z
    · exact .inr (.inr z)
    · exact all1 y z
  · exact rest_k14 T (N.same e49) n2 nr w0 w1 k0 k1 hr1 hr2 gsm9 in1 all1 q
end L3
end
section
namespace L2
open PySem PySem.Spec PyProof.Rows
section
variable {X : Cx} {tg : Expr}
end
end L2
end
section
set_option maxHeartbeats 4000000
namespace My
open PySem PySem.Spec PyProof.Rows L2 L3 Mp
def top (i : Nat) : Stmt := PySem.Challenge.pw_mustpass_k14_each_refusal_its_own.main.body.getD i (.Pass ⟨0, 0, 0, 0⟩)
abbrev sStepsPast : Stmt := top 7
abbrev sTraceWay : Stmt := top 8
abbrev sCheckAllReached : Stmt := top 9
abbrev sCheckReached : Stmt := top 10
abbrev sReached : Stmt := top 11
abbrev sWayTo : Stmt := top 12
abbrev sWayPast : Stmt := top 13
abbrev sGuarded : Stmt := top 15
abbrev sGuardsAll : Stmt := top 16
abbrev sGuards : Stmt := top 17
abbrev sGuardsOf : Stmt := top 18
abbrev sNearest : Stmt := top 19
abbrev sFirstDoors : Stmt := top 20
abbrev sBarsOf : Stmt := top 21
abbrev sCommon : Stmt := top 22
abbrev sEdge : Stmt := top 24
abbrev sJoins : Stmt := top 25
abbrev sIsRoom : Stmt := top 29
abbrev sCheckNet : Stmt := top 30
abbrev sRoomsLedInto : Stmt := top 31
abbrev sRoomsLedFrom : Stmt := top 32
abbrev sNetInit : Stmt := inClass (top 33) 0
abbrev sNetRooms : Stmt := inClass (top 33) 1
abbrev sNetDoors : Stmt := inClass (top 33) 2
abbrev sNetLeads : Stmt := inClass (top 33) 3
abbrev sNetLed : Stmt := inClass (top 33) 4
abbrev sNetCheckRoom : Stmt := inClass (top 33) 5
abbrev sLawCellAt : Stmt := top 35
abbrev sLawNet : Stmt := top 36
abbrev sLawAsked : Stmt := top 37
abbrev sLawNoRoom : Stmt := top 38
abbrev sLawWhich : Stmt := top 39
abbrev sLawTold : Stmt := top 40
abbrev sLaw : Stmt := top 41
theorem scStepsPast : FnScope ["net", "closed", "step_before", "waiting", "room", "further"] ["net", "closed"] (defScope sStepsPast) := ⟨rfl, rfl, rfl, by decide +kernel, rfl, by decide +kernel, by decide +kernel⟩
theorem scTraceWay : FnScope ["step_before", "room", "way", "place"] ["step_before", "room"] (defScope sTraceWay) := ⟨rfl, rfl, rfl, by decide +kernel, rfl, by decide +kernel, by decide +kernel⟩
theorem scCheckAllReached : FnScope ["net", "some", "room", "step_before"] ["net", "some"] (defScope sCheckAllReached) := ⟨rfl, rfl, rfl, by decide +kernel, rfl, by decide +kernel, by decide +kernel⟩
theorem scCheckReached : FnScope ["net", "room"] ["net", "room"] (defScope sCheckReached) := ⟨rfl, rfl, rfl, by decide +kernel, rfl, by decide +kernel, by decide +kernel⟩
theorem scReached : FnScope ["net"] ["net"] (defScope sReached) := ⟨rfl, rfl, rfl, by decide +kernel, rfl, by decide +kernel, by decide +kernel⟩
theorem scWayTo : FnScope ["net", "room"] ["net", "room"] (defScope sWayTo) := ⟨rfl, rfl, rfl, by decide +kernel, rfl, by decide +kernel, by decide +kernel⟩
theorem scWayPast : FnScope ["net", "room", "other", "step_before"] ["net", "room", "other"] (defScope sWayPast) := ⟨rfl, rfl, rfl, by decide +kernel, rfl, by decide +kernel, by decide +kernel⟩
theorem scGuarded : FnScope ["net", "room", "step_before"] ["net", "room"] (defScope sGuarded) := ⟨rfl, rfl, rfl, by decide +kernel, rfl, by decide +kernel, by decide +kernel⟩
theorem scGuardsAll : FnScope ["net", "room", "some", "step_before"] ["net", "room", "some"] (defScope sGuardsAll) := ⟨rfl, rfl, rfl, by decide +kernel, rfl, by decide +kernel, by decide +kernel⟩
theorem scGuards : FnScope ["net", "room", "other"] ["net", "room", "other"] (defScope sGuards) := ⟨rfl, rfl, rfl, by decide +kernel, rfl, by decide +kernel, by decide +kernel⟩
theorem scGuardsOf : FnScope ["net", "room"] ["net", "room"] (defScope sGuardsOf) := ⟨rfl, rfl, rfl, by decide +kernel, rfl, by decide +kernel, by decide +kernel⟩
theorem scNearest : FnScope ["net", "room", "row"] ["net", "room"] (defScope sNearest) := ⟨rfl, rfl, rfl, by decide +kernel, rfl, by decide +kernel, by decide +kernel⟩
theorem scFirstDoors : FnScope ["net", "room", "step_before"] ["net", "room"] (defScope sFirstDoors) := ⟨rfl, rfl, rfl, by decide +kernel, rfl, by decide +kernel, by decide +kernel⟩
theorem scBarsOf : FnScope ["net", "room", "bars", "guard", "numbers"] ["net", "room"] (defScope sBarsOf) := ⟨rfl, rfl, rfl, by decide +kernel, rfl, by decide +kernel, by decide +kernel⟩
theorem scCommon : FnScope ["net", "some", "shared"] ["net", "some"] (defScope sCommon) := ⟨rfl, rfl, rfl, by decide +kernel, rfl, by decide +kernel, by decide +kernel⟩
theorem scEdge : FnScope ["net", "room", "inside", "beyond"] ["net", "room"] (defScope sEdge) := ⟨rfl, rfl, rfl, by decide +kernel, rfl, by decide +kernel, by decide +kernel⟩
theorem scJoins : FnScope ["net", "some", "found", "waiting", "room", "further"] ["net", "some"] (defScope sJoins) := ⟨rfl, rfl, rfl, by decide +kernel, rfl, by decide +kernel, by decide +kernel⟩
theorem scIsRoom : FnScope ["rooms", "room"] ["rooms", "room"] (defScope sIsRoom) := ⟨rfl, rfl, rfl, by decide +kernel, rfl, by decide +kernel, by decide +kernel⟩
theorem scCheckNet : FnScope ["rooms", "doors", "start", "end"] ["rooms", "doors"] (defScope sCheckNet) := ⟨rfl, rfl, rfl, by decide +kernel, rfl, by decide +kernel, by decide +kernel⟩
theorem scRoomsLedInto : FnScope ["doors", "room"] ["doors", "room"] (defScope sRoomsLedInto) := ⟨rfl, rfl, rfl, by decide +kernel, rfl, by decide +kernel, by decide +kernel⟩
theorem scRoomsLedFrom : FnScope ["doors", "room"] ["doors", "room"] (defScope sRoomsLedFrom) := ⟨rfl, rfl, rfl, by decide +kernel, rfl, by decide +kernel, by decide +kernel⟩
theorem scNetInit : FnScope ["self", "rooms", "doors"] ["self", "rooms", "doors"] (defScope sNetInit) := ⟨rfl, rfl, rfl, by decide +kernel, rfl, by decide +kernel, by decide +kernel⟩
theorem scNetRooms : FnScope ["self"] ["self"] (defScope sNetRooms) := ⟨rfl, rfl, rfl, by decide +kernel, rfl, by decide +kernel, by decide +kernel⟩
theorem scNetDoors : FnScope ["self"] ["self"] (defScope sNetDoors) := ⟨rfl, rfl, rfl, by decide +kernel, rfl, by decide +kernel, by decide +kernel⟩
theorem scNetLeads : FnScope ["self", "room"] ["self", "room"] (defScope sNetLeads) := ⟨rfl, rfl, rfl, by decide +kernel, rfl, by decide +kernel, by decide +kernel⟩
theorem scNetLed : FnScope ["self", "room"] ["self", "room"] (defScope sNetLed) := ⟨rfl, rfl, rfl, by decide +kernel, rfl, by decide +kernel, by decide +kernel⟩
theorem scNetCheckRoom : FnScope ["self", "room"] ["self", "room"] (defScope sNetCheckRoom) := ⟨rfl, rfl, rfl, by decide +kernel, rfl, by decide +kernel, by decide +kernel⟩
theorem scLawCellAt : FnScope ["script", "k"] ["script", "k"] (defScope sLawCellAt) := ⟨rfl, rfl, rfl, by decide +kernel, rfl, by decide +kernel, by decide +kernel⟩
theorem scLawNet : FnScope ["script", "at", "most", "extra", "many", "pairs", "k", "cell"] ["script", "at", "most", "extra"] (defScope sLawNet) := ⟨rfl, rfl, rfl, by decide +kernel, rfl, by decide +kernel, by decide +kernel⟩
theorem scLawAsked : FnScope ["net", "way", "room", "some"] ["net", "way", "room", "some"] (defScope sLawAsked) := ⟨rfl, rfl, rfl, by decide +kernel, rfl, by decide +kernel, by decide +kernel⟩
theorem scLawNoRoom : FnScope ["net", "way", "room"] ["net", "way", "room"] (defScope sLawNoRoom) := ⟨rfl, rfl, rfl, by decide +kernel, rfl, by decide +kernel, by decide +kernel⟩
theorem scLawWhich : FnScope ["e"] ["e"] (defScope sLawWhich) := ⟨rfl, rfl, rfl, by decide +kernel, rfl, by decide +kernel, by decide +kernel⟩
theorem scLawTold : FnScope ["net", "way", "kind", "room", "some", "told", "e"] ["net", "way", "kind", "room", "some"] (defScope sLawTold) := ⟨rfl, rfl, rfl, by decide +kernel, rfl, by decide +kernel, by decide +kernel⟩
theorem scLaw : FnScope ["script", "drawn", "many", "pairs", "net", "far", "gone", "way", "kind", "room", "some", "found"] ["script"] (defScope sLaw) := ⟨rfl, rfl, rfl, by decide +kernel, rfl, by decide +kernel, by decide +kernel⟩
structure Ad where
  C : Addr
  f_steps_past : Addr
  d_steps_past : FuncData
  f_trace_way : Addr
  d_trace_way : FuncData
  f_check_all_reached : Addr
  d_check_all_reached : FuncData
  f_check_reached : Addr
  d_check_reached : FuncData
  f_reached : Addr
  d_reached : FuncData
  f_way_to : Addr
  d_way_to : FuncData
  f_way_past : Addr
  d_way_past : FuncData
  f_guarded : Addr
  d_guarded : FuncData
  f_guards_all : Addr
  d_guards_all : FuncData
  f_guards : Addr
  d_guards : FuncData
  f_guards_of : Addr
  d_guards_of : FuncData
  f_nearest : Addr
  d_nearest : FuncData
  f_first_doors : Addr
  d_first_doors : FuncData
  f_bars_of : Addr
  d_bars_of : FuncData
  f_common : Addr
  d_common : FuncData
  f_edge : Addr
  d_edge : FuncData
  f_joins : Addr
  d_joins : FuncData
  f_is_room : Addr
  d_is_room : FuncData
  f_check_net : Addr
  d_check_net : FuncData
  f_rooms_led_into : Addr
  d_rooms_led_into : FuncData
  f_rooms_led_from : Addr
  d_rooms_led_from : FuncData
  f_Net_init : Addr
  d_Net_init : FuncData
  f_Net_rooms : Addr
  d_Net_rooms : FuncData
  f_Net_doors : Addr
  d_Net_doors : FuncData
  f_Net_leads : Addr
  d_Net_leads : FuncData
  f_Net_led : Addr
  d_Net_led : FuncData
  f_Net_check_room : Addr
  d_Net_check_room : FuncData
  f_law_cell_at : Addr
  d_law_cell_at : FuncData
  f_law_net : Addr
  d_law_net : FuncData
  f_law_asked : Addr
  d_law_asked : FuncData
  f_law_no_room : Addr
  d_law_no_room : FuncData
  f_law_which : Addr
  d_law_which : FuncData
  f_law_told : Addr
  d_law_told : FuncData
  f_law : Addr
  d_law : FuncData
  x : XA
structure Txt (K : PySem.W.Frag) (mg : Str → Option Value) (ad : Ad) : Prop where
  gen : TG K ad.C
  mC : mg "Net" = some (.ref ad.C)
  mkr : Mk K ad.C ad.f_Net_init
  d_steps_past : GF K mg "steps_past" "steps_past" sStepsPast ["net", "closed"] ad.f_steps_past ad.d_steps_past
  d_trace_way : GF K mg "trace_way" "trace_way" sTraceWay ["step_before", "room"] ad.f_trace_way ad.d_trace_way
  d_check_all_reached : GF K mg "check_all_reached" "check_all_reached" sCheckAllReached ["net", "some"] ad.f_check_all_reached ad.d_check_all_reached
  d_check_reached : GF K mg "check_reached" "check_reached" sCheckReached ["net", "room"] ad.f_check_reached ad.d_check_reached
  d_reached : GF K mg "reached" "reached" sReached ["net"] ad.f_reached ad.d_reached
  d_way_to : GF K mg "way_to" "way_to" sWayTo ["net", "room"] ad.f_way_to ad.d_way_to
  d_way_past : GF K mg "way_past" "way_past" sWayPast ["net", "room", "other"] ad.f_way_past ad.d_way_past
  d_guarded : GF K mg "guarded" "guarded" sGuarded ["net", "room"] ad.f_guarded ad.d_guarded
  d_guards_all : GF K mg "guards_all" "guards_all" sGuardsAll ["net", "room", "some"] ad.f_guards_all ad.d_guards_all
  d_guards : GF K mg "guards" "guards" sGuards ["net", "room", "other"] ad.f_guards ad.d_guards
  d_guards_of : GF K mg "guards_of" "guards_of" sGuardsOf ["net", "room"] ad.f_guards_of ad.d_guards_of
  d_nearest : GF K mg "nearest" "nearest" sNearest ["net", "room"] ad.f_nearest ad.d_nearest
  d_first_doors : GF K mg "first_doors" "first_doors" sFirstDoors ["net", "room"] ad.f_first_doors ad.d_first_doors
  d_bars_of : GF K mg "bars_of" "bars_of" sBarsOf ["net", "room"] ad.f_bars_of ad.d_bars_of
  d_common : GF K mg "common" "common" sCommon ["net", "some"] ad.f_common ad.d_common
  d_edge : GF K mg "edge" "edge" sEdge ["net", "room"] ad.f_edge ad.d_edge
  d_joins : GF K mg "joins" "joins" sJoins ["net", "some"] ad.f_joins ad.d_joins
  d_is_room : GF K mg "is_room" "is_room" sIsRoom ["rooms", "room"] ad.f_is_room ad.d_is_room
  d_check_net : GF K mg "check_net" "check_net" sCheckNet ["rooms", "doors"] ad.f_check_net ad.d_check_net
  d_rooms_led_into : GF K mg "rooms_led_into" "rooms_led_into" sRoomsLedInto ["doors", "room"] ad.f_rooms_led_into ad.d_rooms_led_into
  d_rooms_led_from : GF K mg "rooms_led_from" "rooms_led_from" sRoomsLedFrom ["doors", "room"] ad.f_rooms_led_from ad.d_rooms_led_from
  d_Net_init : MF K ad.C "__init__" "Net.__init__" sNetInit ["self", "rooms", "doors"] ad.f_Net_init ad.d_Net_init
  d_Net_rooms : MF K ad.C "rooms" "Net.rooms" sNetRooms ["self"] ad.f_Net_rooms ad.d_Net_rooms
  d_Net_doors : MF K ad.C "doors" "Net.doors" sNetDoors ["self"] ad.f_Net_doors ad.d_Net_doors
  d_Net_leads : MF K ad.C "leads" "Net.leads" sNetLeads ["self", "room"] ad.f_Net_leads ad.d_Net_leads
  d_Net_led : MF K ad.C "led" "Net.led" sNetLed ["self", "room"] ad.f_Net_led ad.d_Net_led
  d_Net_check_room : MF K ad.C "check_room" "Net.check_room" sNetCheckRoom ["self", "room"] ad.f_Net_check_room ad.d_Net_check_room
  d_law_cell_at : GF K mg "_law_cell_at" "_law_cell_at" sLawCellAt ["script", "k"] ad.f_law_cell_at ad.d_law_cell_at
  d_law_net : GF K mg "_law_net" "_law_net" sLawNet ["script", "at", "most", "extra"] ad.f_law_net ad.d_law_net
  d_law_asked : GF K mg "_law_asked" "_law_asked" sLawAsked ["net", "way", "room", "some"] ad.f_law_asked ad.d_law_asked
  d_law_no_room : GF K mg "_law_no_room" "_law_no_room" sLawNoRoom ["net", "way", "room"] ad.f_law_no_room ad.d_law_no_room
  d_law_which : GF K mg "_law_which" "_law_which" sLawWhich ["e"] ad.f_law_which ad.d_law_which
  d_law_told : GF K mg "_law_told" "_law_told" sLawTold ["net", "way", "kind", "room", "some"] ad.f_law_told ad.d_law_told
  d_law : GF K mg "law" "law" sLaw ["script"] ad.f_law ad.d_law
  tx : TXB K ad.x
  x_PassError : XCls K mg "PassError" ad.x.PassError
  x_NoNet : XCls K mg "NoNet" ad.x.NoNet
  x_NoRoom : XCls K mg "NoRoom" ad.x.NoRoom
  x_Unreached : XCls K mg "Unreached" ad.x.Unreached
  b_len : mg "len" = none
  b_range : mg "range" = none
  b_sorted : mg "sorted" = none
  b_set : mg "set" = none
  b_isinstance : mg "isinstance" = none
  b_list : mg "list" = none
  b_max : mg "max" = none
  b_enumerate : mg "enumerate" = none
  b_any : mg "any" = none
  b_ValueError : mg "ValueError" = none
  g_ENTRANCE : ∃ t, mg "ENTRANCE" = some (.int 0 t)
  g_MOST_ROOMS : ∃ t, mg "MOST_ROOMS" = some (.int 40 t)
  g_MOST_DOORS : ∃ t, mg "MOST_DOORS" = some (.int 100 t)
theorem Txt.cl {K : PySem.W.Frag} {mg : Str → Option Value} {ad : Ad} (T : Txt K mg ad) : Cls K ad.C := T.gen.cl
theorem ok_trace_way {P : Program} {w : World} {K : PySem.W.Frag} {mg : Str → Option Value} {base : Heap} {ad : Ad} (T : Txt K mg ad) : FnOk P w K mg base CX0 1 ad.f_trace_way ad.d_trace_way ["step_before", "room"] (sp_trace_way K ad.C) :=
  T.d_trace_way.fn.ok scTraceWay (fun vs H Q E h => ln_trace_way h) fun cdv A outer s H vs Q E hr h => ⟨tr_trace_way w K ad.C,
    (pss_cons (ps_set (i := 2) scTraceWay.nd rfl (Or.inl rfl) (pe_lst pa_nil))
      (pss_cons (ps_set (i := 3) scTraceWay.nd rfl (Or.inl rfl) (pv 1))
      (pss_cons (ps_while PassesOwn.never (pt_cmp (pc_notN (pv 3))) (pss_cons (ps_expr (pe_bm PySem.F.plainAttrs_list PySem.F.slot_list_append PySem.F.type_list_append mt_append (pv 2) (pa_cons (pv 3) pa_nil)))
        (pss_one (ps_set (i := 3) scTraceWay.nd rfl (Or.inl rfl) (pe_dget (hu_of hr) (pv 0) (pv 3) (fun _ _ => rfl))))))
      (pss_cons (ps_expr (pe_bm0 PySem.F.plainAttrs_list PySem.F.slot_list_reverse PySem.F.type_list_reverse mt_reverse (pv 2)))
      (pss_one (ps_ret (pv 2))))))), rd_trace_way T.gen h⟩
theorem ok_is_room {P : Program} {w : World} {K : PySem.W.Frag} {mg : Str → Option Value} {base : Heap} {ad : Ad} (T : Txt K mg ad) : FnOk P w K mg base CX0 1 ad.f_is_room ad.d_is_room ["rooms", "room"] (sp_is_room K ad.C) :=
  T.d_is_room.fn.ok scIsRoom (fun vs H Q E h => ln_is_room h) fun cdv A outer s H vs Q E hr h => ⟨tr_is_room w K ad.C,
    (pss_one (ps_ret (pe_chain op_le op_lt pe_int (pv 1) (pv 0)))), rd_is_room T.gen h⟩
theorem ok_rooms_led_into {P : Program} {w : World} {K : PySem.W.Frag} {mg : Str → Option Value} {base : Heap} {ad : Ad} (T : Txt K mg ad) : FnOk P w K mg base CX0 1 ad.f_rooms_led_into ad.d_rooms_led_into ["doors", "room"] (sp_rooms_led_into K ad.C) :=
  T.d_rooms_led_into.fn.ok scRoomsLedInto (fun vs H Q E h => ln_rooms_led_into h) fun cdv A outer s H vs Q E hr h => ⟨tr_rooms_led_into w K ad.C,
    (pss_one (ps_ret (pe_callB (call_sortedA rfl) (by rfl) T.b_sorted b_sorted (pa_cons (pe_callTy (call_setL rfl) (by rfl) T.b_set b_set (pa_cons (pe_comp (N := ["start", "end", "room"]) (vs := 2) (is := [1]) (g := (gTup K 2 (gCons (gName 0) (gCons (gName 1) gNil)))) (tt := (tTest (tOp rEq (tVar 0) (tVar 2)))) (te := (tVar 1)) rfl (comp_ok (by rfl) (by rfl) (by rfl) (by rfl) (by rfl)) (pi_list (pv 0)) (fun pins C fp s H => (pg_tup rfl (pgs_cons (pg_name (i := 0) (show (["start", "end", "room"] : List Str).Nodup by decide +kernel) rfl (Or.inl rfl) (Or.inr rfl)) (pgs_cons (pg_name (i := 1) (show (["start", "end", "room"] : List Str).Nodup by decide +kernel) rfl (Or.inl rfl) (Or.inr rfl)) pgs_nil)))) (fun pins C fp s H => (pts_one (pt_cmpR op_eq (pv 0) (pv 2) (nomark _)))) (fun pins C fp s H => (pv 1))) pa_nil)) pa_nil)))), rd_rooms_led_into T.gen h⟩
theorem ok_rooms_led_from {P : Program} {w : World} {K : PySem.W.Frag} {mg : Str → Option Value} {base : Heap} {ad : Ad} (T : Txt K mg ad) : FnOk P w K mg base CX0 1 ad.f_rooms_led_from ad.d_rooms_led_from ["doors", "room"] (sp_rooms_led_from K ad.C) :=
  T.d_rooms_led_from.fn.ok scRoomsLedFrom (fun vs H Q E h => ln_rooms_led_from h) fun cdv A outer s H vs Q E hr h => ⟨tr_rooms_led_from w K ad.C,
    (pss_one (ps_ret (pe_callB (call_sortedA rfl) (by rfl) T.b_sorted b_sorted (pa_cons (pe_callTy (call_setL rfl) (by rfl) T.b_set b_set (pa_cons (pe_comp (N := ["start", "end", "room"]) (vs := 2) (is := [1]) (g := (gTup K 2 (gCons (gName 0) (gCons (gName 1) gNil)))) (tt := (tTest (tOp rEq (tVar 1) (tVar 2)))) (te := (tVar 0)) rfl (comp_ok (by rfl) (by rfl) (by rfl) (by rfl) (by rfl)) (pi_list (pv 0)) (fun pins C fp s H => (pg_tup rfl (pgs_cons (pg_name (i := 0) (show (["start", "end", "room"] : List Str).Nodup by decide +kernel) rfl (Or.inl rfl) (Or.inr rfl)) (pgs_cons (pg_name (i := 1) (show (["start", "end", "room"] : List Str).Nodup by decide +kernel) rfl (Or.inl rfl) (Or.inr rfl)) pgs_nil)))) (fun pins C fp s H => (pts_one (pt_cmpR op_eq (pv 1) (pv 2) (nomark _)))) (fun pins C fp s H => (pv 0))) pa_nil)) pa_nil)))), rd_rooms_led_from T.gen h⟩
theorem ok_Net_rooms {P : Program} {w : World} {K : PySem.W.Frag} {mg : Str → Option Value} {base : Heap} {ad : Ad} (T : Txt K mg ad) : FnOk P w K mg base CX0 1 ad.f_Net_rooms ad.d_Net_rooms ["self"] (sp_Net_rooms K ad.C) :=
  T.d_Net_rooms.fn.ok scNetRooms (fun vs H Q E h => ln_Net_rooms h) fun cdv A outer s H vs Q E hr h => ⟨tr_Net_rooms w K ad.C,
    (pss_one (ps_ret (pe_fld (pv 0) rfl))), rd_Net_rooms T.gen h⟩
theorem ok_Net_doors {P : Program} {w : World} {K : PySem.W.Frag} {mg : Str → Option Value} {base : Heap} {ad : Ad} (T : Txt K mg ad) : FnOk P w K mg base CX0 1 ad.f_Net_doors ad.d_Net_doors ["self"] (sp_Net_doors K ad.C) :=
  T.d_Net_doors.fn.ok scNetDoors (fun vs H Q E h => ln_Net_doors h) fun cdv A outer s H vs Q E hr h => ⟨tr_Net_doors w K ad.C,
    (pss_one (ps_ret (pe_callTy call_list_of (by rfl) T.b_list b_list (pa_cons (pe_fld (pv 0) rfl) pa_nil)))), rd_Net_doors T.gen h⟩
theorem ok_law_cell_at {P : Program} {w : World} {K : PySem.W.Frag} {mg : Str → Option Value} {base : Heap} {ad : Ad} (T : Txt K mg ad) : FnOk P w K mg base CX0 1 ad.f_law_cell_at ad.d_law_cell_at ["script", "k"] (sp_law_cell_at K ad.C) :=
  T.d_law_cell_at.fn.ok scLawCellAt (fun vs H Q E h => ln_law_cell_at h) fun cdv A outer s H vs Q E hr h => ⟨tr_law_cell_at w K ad.C,
    (pss_cons (ps_if (pt_cmpR op_lt (pv 1) (pe_callB call_len_seq (by rfl) T.b_len b_len (pa_cons (pv 0) pa_nil)) (nomark _)) (pss_one (ps_ret (pe_ix ix_list (pv 0) (pv 1) (fun _ _ => rfl)))) pss_nil)
      (pss_one (ps_ret pe_int))), rd_law_cell_at T.gen h⟩
theorem okH_law_which {P : Program} {w : World} {K : PySem.W.Frag} {mg : Str → Option Value} {base : Heap} {ad : Ad} (T : Txt K mg ad) : FnOkH P w K mg base 1 ad.f_law_which ad.d_law_which ["e"] (sp_law_which K ad.C) :=
  T.d_law_which.fn.okH scLawWhich (fun vs H Q E h => ln_law_which h) fun cdv A ea outer s H vs Q E hr h => ⟨tr_law_which w K ad.C ad.x,
    (pss_one (ps_ret (pe_lst (pa_cons (pe_callB call_isx (by rfl) T.b_isinstance b_isinstance (pa_cons (pv 0) (pa_cons (pe_glob (v := .ref ad.x.NoNet) rfl T.x_NoNet.mg rfl) pa_nil))) (pa_cons (pe_callB call_isx (by rfl) T.b_isinstance b_isinstance (pa_cons (pv 0) (pa_cons (pe_glob (v := .ref ad.x.NoRoom) rfl T.x_NoRoom.mg rfl) pa_nil))) (pa_cons (pe_callB call_isx (by rfl) T.b_isinstance b_isinstance (pa_cons (pv 0) (pa_cons (pe_glob (v := .ref ad.x.Unreached) rfl T.x_Unreached.mg rfl) pa_nil))) (pa_cons (pe_callB call_isx (by rfl) T.b_isinstance b_isinstance (pa_cons (pv 0) (pa_cons (pe_bltn (v := .ty "ValueError") rfl T.b_ValueError b_ValueError rfl) pa_nil))) pa_nil))))))), rd_law_which T.tx T.gen h⟩
theorem ok_check_net {P : Program} {w : World} {K : PySem.W.Frag} {mg : Str → Option Value} {base : Heap} {ad : Ad} (T : Txt K mg ad) : FnOk P w K mg base CX0 2 ad.f_check_net ad.d_check_net ["rooms", "doors"] (sp_check_net K ad.C) :=
  T.d_check_net.fn.ok scCheckNet (fun vs H Q E h => ln_check_net h) fun cdv A outer s H vs Q E hr h => ⟨tr_check_net w K ad.C,
    (pss_cons (ps_if (PW.pt (pw_or (pt_cmpR op_lt (pv 0) pe_int (nomark _)) (pw_or1 (pt_cmpR op_gt (pv 0) (pe_glob (v := .int 40) rfl T.g_MOST_ROOMS.choose_spec ⟨_, rfl⟩) (nomark _))))) pss_never pss_nil)
      (pss_cons (ps_if (pt_cmpR op_gt (pe_callB call_len_seq (by rfl) T.b_len b_len (pa_cons (pv 1) pa_nil)) (pe_glob (v := .int 100) rfl T.g_MOST_DOORS.choose_spec ⟨_, rfl⟩) (nomark _)) pss_never pss_nil)
      (pss_one (ps_for PassesOwn.never rfl (pi_list (pv 1)) (pg_tup rfl (pgs_cons (pg_name (i := 2) scCheckNet.nd rfl (Or.inl rfl)) (pgs_cons (pg_name (i := 3) scCheckNet.nd rfl (Or.inl rfl)) pgs_nil)))
        (pss_one (ps_if (PW.pt (pw_or (pt_not (pt_val (pe_call (ok_is_room T) (hr.mono (by decide)) rfl T.d_is_room.mg T.d_is_room.fn.kp T.d_is_room.bd .nil pass0 (pa_cons (pv 0) (pa_cons (pv 2) pa_nil))))) (pw_or1 (pt_not (pt_val (pe_call (ok_is_room T) (hr.mono (by decide)) rfl T.d_is_room.mg T.d_is_room.fn.kp T.d_is_room.bd .nil pass0 (pa_cons (pv 0) (pa_cons (pv 3) pa_nil)))))))) pss_never pss_nil)))))), rd_check_net T.gen h⟩
theorem ok_Net_check_room {P : Program} {w : World} {K : PySem.W.Frag} {mg : Str → Option Value} {base : Heap} {ad : Ad} (T : Txt K mg ad) : FnOk P w K mg base CX0 2 ad.f_Net_check_room ad.d_Net_check_room ["self", "room"] (sp_Net_check_room K ad.C) :=
  T.d_Net_check_room.fn.ok scNetCheckRoom (fun vs H Q E h => ln_Net_check_room h) fun cdv A outer s H vs Q E hr h => ⟨tr_Net_check_room w K ad.C,
    (pss_one (ps_if (pt_not (pt_val (pe_call (ok_is_room T) (hr.mono (by decide)) rfl T.d_is_room.mg T.d_is_room.fn.kp T.d_is_room.bd .nil pass0 (pa_cons (pe_fld (pv 0) rfl) (pa_cons (pv 1) pa_nil))))) pss_never pss_nil)), rd_Net_check_room T.gen h⟩
theorem okx_Net_check_room {P : Program} {w : World} {K : PySem.W.Frag} {mg : Str → Option Value} {base : Heap} {ad : Ad} (T : Txt K mg ad) : FnOk P w K mg base (CX1 P w base) 2 ad.f_Net_check_room ad.d_Net_check_room ["self", "room"] (spx_Net_check_room K ad.C ad.x) :=
  T.d_Net_check_room.fn.okx scNetCheckRoom (fun vs H Q E h => lnx_Net_check_room h) fun cdv A outer s H vs Q E hr h => ⟨trx_Net_check_room w K ad.C ad.x E,
    (pss_one (ps_if (pt_not (pt_val (pe_call (ok_is_room T) (hr.mono (by decide)) rfl T.d_is_room.mg T.d_is_room.fn.kp T.d_is_room.bd .nil pass0 (pa_cons (pe_fld (pv 0) rfl) (pa_cons (pv 1) pa_nil))))) (pss_one (ps_raise T.x_NoRoom rfl (pa_cons pe_str pa_nil))) pss_nil)), rdx_Net_check_room T.gen h⟩
theorem oko_Net_check_room {P : Program} {w : World} {K : PySem.W.Frag} {mg : Str → Option Value} {base : Heap} {ad : Ad} (T : Txt K mg ad) : FnOk P w K mg base (CX1 P w base) 2 ad.f_Net_check_room ad.d_Net_check_room ["self", "room"] (spo_Net_check_room K ad.C ad.x) := (ok_Net_check_room T).up.or (okx_Net_check_room T)
theorem ok_law_net {P : Program} {w : World} {K : PySem.W.Frag} {mg : Str → Option Value} {base : Heap} {ad : Ad} (T : Txt K mg ad) : FnOk P w K mg base CX0 2 ad.f_law_net ad.d_law_net ["script", "at", "most", "extra"] (sp_law_net K ad.C) :=
  T.d_law_net.fn.ok scLawNet (fun vs H Q E h => ln_law_net h) fun cdv A outer s H vs Q E hr h => ⟨tr_law_net w K ad.C,
    (pss_cons (ps_set (i := 4) scLawNet.nd rfl (Or.inl rfl) (pe_op op_add pe_int (pe_op op_mod (pe_call (ok_law_cell_at T) (hr.mono (by decide)) rfl T.d_law_cell_at.mg T.d_law_cell_at.fn.kp T.d_law_cell_at.bd .nil pass0 (pa_cons (pv 0) (pa_cons (pv 1) pa_nil))) (pv 2))))
      (pss_cons (ps_set (i := 5) scLawNet.nd rfl (Or.inl rfl) (pe_lst pa_nil))
      (pss_cons (ps_for PassesOwn.never rfl (pi_range1 rfl T.b_range (pa_cons (pe_op op_mod (pe_op op_fdiv (pe_call (ok_law_cell_at T) (hr.mono (by decide)) rfl T.d_law_cell_at.mg T.d_law_cell_at.fn.kp T.d_law_cell_at.bd .nil pass0 (pa_cons (pv 0) (pa_cons (pv 1) pa_nil))) (pv 2)) (pe_op op_add (pv 3) pe_int)) pa_nil)) (pg_name (i := 6) scLawNet.nd rfl (Or.inl rfl))
        (pss_cons (ps_set (i := 7) scLawNet.nd rfl (Or.inl rfl) (pe_call (ok_law_cell_at T) (hr.mono (by decide)) rfl T.d_law_cell_at.mg T.d_law_cell_at.fn.kp T.d_law_cell_at.bd .nil pass0 (pa_cons (pv 0) (pa_cons (pe_op op_add (pe_op op_add (pv 1) pe_int) (pv 6)) pa_nil))))
        (pss_one (ps_expr (pe_bm PySem.F.plainAttrs_list PySem.F.slot_list_append PySem.F.type_list_append mt_append (pv 5) (pa_cons (pe_tup (pa_cons (pe_op op_mod (pv 7) (pv 4)) (pa_cons (pe_op op_mod (pe_op op_fdiv (pv 7) (pv 4)) (pv 4)) pa_nil))) pa_nil))))))
      (pss_one (ps_ret (pe_tup (pa_cons (pv 4) (pa_cons (pv 5) pa_nil)))))))), rd_law_net T.gen h⟩
theorem ok_Net_init {P : Program} {w : World} {K : PySem.W.Frag} {mg : Str → Option Value} {base : Heap} {ad : Ad} (T : Txt K mg ad) : FnOk P w K mg base CX0 3 ad.f_Net_init ad.d_Net_init ["self", "rooms", "doors"] (sp_Net_init K ad.C) :=
  T.d_Net_init.fn.ok scNetInit (fun vs H Q E h => ln_Net_init h) fun cdv A outer s H vs Q E hr h => ⟨tr_Net_init w K ad.C,
    (pss_cons (ps_expr (pe_call (ok_check_net T) (hr.mono (by decide)) rfl T.d_check_net.mg T.d_check_net.fn.kp T.d_check_net.bd .nil pass0 (pa_cons (pv 1) (pa_cons (pv 2) pa_nil))))
      (pss_cons (ps_fld (pv 0) (pv 1) rfl)
      (pss_cons (ps_fld (pv 0) (pe_comp (N := ["start", "end"]) (vs := 2) (is := []) (g := (gTup K 2 (gCons (gName 0) (gCons (gName 1) gNil)))) (tt := tYes) (te := (tTup (tCons (tVar 0) (tCons (tVar 1) tNil)))) rfl (comp_ok (by rfl) (by rfl) (by rfl) (by rfl) (by rfl)) (pi_list (pv 2)) (fun pins C fp s H => (pg_tup rfl (pgs_cons (pg_name (i := 0) (show (["start", "end"] : List Str).Nodup by decide +kernel) rfl (Or.inl rfl) (Or.inr rfl)) (pgs_cons (pg_name (i := 1) (show (["start", "end"] : List Str).Nodup by decide +kernel) rfl (Or.inl rfl) (Or.inr rfl)) pgs_nil)))) (fun pins C fp s H => pts_nil) (fun pins C fp s H => (pe_tup (pa_cons (pv 0) (pa_cons (pv 1) pa_nil))))) rfl)
      (pss_cons (ps_fld (pv 0) (pe_comp (N := ["room", "self"]) (vs := 1) (is := [0]) (g := (gName 0)) (tt := tYes) (te := (tCall (sp_rooms_led_into K ad.C) [] E0 (tCons (tFld K (tVar 1) "pairs") (tCons (tVar 0) tNil)))) rfl (comp_ok (by rfl) (by rfl) (by rfl) (by rfl) (by rfl)) (pi_range1 rfl T.b_range (pa_cons (pv 1) pa_nil)) (fun pins C fp s H => (pg_name (i := 0) (show (["room", "self"] : List Str).Nodup by decide +kernel) rfl (Or.inl rfl) (Or.inr rfl))) (fun pins C fp s H => pts_nil) (fun pins C fp s H => (pe_call (ok_rooms_led_into T) (hr.mono (by decide)) rfl T.d_rooms_led_into.mg T.d_rooms_led_into.fn.kp T.d_rooms_led_into.bd .nil pass0 (pa_cons (pe_fld (pv 1) rfl) (pa_cons (pv 0) pa_nil))))) rfl)
      (pss_one (ps_fld (pv 0) (pe_comp (N := ["room", "self"]) (vs := 1) (is := [0]) (g := (gName 0)) (tt := tYes) (te := (tCall (sp_rooms_led_from K ad.C) [] E0 (tCons (tFld K (tVar 1) "pairs") (tCons (tVar 0) tNil)))) rfl (comp_ok (by rfl) (by rfl) (by rfl) (by rfl) (by rfl)) (pi_range1 rfl T.b_range (pa_cons (pv 1) pa_nil)) (fun pins C fp s H => (pg_name (i := 0) (show (["room", "self"] : List Str).Nodup by decide +kernel) rfl (Or.inl rfl) (Or.inr rfl))) (fun pins C fp s H => pts_nil) (fun pins C fp s H => (pe_call (ok_rooms_led_from T) (hr.mono (by decide)) rfl T.d_rooms_led_from.mg T.d_rooms_led_from.fn.kp T.d_rooms_led_from.bd .nil pass0 (pa_cons (pe_fld (pv 1) rfl) (pa_cons (pv 0) pa_nil))))) rfl)))))), rd_Net_init T.gen h⟩
theorem ok_Net_leads {P : Program} {w : World} {K : PySem.W.Frag} {mg : Str → Option Value} {base : Heap} {ad : Ad} (T : Txt K mg ad) : FnOk P w K mg base CX0 3 ad.f_Net_leads ad.d_Net_leads ["self", "room"] (sp_Net_leads K ad.C) :=
  T.d_Net_leads.fn.ok scNetLeads (fun vs H Q E h => ln_Net_leads h) fun cdv A outer s H vs Q E hr h => ⟨tr_Net_leads w K ad.C,
    (pss_cons (ps_expr (pe_meth (pv 0) T.cl T.d_Net_check_room.mt (ok_Net_check_room T) (hr.mono (by decide)) T.d_Net_check_room.bd .nil pass0 (pa_cons (pv 1) pa_nil)))
      (pss_one (ps_ret (pe_callTy call_list_of (by rfl) T.b_list b_list (pa_cons (pe_ix ix_list (pe_fld (pv 0) rfl) (pv 1) (fun _ _ => rfl)) pa_nil))))), rd_Net_leads T.gen h⟩
theorem okx_Net_leads {P : Program} {w : World} {K : PySem.W.Frag} {mg : Str → Option Value} {base : Heap} {ad : Ad} (T : Txt K mg ad) : FnOk P w K mg base (CX1 P w base) 3 ad.f_Net_leads ad.d_Net_leads ["self", "room"] (spx_Net_leads K ad.C ad.x) :=
  T.d_Net_leads.fn.okx scNetLeads (fun vs H Q E h => lnx_Net_leads h) fun cdv A outer s H vs Q E hr h => ⟨trx_Net_leads w K ad.C ad.x E,
    (pss_cons (ps_expr (pe_meth (pv 0) T.cl T.d_Net_check_room.mt (oko_Net_check_room T) (hr.mono (by decide)) T.d_Net_check_room.bd .nil pass1 (pa_cons (pv 1) pa_nil)))
      (pss_one (ps_ret (pe_callTy call_list_of (by rfl) T.b_list b_list (pa_cons (pe_ix ix_list (pe_fld (pv 0) rfl) (pv 1) (fun _ _ => rfl)) pa_nil))))), rdx_Net_leads T.gen h⟩
theorem oko_Net_leads {P : Program} {w : World} {K : PySem.W.Frag} {mg : Str → Option Value} {base : Heap} {ad : Ad} (T : Txt K mg ad) : FnOk P w K mg base (CX1 P w base) 3 ad.f_Net_leads ad.d_Net_leads ["self", "room"] (spo_Net_leads K ad.C ad.x) := (ok_Net_leads T).up.or (okx_Net_leads T)
theorem ok_Net_led {P : Program} {w : World} {K : PySem.W.Frag} {mg : Str → Option Value} {base : Heap} {ad : Ad} (T : Txt K mg ad) : FnOk P w K mg base CX0 3 ad.f_Net_led ad.d_Net_led ["self", "room"] (sp_Net_led K ad.C) :=
  T.d_Net_led.fn.ok scNetLed (fun vs H Q E h => ln_Net_led h) fun cdv A outer s H vs Q E hr h => ⟨tr_Net_led w K ad.C,
    (pss_cons (ps_expr (pe_meth (pv 0) T.cl T.d_Net_check_room.mt (ok_Net_check_room T) (hr.mono (by decide)) T.d_Net_check_room.bd .nil pass0 (pa_cons (pv 1) pa_nil)))
      (pss_one (ps_ret (pe_callTy call_list_of (by rfl) T.b_list b_list (pa_cons (pe_ix ix_list (pe_fld (pv 0) rfl) (pv 1) (fun _ _ => rfl)) pa_nil))))), rd_Net_led T.gen h⟩
theorem okx_Net_led {P : Program} {w : World} {K : PySem.W.Frag} {mg : Str → Option Value} {base : Heap} {ad : Ad} (T : Txt K mg ad) : FnOk P w K mg base (CX1 P w base) 3 ad.f_Net_led ad.d_Net_led ["self", "room"] (spx_Net_led K ad.C ad.x) :=
  T.d_Net_led.fn.okx scNetLed (fun vs H Q E h => lnx_Net_led h) fun cdv A outer s H vs Q E hr h => ⟨trx_Net_led w K ad.C ad.x E,
    (pss_cons (ps_expr (pe_meth (pv 0) T.cl T.d_Net_check_room.mt (oko_Net_check_room T) (hr.mono (by decide)) T.d_Net_check_room.bd .nil pass1 (pa_cons (pv 1) pa_nil)))
      (pss_one (ps_ret (pe_callTy call_list_of (by rfl) T.b_list b_list (pa_cons (pe_ix ix_list (pe_fld (pv 0) rfl) (pv 1) (fun _ _ => rfl)) pa_nil))))), rdx_Net_led T.gen h⟩
theorem oko_Net_led {P : Program} {w : World} {K : PySem.W.Frag} {mg : Str → Option Value} {base : Heap} {ad : Ad} (T : Txt K mg ad) : FnOk P w K mg base (CX1 P w base) 3 ad.f_Net_led ad.d_Net_led ["self", "room"] (spo_Net_led K ad.C ad.x) := (ok_Net_led T).up.or (okx_Net_led T)
theorem ok_steps_past {P : Program} {w : World} {K : PySem.W.Frag} {mg : Str → Option Value} {base : Heap} {ad : Ad} (T : Txt K mg ad) : FnOk P w K mg base CX0 4 ad.f_steps_past ad.d_steps_past ["net", "closed"] (sp_steps_past K ad.C) :=
  T.d_steps_past.fn.ok scStepsPast (fun vs H Q E h => ln_steps_past h) fun cdv A outer s H vs Q E hr h => ⟨tr_steps_past w K ad.C,
    (pss_cons (ps_if (pt_cmpR op_eq (pv 1) (pe_glob (v := .int 0) rfl T.g_ENTRANCE.choose_spec ⟨_, rfl⟩) (nomark _)) (pss_one (ps_ret pe_dnewK)) pss_nil)
      (pss_cons (ps_set (i := 2) scStepsPast.nd rfl (Or.inl rfl) (pe_disp (pps_cons (pe_glob (v := .int 0) rfl T.g_ENTRANCE.choose_spec ⟨_, rfl⟩) pe_non pps_nil) rfl rfl (by decide) (by decide)))
      (pss_cons (ps_set (i := 3) scStepsPast.nd rfl (Or.inl rfl) (pe_lst (pa_cons (pe_glob (v := .int 0) rfl T.g_ENTRANCE.choose_spec ⟨_, rfl⟩) pa_nil)))
      (pss_cons (ps_while PassesOwn.never (pt_truth (pv 3) (by intro _; rfl)) (pss_cons (ps_set (i := 4) scStepsPast.nd rfl (Or.inl rfl) (pe_bm PySem.F.plainAttrs_list PySem.F.slot_list_pop PySem.F.type_list_pop mt_popAt (pv 3) (pa_cons pe_int pa_nil)))
        (pss_one (ps_for PassesOwn.never rfl (pi_list (pe_meth (pv 0) T.cl T.d_Net_leads.mt (ok_Net_leads T) (hr.mono (by decide)) T.d_Net_leads.bd .nil pass0 (pa_cons (pv 4) pa_nil))) (pg_name (i := 5) scStepsPast.nd rfl (Or.inl rfl))
          (pss_one (ps_if (PW.pt (pw_and (pt_cmpR op_ne (pv 5) (pv 1) (nomark _)) (pw_and1 (pt_cmp (pc_dnotin (hu_of hr) (pv 5) (pv 2)))))) (pss_cons (ps_dput (hu_of hr) (pv 2) (pv 5) (pv 4) rfl)
            (pss_one (ps_expr (pe_bm PySem.F.plainAttrs_list PySem.F.slot_list_append PySem.F.type_list_append mt_append (pv 3) (pa_cons (pv 5) pa_nil))))) pss_nil))))))
      (pss_one (ps_ret (pv 2))))))), rd_steps_past T.gen h⟩
theorem ok_check_all_reached {P : Program} {w : World} {K : PySem.W.Frag} {mg : Str → Option Value} {base : Heap} {ad : Ad} (T : Txt K mg ad) : FnOk P w K mg base CX0 5 ad.f_check_all_reached ad.d_check_all_reached ["net", "some"] (sp_check_all_reached K ad.C) :=
  T.d_check_all_reached.fn.ok scCheckAllReached (fun vs H Q E h => ln_check_all_reached h) fun cdv A outer s H vs Q E hr h => ⟨tr_check_all_reached w K ad.C,
    (pss_cons (ps_for PassesOwn.never rfl (pi_list (pv 1)) (pg_name (i := 2) scCheckAllReached.nd rfl (Or.inl rfl))
        (pss_one (ps_expr (pe_meth (pv 0) T.cl T.d_Net_check_room.mt (ok_Net_check_room T) (hr.mono (by decide)) T.d_Net_check_room.bd .nil pass0 (pa_cons (pv 2) pa_nil)))))
      (pss_cons (ps_set (i := 3) scCheckAllReached.nd rfl (Or.inl rfl) (pe_call (ok_steps_past T) (hr.mono (by decide)) rfl T.d_steps_past.mg T.d_steps_past.fn.kp T.d_steps_past.bd .nil pass0 (pa_cons (pv 0) (pa_cons pe_non pa_nil))))
      (pss_one (ps_for PassesOwn.never rfl (pi_list (pv 1)) (pg_name (i := 2) scCheckAllReached.nd rfl (Or.inl rfl))
        (pss_one (ps_if (pt_cmp (pc_dnotin (hu_of hr) (pv 2) (pv 3))) pss_never pss_nil)))))), rd_check_all_reached T.gen h⟩
theorem okx_check_all_reached {P : Program} {w : World} {K : PySem.W.Frag} {mg : Str → Option Value} {base : Heap} {ad : Ad} (T : Txt K mg ad) : FnOk P w K mg base (CX1 P w base) 5 ad.f_check_all_reached ad.d_check_all_reached ["net", "some"] (spx_check_all_reached K ad.C ad.x) :=
  T.d_check_all_reached.fn.okx scCheckAllReached (fun vs H Q E h => lnx_check_all_reached h) fun cdv A outer s H vs Q E hr h => ⟨trx_check_all_reached w K ad.C ad.x E,
    (pss_cons (PS.xf (ps_for (xf_passes own_cx) rfl (pi_list (pv 1)) (pg_name (i := 2) scCheckAllReached.nd rfl (Or.inl rfl))
        (pss_one (ps_expr (pe_meth (pv 0) T.cl T.d_Net_check_room.mt (oko_Net_check_room T) (hr.mono (by decide)) T.d_Net_check_room.bd .nil (pass_xf own_cx) (pa_cons (pv 2) pa_nil))))))
      (pss_cons (ps_set (i := 3) scCheckAllReached.nd rfl (Or.inl rfl) (pe_call (ok_steps_past T) (hr.mono (by decide)) rfl T.d_steps_past.mg T.d_steps_past.fn.kp T.d_steps_past.bd .nil pass0 (pa_cons (pv 0) (pa_cons pe_non pa_nil))))
      (pss_one (PS.xw (ps_for (xw_passes own_cx) rfl (pi_list (pv 1)) (pg_name (i := 2) scCheckAllReached.nd rfl (Or.inl rfl))
        (pss_one (ps_if (pt_cmp (pc_dnotin (hu_of hr) (pv 2) (pv 3))) (pss_one (ps_raiseT rfl raises_xw T.x_Unreached rfl (pa_cons pe_str pa_nil))) pss_nil))))))), rdx_check_all_reached T.gen h⟩
theorem oko_check_all_reached {P : Program} {w : World} {K : PySem.W.Frag} {mg : Str → Option Value} {base : Heap} {ad : Ad} (T : Txt K mg ad) : FnOk P w K mg base (CX1 P w base) 5 ad.f_check_all_reached ad.d_check_all_reached ["net", "some"] (spo_check_all_reached K ad.C ad.x) := (ok_check_all_reached T).up.or (okx_check_all_reached T)
theorem ok_reached {P : Program} {w : World} {K : PySem.W.Frag} {mg : Str → Option Value} {base : Heap} {ad : Ad} (T : Txt K mg ad) : FnOk P w K mg base CX0 5 ad.f_reached ad.d_reached ["net"] (sp_reached K ad.C) :=
  T.d_reached.fn.ok scReached (fun vs H Q E h => ln_reached h) fun cdv A outer s H vs Q E hr h => ⟨tr_reached w K ad.C,
    (pss_one (ps_ret (pe_callB (call_sortedD rfl) (by rfl) T.b_sorted b_sorted (pa_cons (pe_call (ok_steps_past T) (hr.mono (by decide)) rfl T.d_steps_past.mg T.d_steps_past.fn.kp T.d_steps_past.bd .nil pass0 (pa_cons (pv 0) (pa_cons pe_non pa_nil))) pa_nil)))), rd_reached T.gen h⟩
theorem ok_guards_all {P : Program} {w : World} {K : PySem.W.Frag} {mg : Str → Option Value} {base : Heap} {ad : Ad} (T : Txt K mg ad) : FnOk P w K mg base CX0 5 ad.f_guards_all ad.d_guards_all ["net", "room", "some"] (sp_guards_all K ad.C) :=
  T.d_guards_all.fn.ok scGuardsAll (fun vs H Q E h => ln_guards_all h) fun cdv A outer s H vs Q E hr h => ⟨tr_guards_all w K ad.C,
    (pss_cons (ps_set (i := 3) scGuardsAll.nd rfl (Or.inr rfl) (pe_call (ok_steps_past T) (hr.mono (by decide)) rfl T.d_steps_past.mg T.d_steps_past.fn.kp T.d_steps_past.bd .nil pass0 (pa_cons (pv 0) (pa_cons (pv 1) pa_nil))))
      (pss_one (ps_ret (pe_not (pe_callB (call_any rfl) (by rfl) T.b_any b_any (pa_cons (pe_comp (N := ["other", "step_before"]) (vs := 1) (is := [3]) (g := (gName 0)) (tt := tYes) (te := (tDIn (tVar 0) (tVar 1))) rfl (comp_ok (by rfl) (by rfl) (by rfl) (by rfl) (by rfl)) (pi_list (pv 2)) (fun pins C fp s H => (pg_name (i := 0) (show (["other", "step_before"] : List Str).Nodup by decide +kernel) rfl (Or.inl rfl) (Or.inr rfl))) (fun pins C fp s H => pts_nil) (fun pins C fp s H => (pe_cmp (pc_din (hu_of hr) (pv 0) (pv 1))))) pa_nil)))))), rd_guards_all T.gen h⟩
theorem ok_first_doors {P : Program} {w : World} {K : PySem.W.Frag} {mg : Str → Option Value} {base : Heap} {ad : Ad} (T : Txt K mg ad) : FnOk P w K mg base CX0 5 ad.f_first_doors ad.d_first_doors ["net", "room"] (sp_first_doors K ad.C) :=
  T.d_first_doors.fn.ok scFirstDoors (fun vs H Q E h => ln_first_doors h) fun cdv A outer s H vs Q E hr h => ⟨tr_first_doors w K ad.C,
    (pss_cons (ps_set (i := 2) scFirstDoors.nd rfl (Or.inr rfl) (pe_call (ok_steps_past T) (hr.mono (by decide)) rfl T.d_steps_past.mg T.d_steps_past.fn.kp T.d_steps_past.bd .nil pass0 (pa_cons (pv 0) (pa_cons (pv 1) pa_nil))))
      (pss_one (ps_ret (pe_comp (N := ["number", "door", "room", "step_before"]) (vs := 2) (is := [1, 2]) (g := (gTup K 2 (gCons (gName 0) (gCons (gName 1) gNil)))) (tt := (tAnd (tTest (tOp rEq (tOp (rIxT K) (tVar 1) (tC (.int 1))) (tVar 2))) (tB (tDIn (tOp (rIxT K) (tVar 1) (tC (.int 0))) (tVar 3))))) (te := (tVar 0)) rfl (comp_ok (by rfl) (by rfl) (by rfl) (by rfl) (by rfl)) (pi_enum rfl T.b_enumerate (pa_cons (pe_meth0 (pv 0) T.cl T.d_Net_doors.mt (ok_Net_doors T) (hr.mono (by decide)) T.d_Net_doors.bd .nil pass0) pa_nil)) (fun pins C fp s H => (pg_tup rfl (pgs_cons (pg_name (i := 0) (show (["number", "door", "room", "step_before"] : List Str).Nodup by decide +kernel) rfl (Or.inl rfl) (Or.inr rfl)) (pgs_cons (pg_name (i := 1) (show (["number", "door", "room", "step_before"] : List Str).Nodup by decide +kernel) rfl (Or.inl rfl) (Or.inr rfl)) pgs_nil)))) (fun pins C fp s H => (pts_one (PW.pt (pw_and (pt_cmpR op_eq (pe_ix ix_tup (pv 1) pe_int (fun _ _ => rfl)) (pv 2) (nomark _)) (pw_and1 (pt_cmp (pc_din (hu_of hr) (pe_ix ix_tup (pv 1) pe_int (fun _ _ => rfl)) (pv 3)))))))) (fun pins C fp s H => (pv 0)))))), rd_first_doors T.gen h⟩
theorem ok_check_reached {P : Program} {w : World} {K : PySem.W.Frag} {mg : Str → Option Value} {base : Heap} {ad : Ad} (T : Txt K mg ad) : FnOk P w K mg base CX0 6 ad.f_check_reached ad.d_check_reached ["net", "room"] (sp_check_reached K ad.C) :=
  T.d_check_reached.fn.ok scCheckReached (fun vs H Q E h => ln_check_reached h) fun cdv A outer s H vs Q E hr h => ⟨tr_check_reached w K ad.C,
    (pss_one (ps_expr (pe_call (ok_check_all_reached T) (hr.mono (by decide)) rfl T.d_check_all_reached.mg T.d_check_all_reached.fn.kp T.d_check_all_reached.bd .nil pass0 (pa_cons (pv 0) (pa_cons (pe_lst (pa_cons (pv 1) pa_nil)) pa_nil))))), rd_check_reached T.gen h⟩
theorem okx_check_reached {P : Program} {w : World} {K : PySem.W.Frag} {mg : Str → Option Value} {base : Heap} {ad : Ad} (T : Txt K mg ad) : FnOk P w K mg base (CX1 P w base) 6 ad.f_check_reached ad.d_check_reached ["net", "room"] (spx_check_reached K ad.C ad.x) :=
  T.d_check_reached.fn.okx scCheckReached (fun vs H Q E h => lnx_check_reached h) fun cdv A outer s H vs Q E hr h => ⟨trx_check_reached w K ad.C ad.x E,
    (pss_one (ps_expr (pe_call (oko_check_all_reached T) (hr.mono (by decide)) rfl T.d_check_all_reached.mg T.d_check_all_reached.fn.kp T.d_check_all_reached.bd .nil pass1 (pa_cons (pv 0) (pa_cons (pe_lst (pa_cons (pv 1) pa_nil)) pa_nil))))), rdx_check_reached T.gen h⟩
theorem oko_check_reached {P : Program} {w : World} {K : PySem.W.Frag} {mg : Str → Option Value} {base : Heap} {ad : Ad} (T : Txt K mg ad) : FnOk P w K mg base (CX1 P w base) 6 ad.f_check_reached ad.d_check_reached ["net", "room"] (spo_check_reached K ad.C ad.x) := (ok_check_reached T).up.or (okx_check_reached T)
theorem ok_guarded {P : Program} {w : World} {K : PySem.W.Frag} {mg : Str → Option Value} {base : Heap} {ad : Ad} (T : Txt K mg ad) : FnOk P w K mg base CX0 6 ad.f_guarded ad.d_guarded ["net", "room"] (sp_guarded K ad.C) :=
  T.d_guarded.fn.ok scGuarded (fun vs H Q E h => ln_guarded h) fun cdv A outer s H vs Q E hr h => ⟨tr_guarded w K ad.C,
    (pss_cons (ps_set (i := 2) scGuarded.nd rfl (Or.inr rfl) (pe_call (ok_steps_past T) (hr.mono (by decide)) rfl T.d_steps_past.mg T.d_steps_past.fn.kp T.d_steps_past.bd .nil pass0 (pa_cons (pv 0) (pa_cons (pv 1) pa_nil))))
      (pss_one (ps_ret (pe_comp (N := ["other", "step_before"]) (vs := 1) (is := [2]) (g := (gName 0)) (tt := (tB (tDNotIn (tVar 0) (tVar 1)))) (te := (tVar 0)) rfl (comp_ok (by rfl) (by rfl) (by rfl) (by rfl) (by rfl)) (pi_list (pe_call (ok_reached T) (hr.mono (by decide)) rfl T.d_reached.mg T.d_reached.fn.kp T.d_reached.bd .nil pass0 (pa_cons (pv 0) pa_nil))) (fun pins C fp s H => (pg_name (i := 0) (show (["other", "step_before"] : List Str).Nodup by decide +kernel) rfl (Or.inl rfl) (Or.inr rfl))) (fun pins C fp s H => (pts_one (pt_cmp (pc_dnotin (hu_of hr) (pv 0) (pv 1))))) (fun pins C fp s H => (pv 0)))))), rd_guarded T.gen h⟩
theorem ok_way_to {P : Program} {w : World} {K : PySem.W.Frag} {mg : Str → Option Value} {base : Heap} {ad : Ad} (T : Txt K mg ad) : FnOk P w K mg base CX0 7 ad.f_way_to ad.d_way_to ["net", "room"] (sp_way_to K ad.C) :=
  T.d_way_to.fn.ok scWayTo (fun vs H Q E h => ln_way_to h) fun cdv A outer s H vs Q E hr h => ⟨tr_way_to w K ad.C,
    (pss_cons (ps_expr (pe_call (ok_check_reached T) (hr.mono (by decide)) rfl T.d_check_reached.mg T.d_check_reached.fn.kp T.d_check_reached.bd .nil pass0 (pa_cons (pv 0) (pa_cons (pv 1) pa_nil))))
      (pss_one (ps_ret (pe_call (ok_trace_way T) (hr.mono (by decide)) rfl T.d_trace_way.mg T.d_trace_way.fn.kp T.d_trace_way.bd .nil pass0 (pa_cons (pe_call (ok_steps_past T) (hr.mono (by decide)) rfl T.d_steps_past.mg T.d_steps_past.fn.kp T.d_steps_past.bd .nil pass0 (pa_cons (pv 0) (pa_cons pe_non pa_nil))) (pa_cons (pv 1) pa_nil)))))), rd_way_to T.gen h⟩
theorem okx_way_to {P : Program} {w : World} {K : PySem.W.Frag} {mg : Str → Option Value} {base : Heap} {ad : Ad} (T : Txt K mg ad) : FnOk P w K mg base (CX1 P w base) 7 ad.f_way_to ad.d_way_to ["net", "room"] (spx_way_to K ad.C ad.x) :=
  T.d_way_to.fn.okx scWayTo (fun vs H Q E h => lnx_way_to h) fun cdv A outer s H vs Q E hr h => ⟨trx_way_to w K ad.C ad.x E,
    (pss_cons (ps_expr (pe_call (oko_check_reached T) (hr.mono (by decide)) rfl T.d_check_reached.mg T.d_check_reached.fn.kp T.d_check_reached.bd .nil pass1 (pa_cons (pv 0) (pa_cons (pv 1) pa_nil))))
      (pss_one (ps_ret (pe_call (ok_trace_way T) (hr.mono (by decide)) rfl T.d_trace_way.mg T.d_trace_way.fn.kp T.d_trace_way.bd .nil pass0 (pa_cons (pe_call (ok_steps_past T) (hr.mono (by decide)) rfl T.d_steps_past.mg T.d_steps_past.fn.kp T.d_steps_past.bd .nil pass0 (pa_cons (pv 0) (pa_cons pe_non pa_nil))) (pa_cons (pv 1) pa_nil)))))), rdx_way_to T.gen h⟩
theorem oko_way_to {P : Program} {w : World} {K : PySem.W.Frag} {mg : Str → Option Value} {base : Heap} {ad : Ad} (T : Txt K mg ad) : FnOk P w K mg base (CX1 P w base) 7 ad.f_way_to ad.d_way_to ["net", "room"] (spo_way_to K ad.C ad.x) := (ok_way_to T).up.or (okx_way_to T)
theorem ok_way_past {P : Program} {w : World} {K : PySem.W.Frag} {mg : Str → Option Value} {base : Heap} {ad : Ad} (T : Txt K mg ad) : FnOk P w K mg base CX0 7 ad.f_way_past ad.d_way_past ["net", "room", "other"] (sp_way_past K ad.C) :=
  T.d_way_past.fn.ok scWayPast (fun vs H Q E h => ln_way_past h) fun cdv A outer s H vs Q E hr h => ⟨tr_way_past w K ad.C,
    (pss_cons (ps_expr (pe_meth (pv 0) T.cl T.d_Net_check_room.mt (ok_Net_check_room T) (hr.mono (by decide)) T.d_Net_check_room.bd .nil pass0 (pa_cons (pv 2) pa_nil)))
      (pss_cons (ps_expr (pe_call (ok_check_reached T) (hr.mono (by decide)) rfl T.d_check_reached.mg T.d_check_reached.fn.kp T.d_check_reached.bd .nil pass0 (pa_cons (pv 0) (pa_cons (pv 1) pa_nil))))
      (pss_cons (ps_set (i := 3) scWayPast.nd rfl (Or.inl rfl) (pe_call (ok_steps_past T) (hr.mono (by decide)) rfl T.d_steps_past.mg T.d_steps_past.fn.kp T.d_steps_past.bd .nil pass0 (pa_cons (pv 0) (pa_cons (pv 2) pa_nil))))
      (pss_cons (ps_if (pt_cmp (pc_dnotin (hu_of hr) (pv 1) (pv 3))) (pss_one (ps_ret pe_non)) pss_nil)
      (pss_one (ps_ret (pe_call (ok_trace_way T) (hr.mono (by decide)) rfl T.d_trace_way.mg T.d_trace_way.fn.kp T.d_trace_way.bd .nil pass0 (pa_cons (pv 3) (pa_cons (pv 1) pa_nil))))))))), rd_way_past T.gen h⟩
theorem okx_way_past {P : Program} {w : World} {K : PySem.W.Frag} {mg : Str → Option Value} {base : Heap} {ad : Ad} (T : Txt K mg ad) : FnOk P w K mg base (CX1 P w base) 7 ad.f_way_past ad.d_way_past ["net", "room", "other"] (spx_way_past K ad.C ad.x) :=
  T.d_way_past.fn.okx scWayPast (fun vs H Q E h => lnx_way_past h) fun cdv A outer s H vs Q E hr h => ⟨trx_way_past w K ad.C ad.x E,
    (pss_cons (ps_expr (pe_meth (pv 0) T.cl T.d_Net_check_room.mt (oko_Net_check_room T) (hr.mono (by decide)) T.d_Net_check_room.bd .nil pass1 (pa_cons (pv 2) pa_nil)))
      (pss_cons (ps_expr (pe_call (oko_check_reached T) (hr.mono (by decide)) rfl T.d_check_reached.mg T.d_check_reached.fn.kp T.d_check_reached.bd .nil pass1 (pa_cons (pv 0) (pa_cons (pv 1) pa_nil))))
      (pss_cons (ps_set (i := 3) scWayPast.nd rfl (Or.inl rfl) (pe_call (ok_steps_past T) (hr.mono (by decide)) rfl T.d_steps_past.mg T.d_steps_past.fn.kp T.d_steps_past.bd .nil pass0 (pa_cons (pv 0) (pa_cons (pv 2) pa_nil))))
      (pss_cons (ps_if (pt_cmp (pc_dnotin (hu_of hr) (pv 1) (pv 3))) (pss_one (ps_ret pe_non)) pss_nil)
      (pss_one (ps_ret (pe_call (ok_trace_way T) (hr.mono (by decide)) rfl T.d_trace_way.mg T.d_trace_way.fn.kp T.d_trace_way.bd .nil pass0 (pa_cons (pv 3) (pa_cons (pv 1) pa_nil))))))))), rdx_way_past T.gen h⟩
theorem oko_way_past {P : Program} {w : World} {K : PySem.W.Frag} {mg : Str → Option Value} {base : Heap} {ad : Ad} (T : Txt K mg ad) : FnOk P w K mg base (CX1 P w base) 7 ad.f_way_past ad.d_way_past ["net", "room", "other"] (spo_way_past K ad.C ad.x) := (ok_way_past T).up.or (okx_way_past T)
theorem ok_guards {P : Program} {w : World} {K : PySem.W.Frag} {mg : Str → Option Value} {base : Heap} {ad : Ad} (T : Txt K mg ad) : FnOk P w K mg base CX0 7 ad.f_guards ad.d_guards ["net", "room", "other"] (sp_guards K ad.C) :=
  T.d_guards.fn.ok scGuards (fun vs H Q E h => ln_guards h) fun cdv A outer s H vs Q E hr h => ⟨tr_guards w K ad.C,
    (pss_cons (ps_expr (pe_meth (pv 0) T.cl T.d_Net_check_room.mt (ok_Net_check_room T) (hr.mono (by decide)) T.d_Net_check_room.bd .nil pass0 (pa_cons (pv 1) pa_nil)))
      (pss_cons (ps_expr (pe_call (ok_check_reached T) (hr.mono (by decide)) rfl T.d_check_reached.mg T.d_check_reached.fn.kp T.d_check_reached.bd .nil pass0 (pa_cons (pv 0) (pa_cons (pv 2) pa_nil))))
      (pss_one (ps_ret (pe_call (ok_guards_all T) (hr.mono (by decide)) rfl T.d_guards_all.mg T.d_guards_all.fn.kp T.d_guards_all.bd .nil pass0 (pa_cons (pv 0) (pa_cons (pv 1) (pa_cons (pe_lst (pa_cons (pv 2) pa_nil)) pa_nil)))))))), rd_guards T.gen h⟩
theorem okx_guards {P : Program} {w : World} {K : PySem.W.Frag} {mg : Str → Option Value} {base : Heap} {ad : Ad} (T : Txt K mg ad) : FnOk P w K mg base (CX1 P w base) 7 ad.f_guards ad.d_guards ["net", "room", "other"] (spx_guards K ad.C ad.x) :=
  T.d_guards.fn.okx scGuards (fun vs H Q E h => lnx_guards h) fun cdv A outer s H vs Q E hr h => ⟨trx_guards w K ad.C ad.x E,
    (pss_cons (ps_expr (pe_meth (pv 0) T.cl T.d_Net_check_room.mt (oko_Net_check_room T) (hr.mono (by decide)) T.d_Net_check_room.bd .nil pass1 (pa_cons (pv 1) pa_nil)))
      (pss_cons (ps_expr (pe_call (oko_check_reached T) (hr.mono (by decide)) rfl T.d_check_reached.mg T.d_check_reached.fn.kp T.d_check_reached.bd .nil pass1 (pa_cons (pv 0) (pa_cons (pv 2) pa_nil))))
      (pss_one (ps_ret (pe_call (ok_guards_all T) (hr.mono (by decide)) rfl T.d_guards_all.mg T.d_guards_all.fn.kp T.d_guards_all.bd .nil pass0 (pa_cons (pv 0) (pa_cons (pv 1) (pa_cons (pe_lst (pa_cons (pv 2) pa_nil)) pa_nil)))))))), rdx_guards T.gen h⟩
theorem oko_guards {P : Program} {w : World} {K : PySem.W.Frag} {mg : Str → Option Value} {base : Heap} {ad : Ad} (T : Txt K mg ad) : FnOk P w K mg base (CX1 P w base) 7 ad.f_guards ad.d_guards ["net", "room", "other"] (spo_guards K ad.C ad.x) := (ok_guards T).up.or (okx_guards T)
theorem ok_edge {P : Program} {w : World} {K : PySem.W.Frag} {mg : Str → Option Value} {base : Heap} {ad : Ad} (T : Txt K mg ad) : FnOk P w K mg base CX0 7 ad.f_edge ad.d_edge ["net", "room"] (sp_edge K ad.C) :=
  T.d_edge.fn.ok scEdge (fun vs H Q E h => ln_edge h) fun cdv A outer s H vs Q E hr h => ⟨tr_edge w K ad.C,
    (pss_cons (ps_expr (pe_call (ok_check_reached T) (hr.mono (by decide)) rfl T.d_check_reached.mg T.d_check_reached.fn.kp T.d_check_reached.bd .nil pass0 (pa_cons (pv 0) (pa_cons (pv 1) pa_nil))))
      (pss_cons (ps_set (i := 2) scEdge.nd rfl (Or.inr rfl) (pe_call (ok_guarded T) (hr.mono (by decide)) rfl T.d_guarded.mg T.d_guarded.fn.kp T.d_guarded.bd .nil pass0 (pa_cons (pv 0) (pa_cons (pv 1) pa_nil))))
      (pss_cons (ps_setC (i := 3) (N := ["start", "end", "inside", "room"]) (vs := 2) (is := [2, 1]) (g := (gTup K 2 (gCons (gName 0) (gCons (gName 1) gNil)))) (tt := (tAnd (tTest (tOp (rIn K false) (tVar 0) (tVar 2))) (tOr (tTest (tOp rEq (tVar 1) (tVar 3))) (tTest (tOp (rIn K true) (tVar 1) (tVar 2)))))) (te := (tVar 1)) scEdge.nd rfl rfl rfl (comp_ok (by rfl) (by rfl) (by rfl) (by rfl) (by rfl)) (pi_list (pe_meth0 (pv 0) T.cl T.d_Net_doors.mt (ok_Net_doors T) (hr.mono (by decide)) T.d_Net_doors.bd .nil pass0)) (fun pins C fp s H => (pg_tup rfl (pgs_cons (pg_name (i := 0) (show (["start", "end", "inside", "room"] : List Str).Nodup by decide +kernel) rfl (Or.inl rfl) (Or.inr rfl)) (pgs_cons (pg_name (i := 1) (show (["start", "end", "inside", "room"] : List Str).Nodup by decide +kernel) rfl (Or.inl rfl) (Or.inr rfl)) pgs_nil)))) (fun pins C fp s H => (pts_one (PW.pt (pw_and (pt_cmpR op_in_seq (pv 0) (pv 2) rfl) (pw_and1 (PW.pt (pw_or (pt_cmpR op_eq (pv 1) (pv 3) (nomark _)) (pw_or1 (pt_cmpR op_notIn_seq (pv 1) (pv 2) rfl))))))))) (fun pins C fp s H => (pv 1)))
      (pss_one (ps_ret (pe_callB (call_sortedA rfl) (by rfl) T.b_sorted b_sorted (pa_cons (pe_callTy (call_setL rfl) (by rfl) T.b_set b_set (pa_cons (pv 3) pa_nil)) pa_nil))))))), rd_edge T.gen h⟩
theorem okx_edge {P : Program} {w : World} {K : PySem.W.Frag} {mg : Str → Option Value} {base : Heap} {ad : Ad} (T : Txt K mg ad) : FnOk P w K mg base (CX1 P w base) 7 ad.f_edge ad.d_edge ["net", "room"] (spx_edge K ad.C ad.x) :=
  T.d_edge.fn.okx scEdge (fun vs H Q E h => lnx_edge h) fun cdv A outer s H vs Q E hr h => ⟨trx_edge w K ad.C ad.x E,
    (pss_cons (ps_expr (pe_call (oko_check_reached T) (hr.mono (by decide)) rfl T.d_check_reached.mg T.d_check_reached.fn.kp T.d_check_reached.bd .nil pass1 (pa_cons (pv 0) (pa_cons (pv 1) pa_nil))))
      (pss_cons (ps_set (i := 2) scEdge.nd rfl (Or.inr rfl) (pe_call (ok_guarded T) (hr.mono (by decide)) rfl T.d_guarded.mg T.d_guarded.fn.kp T.d_guarded.bd .nil pass0 (pa_cons (pv 0) (pa_cons (pv 1) pa_nil))))
      (pss_cons (ps_setC (i := 3) (N := ["start", "end", "inside", "room"]) (vs := 2) (is := [2, 1]) (g := (gTup K 2 (gCons (gName 0) (gCons (gName 1) gNil)))) (tt := (tAnd (tTest (tOp (rIn K false) (tVar 0) (tVar 2))) (tOr (tTest (tOp rEq (tVar 1) (tVar 3))) (tTest (tOp (rIn K true) (tVar 1) (tVar 2)))))) (te := (tVar 1)) scEdge.nd rfl rfl rfl (comp_ok (by rfl) (by rfl) (by rfl) (by rfl) (by rfl)) (pi_list (pe_meth0 (pv 0) T.cl T.d_Net_doors.mt (ok_Net_doors T) (hr.mono (by decide)) T.d_Net_doors.bd .nil pass0)) (fun pins C fp s H => (pg_tup rfl (pgs_cons (pg_name (i := 0) (show (["start", "end", "inside", "room"] : List Str).Nodup by decide +kernel) rfl (Or.inl rfl) (Or.inr rfl)) (pgs_cons (pg_name (i := 1) (show (["start", "end", "inside", "room"] : List Str).Nodup by decide +kernel) rfl (Or.inl rfl) (Or.inr rfl)) pgs_nil)))) (fun pins C fp s H => (pts_one (PW.pt (pw_and (pt_cmpR op_in_seq (pv 0) (pv 2) rfl) (pw_and1 (PW.pt (pw_or (pt_cmpR op_eq (pv 1) (pv 3) (nomark _)) (pw_or1 (pt_cmpR op_notIn_seq (pv 1) (pv 2) rfl))))))))) (fun pins C fp s H => (pv 1)))
      (pss_one (ps_ret (pe_callB (call_sortedA rfl) (by rfl) T.b_sorted b_sorted (pa_cons (pe_callTy (call_setL rfl) (by rfl) T.b_set b_set (pa_cons (pv 3) pa_nil)) pa_nil))))))), rdx_edge T.gen h⟩
theorem oko_edge {P : Program} {w : World} {K : PySem.W.Frag} {mg : Str → Option Value} {base : Heap} {ad : Ad} (T : Txt K mg ad) : FnOk P w K mg base (CX1 P w base) 7 ad.f_edge ad.d_edge ["net", "room"] (spo_edge K ad.C ad.x) := (ok_edge T).up.or (okx_edge T)
theorem ok_guards_of {P : Program} {w : World} {K : PySem.W.Frag} {mg : Str → Option Value} {base : Heap} {ad : Ad} (T : Txt K mg ad) : FnOk P w K mg base CX0 8 ad.f_guards_of ad.d_guards_of ["net", "room"] (sp_guards_of K ad.C) :=
  T.d_guards_of.fn.ok scGuardsOf (fun vs H Q E h => ln_guards_of h) fun cdv A outer s H vs Q E hr h => ⟨tr_guards_of w K ad.C,
    (pss_one (ps_ret (pe_comp (N := ["place", "net", "room"]) (vs := 1) (is := [0, 1]) (g := (gName 0)) (tt := (tB (tCall (sp_guards_all K ad.C) [] E0 (tCons (tVar 1) (tCons (tVar 0) (tCons (tLst (tCons (tVar 2) tNil)) tNil)))))) (te := (tVar 0)) rfl (comp_ok (by rfl) (by rfl) (by rfl) (by rfl) (by rfl)) (pi_list (pe_call (ok_way_to T) (hr.mono (by decide)) rfl T.d_way_to.mg T.d_way_to.fn.kp T.d_way_to.bd .nil pass0 (pa_cons (pv 0) (pa_cons (pv 1) pa_nil)))) (fun pins C fp s H => (pg_name (i := 0) (show (["place", "net", "room"] : List Str).Nodup by decide +kernel) rfl (Or.inl rfl) (Or.inr rfl))) (fun pins C fp s H => (pts_one (pt_val (pe_call (ok_guards_all T) (hr.mono (by decide)) rfl T.d_guards_all.mg T.d_guards_all.fn.kp T.d_guards_all.bd .nil pass0 (pa_cons (pv 1) (pa_cons (pv 0) (pa_cons (pe_lst (pa_cons (pv 2) pa_nil)) pa_nil))))))) (fun pins C fp s H => (pv 0))))), rd_guards_of T.gen h⟩
theorem okx_guards_of {P : Program} {w : World} {K : PySem.W.Frag} {mg : Str → Option Value} {base : Heap} {ad : Ad} (T : Txt K mg ad) : FnOk P w K mg base (CX1 P w base) 8 ad.f_guards_of ad.d_guards_of ["net", "room"] (spx_guards_of K ad.C ad.x) :=
  T.d_guards_of.fn.okx scGuardsOf (fun vs H Q E h => lnx_guards_of h) fun cdv A outer s H vs Q E hr h => ⟨trx_guards_of w K ad.C ad.x E,
    (pss_one (ps_ret (pe_comp (N := ["place", "net", "room"]) (vs := 1) (is := [0, 1]) (g := (gName 0)) (tt := (tB (tCall (sp_guards_all K ad.C) [] E0 (tCons (tVar 1) (tCons (tVar 0) (tCons (tLst (tCons (tVar 2) tNil)) tNil)))))) (te := (tVar 0)) rfl (comp_ok (by rfl) (by rfl) (by rfl) (by rfl) (by rfl)) (pi_list (pe_call (oko_way_to T) (hr.mono (by decide)) rfl T.d_way_to.mg T.d_way_to.fn.kp T.d_way_to.bd .nil pass1 (pa_cons (pv 0) (pa_cons (pv 1) pa_nil)))) (fun pins C fp s H => (pg_name (i := 0) (show (["place", "net", "room"] : List Str).Nodup by decide +kernel) rfl (Or.inl rfl) (Or.inr rfl))) (fun pins C fp s H => (pts_one (pt_val (pe_call (ok_guards_all T) (hr.mono (by decide)) rfl T.d_guards_all.mg T.d_guards_all.fn.kp T.d_guards_all.bd .nil pass0 (pa_cons (pv 1) (pa_cons (pv 0) (pa_cons (pe_lst (pa_cons (pv 2) pa_nil)) pa_nil))))))) (fun pins C fp s H => (pv 0))))), rdx_guards_of T.gen h⟩
theorem oko_guards_of {P : Program} {w : World} {K : PySem.W.Frag} {mg : Str → Option Value} {base : Heap} {ad : Ad} (T : Txt K mg ad) : FnOk P w K mg base (CX1 P w base) 8 ad.f_guards_of ad.d_guards_of ["net", "room"] (spo_guards_of K ad.C ad.x) := (ok_guards_of T).up.or (okx_guards_of T)
theorem ok_joins {P : Program} {w : World} {K : PySem.W.Frag} {mg : Str → Option Value} {base : Heap} {ad : Ad} (T : Txt K mg ad) : FnOk P w K mg base CX0 8 ad.f_joins ad.d_joins ["net", "some"] (sp_joins K ad.C) :=
  T.d_joins.fn.ok scJoins (fun vs H Q E h => ln_joins h) fun cdv A outer s H vs Q E hr h => ⟨tr_joins w K ad.C,
    (pss_cons (ps_expr (pe_call (ok_check_all_reached T) (hr.mono (by decide)) rfl T.d_check_all_reached.mg T.d_check_all_reached.fn.kp T.d_check_all_reached.bd .nil pass0 (pa_cons (pv 0) (pa_cons (pv 1) pa_nil))))
      (pss_cons (ps_set (i := 2) scJoins.nd rfl (Or.inl rfl) pe_dnewK)
      (pss_cons (ps_set (i := 3) scJoins.nd rfl (Or.inl rfl) (pe_callTy call_list_of (by rfl) T.b_list b_list (pa_cons (pv 1) pa_nil)))
      (pss_cons (ps_while PassesOwn.never (pt_truth (pv 3) (by intro _; rfl)) (pss_cons (ps_set (i := 4) scJoins.nd rfl (Or.inl rfl) (pe_bm0 PySem.F.plainAttrs_list PySem.F.slot_list_pop PySem.F.type_list_pop mt_pop (pv 3)))
        (pss_one (ps_for PassesOwn.never rfl (pi_list (pe_call (ok_edge T) (hr.mono (by decide)) rfl T.d_edge.mg T.d_edge.fn.kp T.d_edge.bd .nil pass0 (pa_cons (pv 0) (pa_cons (pv 4) pa_nil)))) (pg_name (i := 5) scJoins.nd rfl (Or.inl rfl))
          (pss_one (ps_if (pt_cmp (pc_dnotin (hu_of hr) (pv 5) (pv 2))) (pss_cons (ps_dput (hu_of hr) (pv 2) (pv 5) pe_bl rfl)
            (pss_one (ps_expr (pe_bm PySem.F.plainAttrs_list PySem.F.slot_list_append PySem.F.type_list_append mt_append (pv 3) (pa_cons (pv 5) pa_nil))))) pss_nil))))))
      (pss_one (ps_ret (pe_comp (N := ["room"]) (vs := 1) (is := []) (g := (gName 0)) (tt := (tTest (tOp rNe (tVar 0) (tC (.int 0))))) (te := (tVar 0)) rfl (comp_ok (by rfl) (by rfl) (by rfl) (by rfl) (by rfl)) (pi_list (pe_callB (call_sortedD rfl) (by rfl) T.b_sorted b_sorted (pa_cons (pv 2) pa_nil))) (fun pins C fp s H => (pg_name (i := 0) (show (["room"] : List Str).Nodup by decide +kernel) rfl (Or.inl rfl) (Or.inr rfl))) (fun pins C fp s H => (pts_one (pt_cmpR op_ne (pv 0) (pe_glob (v := .int 0) rfl T.g_ENTRANCE.choose_spec ⟨_, rfl⟩) (nomark _)))) (fun pins C fp s H => (pv 0))))))))), rd_joins T.gen h⟩
theorem okx_joins {P : Program} {w : World} {K : PySem.W.Frag} {mg : Str → Option Value} {base : Heap} {ad : Ad} (T : Txt K mg ad) : FnOk P w K mg base (CX1 P w base) 8 ad.f_joins ad.d_joins ["net", "some"] (spx_joins K ad.C ad.x) :=
  T.d_joins.fn.okx scJoins (fun vs H Q E h => lnx_joins h) fun cdv A outer s H vs Q E hr h => ⟨trx_joins w K ad.C ad.x E,
    (pss_cons (ps_expr (pe_call (oko_check_all_reached T) (hr.mono (by decide)) rfl T.d_check_all_reached.mg T.d_check_all_reached.fn.kp T.d_check_all_reached.bd .nil pass1 (pa_cons (pv 0) (pa_cons (pv 1) pa_nil))))
      (pss_cons (ps_set (i := 2) scJoins.nd rfl (Or.inl rfl) pe_dnewK)
      (pss_cons (ps_set (i := 3) scJoins.nd rfl (Or.inl rfl) (pe_callTy call_list_of (by rfl) T.b_list b_list (pa_cons (pv 1) pa_nil)))
      (pss_cons (PS.calm0 (ps_while PassesOwn.never (pt_truth (pv 3) (by intro _; rfl)) (pss_cons (ps_set (i := 4) scJoins.nd rfl (Or.inl rfl) (pe_bm0 PySem.F.plainAttrs_list PySem.F.slot_list_pop PySem.F.type_list_pop mt_pop (pv 3)))
        (pss_one (ps_for PassesOwn.never rfl (pi_list (pe_call (ok_edge T) (hr.mono (by decide)) rfl T.d_edge.mg T.d_edge.fn.kp T.d_edge.bd .nil pass0 (pa_cons (pv 0) (pa_cons (pv 4) pa_nil)))) (pg_name (i := 5) scJoins.nd rfl (Or.inl rfl))
          (pss_one (ps_if (pt_cmp (pc_dnotin (hu_of hr) (pv 5) (pv 2))) (pss_cons (ps_dput (hu_of hr) (pv 2) (pv 5) pe_bl rfl)
            (pss_one (ps_expr (pe_bm PySem.F.plainAttrs_list PySem.F.slot_list_append PySem.F.type_list_append mt_append (pv 3) (pa_cons (pv 5) pa_nil))))) pss_nil)))))))
      (pss_one (ps_ret (pe_comp (N := ["room"]) (vs := 1) (is := []) (g := (gName 0)) (tt := (tTest (tOp rNe (tVar 0) (tC (.int 0))))) (te := (tVar 0)) rfl (comp_ok (by rfl) (by rfl) (by rfl) (by rfl) (by rfl)) (pi_list (pe_callB (call_sortedD rfl) (by rfl) T.b_sorted b_sorted (pa_cons (pv 2) pa_nil))) (fun pins C fp s H => (pg_name (i := 0) (show (["room"] : List Str).Nodup by decide +kernel) rfl (Or.inl rfl) (Or.inr rfl))) (fun pins C fp s H => (pts_one (pt_cmpR op_ne (pv 0) (pe_glob (v := .int 0) rfl T.g_ENTRANCE.choose_spec ⟨_, rfl⟩) (nomark _)))) (fun pins C fp s H => (pv 0))))))))), rdx_joins T.gen h⟩
theorem oko_joins {P : Program} {w : World} {K : PySem.W.Frag} {mg : Str → Option Value} {base : Heap} {ad : Ad} (T : Txt K mg ad) : FnOk P w K mg base (CX1 P w base) 8 ad.f_joins ad.d_joins ["net", "some"] (spo_joins K ad.C ad.x) := (ok_joins T).up.or (okx_joins T)
theorem ok_law_no_room {P : Program} {w : World} {K : PySem.W.Frag} {mg : Str → Option Value} {base : Heap} {ad : Ad} (T : Txt K mg ad) : FnOk P w K mg base CX0 8 ad.f_law_no_room ad.d_law_no_room ["net", "way", "room"] (sp_law_no_room K ad.C) :=
  T.d_law_no_room.fn.ok scLawNoRoom (fun vs H Q E h => ln_law_no_room h) fun cdv A outer s H vs Q E hr h => ⟨tr_law_no_room w K ad.C,
    (pss_one (ps_if (pt_cmpR op_eq (pv 1) pe_int (nomark _)) (pss_one (ps_expr (pe_meth (pv 0) T.cl T.d_Net_leads.mt (ok_Net_leads T) (hr.mono (by decide)) T.d_Net_leads.bd .nil pass0 (pa_cons (pv 2) pa_nil)))) (pss_one (ps_if (pt_cmpR op_eq (pv 1) pe_int (nomark _)) (pss_one (ps_expr (pe_meth (pv 0) T.cl T.d_Net_led.mt (ok_Net_led T) (hr.mono (by decide)) T.d_Net_led.bd .nil pass0 (pa_cons (pv 2) pa_nil)))) (pss_one (ps_if (pt_cmpR op_eq (pv 1) pe_int (nomark _)) (pss_one (ps_expr (pe_call (ok_way_past T) (hr.mono (by decide)) rfl T.d_way_past.mg T.d_way_past.fn.kp T.d_way_past.bd .nil pass0 (pa_cons (pv 0) (pa_cons pe_int (pa_cons (pv 2) pa_nil)))))) (pss_one (ps_if (pt_cmpR op_eq (pv 1) pe_int (nomark _)) (pss_one (ps_expr (pe_call (ok_way_past T) (hr.mono (by decide)) rfl T.d_way_past.mg T.d_way_past.fn.kp T.d_way_past.bd .nil pass0 (pa_cons (pv 0) (pa_cons (pe_op op_sub (pe_meth0 (pv 0) T.cl T.d_Net_rooms.mt (ok_Net_rooms T) (hr.mono (by decide)) T.d_Net_rooms.bd .nil pass0) pe_int) (pa_cons (pv 2) pa_nil)))))) (pss_one (ps_if (pt_cmpR op_eq (pv 1) pe_int (nomark _)) (pss_one (ps_expr (pe_call (ok_guards T) (hr.mono (by decide)) rfl T.d_guards.mg T.d_guards.fn.kp T.d_guards.bd .nil pass0 (pa_cons (pv 0) (pa_cons (pv 2) (pa_cons (pe_op op_sub (pe_meth0 (pv 0) T.cl T.d_Net_rooms.mt (ok_Net_rooms T) (hr.mono (by decide)) T.d_Net_rooms.bd .nil pass0) pe_int) pa_nil)))))) (pss_one (ps_expr (pe_call (ok_guards T) (hr.mono (by decide)) rfl T.d_guards.mg T.d_guards.fn.kp T.d_guards.bd .nil pass0 (pa_cons (pv 0) (pa_cons (pv 2) (pa_cons pe_int pa_nil)))))))))))))))), rd_law_no_room T.gen h⟩
theorem okx_law_no_room {P : Program} {w : World} {K : PySem.W.Frag} {mg : Str → Option Value} {base : Heap} {ad : Ad} (T : Txt K mg ad) : FnOk P w K mg base (CX1 P w base) 8 ad.f_law_no_room ad.d_law_no_room ["net", "way", "room"] (spx_law_no_room K ad.C ad.x) :=
  T.d_law_no_room.fn.okx scLawNoRoom (fun vs H Q E h => lnx_law_no_room h) fun cdv A outer s H vs Q E hr h => ⟨trx_law_no_room w K ad.C ad.x E,
    (pss_one (ps_if (pt_cmpR op_eq (pv 1) pe_int (nomark _)) (pss_one (ps_expr (pe_meth (pv 0) T.cl T.d_Net_leads.mt (oko_Net_leads T) (hr.mono (by decide)) T.d_Net_leads.bd .nil pass1 (pa_cons (pv 2) pa_nil)))) (pss_one (ps_if (pt_cmpR op_eq (pv 1) pe_int (nomark _)) (pss_one (ps_expr (pe_meth (pv 0) T.cl T.d_Net_led.mt (oko_Net_led T) (hr.mono (by decide)) T.d_Net_led.bd .nil pass1 (pa_cons (pv 2) pa_nil)))) (pss_one (ps_if (pt_cmpR op_eq (pv 1) pe_int (nomark _)) (pss_one (ps_expr (pe_call (oko_way_past T) (hr.mono (by decide)) rfl T.d_way_past.mg T.d_way_past.fn.kp T.d_way_past.bd .nil pass1 (pa_cons (pv 0) (pa_cons pe_int (pa_cons (pv 2) pa_nil)))))) (pss_one (ps_if (pt_cmpR op_eq (pv 1) pe_int (nomark _)) (pss_one (ps_expr (pe_call (oko_way_past T) (hr.mono (by decide)) rfl T.d_way_past.mg T.d_way_past.fn.kp T.d_way_past.bd .nil pass1 (pa_cons (pv 0) (pa_cons (pe_op op_sub (pe_meth0 (pv 0) T.cl T.d_Net_rooms.mt (ok_Net_rooms T) (hr.mono (by decide)) T.d_Net_rooms.bd .nil pass0) pe_int) (pa_cons (pv 2) pa_nil)))))) (pss_one (ps_if (pt_cmpR op_eq (pv 1) pe_int (nomark _)) (pss_one (ps_expr (pe_call (oko_guards T) (hr.mono (by decide)) rfl T.d_guards.mg T.d_guards.fn.kp T.d_guards.bd .nil pass1 (pa_cons (pv 0) (pa_cons (pv 2) (pa_cons (pe_op op_sub (pe_meth0 (pv 0) T.cl T.d_Net_rooms.mt (ok_Net_rooms T) (hr.mono (by decide)) T.d_Net_rooms.bd .nil pass0) pe_int) pa_nil)))))) (pss_one (ps_expr (pe_call (oko_guards T) (hr.mono (by decide)) rfl T.d_guards.mg T.d_guards.fn.kp T.d_guards.bd .nil pass1 (pa_cons (pv 0) (pa_cons (pv 2) (pa_cons pe_int pa_nil)))))))))))))))), rdx_law_no_room T.gen h⟩
theorem oko_law_no_room {P : Program} {w : World} {K : PySem.W.Frag} {mg : Str → Option Value} {base : Heap} {ad : Ad} (T : Txt K mg ad) : FnOk P w K mg base (CX1 P w base) 8 ad.f_law_no_room ad.d_law_no_room ["net", "way", "room"] (spo_law_no_room K ad.C ad.x) := (ok_law_no_room T).up.or (okx_law_no_room T)
theorem ok_nearest {P : Program} {w : World} {K : PySem.W.Frag} {mg : Str → Option Value} {base : Heap} {ad : Ad} (T : Txt K mg ad) : FnOk P w K mg base CX0 9 ad.f_nearest ad.d_nearest ["net", "room"] (sp_nearest K ad.C) :=
  T.d_nearest.fn.ok scNearest (fun vs H Q E h => ln_nearest h) fun cdv A outer s H vs Q E hr h => ⟨tr_nearest w K ad.C,
    (pss_cons (ps_set (i := 2) scNearest.nd rfl (Or.inl rfl) (pe_call (ok_guards_of T) (hr.mono (by decide)) rfl T.d_guards_of.mg T.d_guards_of.fn.kp T.d_guards_of.bd .nil pass0 (pa_cons (pv 0) (pa_cons (pv 1) pa_nil))))
      (pss_one (ps_ret (pe_ifExp (pt_cmpR op_gt (pe_callB call_len_seq (by rfl) T.b_len b_len (pa_cons (pv 2) pa_nil)) pe_int (nomark _)) (pe_ix ix_list (pv 2) (pe_un un_neg pe_int) (fun _ _ => rfl)) pe_non)))), rd_nearest T.gen h⟩
theorem okx_nearest {P : Program} {w : World} {K : PySem.W.Frag} {mg : Str → Option Value} {base : Heap} {ad : Ad} (T : Txt K mg ad) : FnOk P w K mg base (CX1 P w base) 9 ad.f_nearest ad.d_nearest ["net", "room"] (spx_nearest K ad.C ad.x) :=
  T.d_nearest.fn.okx scNearest (fun vs H Q E h => lnx_nearest h) fun cdv A outer s H vs Q E hr h => ⟨trx_nearest w K ad.C ad.x E,
    (pss_cons (ps_set (i := 2) scNearest.nd rfl (Or.inl rfl) (pe_call (oko_guards_of T) (hr.mono (by decide)) rfl T.d_guards_of.mg T.d_guards_of.fn.kp T.d_guards_of.bd .nil pass1 (pa_cons (pv 0) (pa_cons (pv 1) pa_nil))))
      (pss_one (ps_ret (pe_ifExp (pt_cmpR op_gt (pe_callB call_len_seq (by rfl) T.b_len b_len (pa_cons (pv 2) pa_nil)) pe_int (nomark _)) (pe_ix ix_list (pv 2) (pe_un un_neg pe_int) (fun _ _ => rfl)) pe_non)))), rdx_nearest T.gen h⟩
theorem oko_nearest {P : Program} {w : World} {K : PySem.W.Frag} {mg : Str → Option Value} {base : Heap} {ad : Ad} (T : Txt K mg ad) : FnOk P w K mg base (CX1 P w base) 9 ad.f_nearest ad.d_nearest ["net", "room"] (spo_nearest K ad.C ad.x) := (ok_nearest T).up.or (okx_nearest T)
theorem ok_bars_of {P : Program} {w : World} {K : PySem.W.Frag} {mg : Str → Option Value} {base : Heap} {ad : Ad} (T : Txt K mg ad) : FnOk P w K mg base CX0 9 ad.f_bars_of ad.d_bars_of ["net", "room"] (sp_bars_of K ad.C) :=
  T.d_bars_of.fn.ok scBarsOf (fun vs H Q E h => ln_bars_of h) fun cdv A outer s H vs Q E hr h => ⟨tr_bars_of w K ad.C,
    (pss_cons (ps_set (i := 2) scBarsOf.nd rfl (Or.inl rfl) (pe_lst pa_nil))
      (pss_cons (ps_for PassesOwn.never rfl (pi_list (pe_call (ok_guards_of T) (hr.mono (by decide)) rfl T.d_guards_of.mg T.d_guards_of.fn.kp T.d_guards_of.bd .nil pass0 (pa_cons (pv 0) (pa_cons (pv 1) pa_nil)))) (pg_name (i := 3) scBarsOf.nd rfl (Or.inl rfl))
        (pss_cons (ps_set (i := 4) scBarsOf.nd rfl (Or.inl rfl) (pe_call (ok_first_doors T) (hr.mono (by decide)) rfl T.d_first_doors.mg T.d_first_doors.fn.kp T.d_first_doors.bd .nil pass0 (pa_cons (pv 0) (pa_cons (pv 3) pa_nil))))
        (pss_one (ps_if (pt_cmpR op_eq (pe_callB call_len_seq (by rfl) T.b_len b_len (pa_cons (pv 4) pa_nil)) pe_int (nomark _)) (pss_one (ps_expr (pe_bm PySem.F.plainAttrs_list PySem.F.slot_list_extend PySem.F.type_list_extend mt_extend (pv 2) (pa_cons (pv 4) pa_nil)))) pss_nil))))
      (pss_one (ps_ret (pv 2))))), rd_bars_of T.gen h⟩
theorem okx_bars_of {P : Program} {w : World} {K : PySem.W.Frag} {mg : Str → Option Value} {base : Heap} {ad : Ad} (T : Txt K mg ad) : FnOk P w K mg base (CX1 P w base) 9 ad.f_bars_of ad.d_bars_of ["net", "room"] (spx_bars_of K ad.C ad.x) :=
  T.d_bars_of.fn.okx scBarsOf (fun vs H Q E h => lnx_bars_of h) fun cdv A outer s H vs Q E hr h => ⟨trx_bars_of w K ad.C ad.x E,
    (pss_cons (ps_set (i := 2) scBarsOf.nd rfl (Or.inl rfl) (pe_lst pa_nil))
      (pss_cons (PS.xf (ps_for (xf_passes own_cx) rfl (pi_list (pe_call (oko_guards_of T) (hr.mono (by decide)) rfl T.d_guards_of.mg T.d_guards_of.fn.kp T.d_guards_of.bd .nil (pass_xf own_cx) (pa_cons (pv 0) (pa_cons (pv 1) pa_nil)))) (pg_name (i := 3) scBarsOf.nd rfl (Or.inl rfl))
        (pss_cons (ps_set (i := 4) scBarsOf.nd rfl (Or.inl rfl) (pe_call (ok_first_doors T) (hr.mono (by decide)) rfl T.d_first_doors.mg T.d_first_doors.fn.kp T.d_first_doors.bd .nil pass0 (pa_cons (pv 0) (pa_cons (pv 3) pa_nil))))
        (pss_one (ps_if (pt_cmpR op_eq (pe_callB call_len_seq (by rfl) T.b_len b_len (pa_cons (pv 4) pa_nil)) pe_int (nomark _)) (pss_one (ps_expr (pe_bm PySem.F.plainAttrs_list PySem.F.slot_list_extend PySem.F.type_list_extend mt_extend (pv 2) (pa_cons (pv 4) pa_nil)))) pss_nil)))))
      (pss_one (ps_ret (pv 2))))), rdx_bars_of T.gen h⟩
theorem oko_bars_of {P : Program} {w : World} {K : PySem.W.Frag} {mg : Str → Option Value} {base : Heap} {ad : Ad} (T : Txt K mg ad) : FnOk P w K mg base (CX1 P w base) 9 ad.f_bars_of ad.d_bars_of ["net", "room"] (spo_bars_of K ad.C ad.x) := (ok_bars_of T).up.or (okx_bars_of T)
theorem ok_common {P : Program} {w : World} {K : PySem.W.Frag} {mg : Str → Option Value} {base : Heap} {ad : Ad} (T : Txt K mg ad) : FnOk P w K mg base CX0 9 ad.f_common ad.d_common ["net", "some"] (sp_common K ad.C) :=
  T.d_common.fn.ok scCommon (fun vs H Q E h => ln_common h) fun cdv A outer s H vs Q E hr h => ⟨tr_common w K ad.C,
    (pss_cons (ps_expr (pe_call (ok_check_all_reached T) (hr.mono (by decide)) rfl T.d_check_all_reached.mg T.d_check_all_reached.fn.kp T.d_check_all_reached.bd .nil pass0 (pa_cons (pv 0) (pa_cons (pv 1) pa_nil))))
      (pss_cons (ps_setC (i := 2) (N := ["room", "net", "some"]) (vs := 1) (is := [0, 1]) (g := (gName 0)) (tt := (tB (tCall (sp_guards_all K ad.C) [] E0 (tCons (tVar 1) (tCons (tVar 0) (tCons (tVar 2) tNil)))))) (te := (tVar 0)) scCommon.nd rfl rfl rfl (comp_ok (by rfl) (by rfl) (by rfl) (by rfl) (by rfl)) (pi_list (pe_call (ok_guards_of T) (hr.mono (by decide)) rfl T.d_guards_of.mg T.d_guards_of.fn.kp T.d_guards_of.bd .nil pass0 (pa_cons (pv 0) (pa_cons (pe_ix ix_list (pv 1) pe_int (fun _ _ => rfl)) pa_nil)))) (fun pins C fp s H => (pg_name (i := 0) (show (["room", "net", "some"] : List Str).Nodup by decide +kernel) rfl (Or.inl rfl) (Or.inr rfl))) (fun pins C fp s H => (pts_one (pt_val (pe_call (ok_guards_all T) (hr.mono (by decide)) rfl T.d_guards_all.mg T.d_guards_all.fn.kp T.d_guards_all.bd .nil pass0 (pa_cons (pv 1) (pa_cons (pv 0) (pa_cons (pv 2) pa_nil))))))) (fun pins C fp s H => (pv 0)))
      (pss_one (ps_ret (pe_ix ix_list (pv 2) (pe_un un_neg pe_int) (fun _ _ => rfl)))))), rd_common T.gen h⟩
theorem okx_common {P : Program} {w : World} {K : PySem.W.Frag} {mg : Str → Option Value} {base : Heap} {ad : Ad} (T : Txt K mg ad) : FnOk P w K mg base (CX1 P w base) 9 ad.f_common ad.d_common ["net", "some"] (spx_common K ad.C ad.x) :=
  T.d_common.fn.okx scCommon (fun vs H Q E h => lnx_common h) fun cdv A outer s H vs Q E hr h => ⟨trx_common w K ad.C ad.x E,
    (pss_cons (ps_expr (pe_call (oko_check_all_reached T) (hr.mono (by decide)) rfl T.d_check_all_reached.mg T.d_check_all_reached.fn.kp T.d_check_all_reached.bd .nil pass1 (pa_cons (pv 0) (pa_cons (pv 1) pa_nil))))
      (pss_cons (ps_setC (i := 2) (N := ["room", "net", "some"]) (vs := 1) (is := [0, 1]) (g := (gName 0)) (tt := (tB (tCall (sp_guards_all K ad.C) [] E0 (tCons (tVar 1) (tCons (tVar 0) (tCons (tVar 2) tNil)))))) (te := (tVar 0)) scCommon.nd rfl rfl rfl (comp_ok (by rfl) (by rfl) (by rfl) (by rfl) (by rfl)) (pi_list (pe_call (oko_guards_of T) (hr.mono (by decide)) rfl T.d_guards_of.mg T.d_guards_of.fn.kp T.d_guards_of.bd .nil pass1 (pa_cons (pv 0) (pa_cons (pe_ix ix_list (pv 1) pe_int (fun _ _ => rfl)) pa_nil)))) (fun pins C fp s H => (pg_name (i := 0) (show (["room", "net", "some"] : List Str).Nodup by decide +kernel) rfl (Or.inl rfl) (Or.inr rfl))) (fun pins C fp s H => (pts_one (pt_val (pe_call (ok_guards_all T) (hr.mono (by decide)) rfl T.d_guards_all.mg T.d_guards_all.fn.kp T.d_guards_all.bd .nil pass0 (pa_cons (pv 1) (pa_cons (pv 0) (pa_cons (pv 2) pa_nil))))))) (fun pins C fp s H => (pv 0)))
      (pss_one (ps_ret (pe_ix ix_list (pv 2) (pe_un un_neg pe_int) (fun _ _ => rfl)))))), rdx_common T.gen h⟩
theorem oko_common {P : Program} {w : World} {K : PySem.W.Frag} {mg : Str → Option Value} {base : Heap} {ad : Ad} (T : Txt K mg ad) : FnOk P w K mg base (CX1 P w base) 9 ad.f_common ad.d_common ["net", "some"] (spo_common K ad.C ad.x) := (ok_common T).up.or (okx_common T)
theorem ok_law_asked {P : Program} {w : World} {K : PySem.W.Frag} {mg : Str → Option Value} {base : Heap} {ad : Ad} (T : Txt K mg ad) : FnOk P w K mg base CX0 10 ad.f_law_asked ad.d_law_asked ["net", "way", "room", "some"] (sp_law_asked K ad.C) :=
  T.d_law_asked.fn.ok scLawAsked (fun vs H Q E h => ln_law_asked h) fun cdv A outer s H vs Q E hr h => ⟨tr_law_asked w K ad.C,
    (pss_one (ps_if (pt_cmpR op_eq (pv 1) pe_int (nomark _)) (pss_one (ps_expr (pe_call (ok_way_to T) (hr.mono (by decide)) rfl T.d_way_to.mg T.d_way_to.fn.kp T.d_way_to.bd .nil pass0 (pa_cons (pv 0) (pa_cons (pv 2) pa_nil))))) (pss_one (ps_if (pt_cmpR op_eq (pv 1) pe_int (nomark _)) (pss_one (ps_expr (pe_call (ok_way_past T) (hr.mono (by decide)) rfl T.d_way_past.mg T.d_way_past.fn.kp T.d_way_past.bd .nil pass0 (pa_cons (pv 0) (pa_cons (pv 2) (pa_cons pe_int pa_nil)))))) (pss_one (ps_if (pt_cmpR op_eq (pv 1) pe_int (nomark _)) (pss_one (ps_expr (pe_call (ok_guards T) (hr.mono (by decide)) rfl T.d_guards.mg T.d_guards.fn.kp T.d_guards.bd .nil pass0 (pa_cons (pv 0) (pa_cons pe_int (pa_cons (pv 2) pa_nil)))))) (pss_one (ps_if (pt_cmpR op_eq (pv 1) pe_int (nomark _)) (pss_one (ps_expr (pe_call (ok_guards_of T) (hr.mono (by decide)) rfl T.d_guards_of.mg T.d_guards_of.fn.kp T.d_guards_of.bd .nil pass0 (pa_cons (pv 0) (pa_cons (pv 2) pa_nil))))) (pss_one (ps_if (pt_cmpR op_eq (pv 1) pe_int (nomark _)) (pss_one (ps_expr (pe_call (ok_nearest T) (hr.mono (by decide)) rfl T.d_nearest.mg T.d_nearest.fn.kp T.d_nearest.bd .nil pass0 (pa_cons (pv 0) (pa_cons (pv 2) pa_nil))))) (pss_one (ps_if (pt_cmpR op_eq (pv 1) pe_int (nomark _)) (pss_one (ps_expr (pe_call (ok_bars_of T) (hr.mono (by decide)) rfl T.d_bars_of.mg T.d_bars_of.fn.kp T.d_bars_of.bd .nil pass0 (pa_cons (pv 0) (pa_cons (pv 2) pa_nil))))) (pss_one (ps_if (pt_cmpR op_eq (pv 1) pe_int (nomark _)) (pss_one (ps_expr (pe_call (ok_edge T) (hr.mono (by decide)) rfl T.d_edge.mg T.d_edge.fn.kp T.d_edge.bd .nil pass0 (pa_cons (pv 0) (pa_cons (pv 2) pa_nil))))) (pss_one (ps_if (pt_cmpR op_eq (pv 1) pe_int (nomark _)) (pss_one (ps_expr (pe_call (ok_common T) (hr.mono (by decide)) rfl T.d_common.mg T.d_common.fn.kp T.d_common.bd .nil pass0 (pa_cons (pv 0) (pa_cons (pv 3) pa_nil))))) (pss_one (ps_expr (pe_call (ok_joins T) (hr.mono (by decide)) rfl T.d_joins.mg T.d_joins.fn.kp T.d_joins.bd .nil pass0 (pa_cons (pv 0) (pa_cons (pv 3) pa_nil))))))))))))))))))))), rd_law_asked T.gen h⟩
theorem okx_law_asked {P : Program} {w : World} {K : PySem.W.Frag} {mg : Str → Option Value} {base : Heap} {ad : Ad} (T : Txt K mg ad) : FnOk P w K mg base (CX1 P w base) 10 ad.f_law_asked ad.d_law_asked ["net", "way", "room", "some"] (spx_law_asked K ad.C ad.x) :=
  T.d_law_asked.fn.okx scLawAsked (fun vs H Q E h => lnx_law_asked h) fun cdv A outer s H vs Q E hr h => ⟨trx_law_asked w K ad.C ad.x E,
    (pss_one (ps_if (pt_cmpR op_eq (pv 1) pe_int (nomark _)) (pss_one (ps_expr (pe_call (oko_way_to T) (hr.mono (by decide)) rfl T.d_way_to.mg T.d_way_to.fn.kp T.d_way_to.bd .nil pass1 (pa_cons (pv 0) (pa_cons (pv 2) pa_nil))))) (pss_one (ps_if (pt_cmpR op_eq (pv 1) pe_int (nomark _)) (pss_one (ps_expr (pe_call (oko_way_past T) (hr.mono (by decide)) rfl T.d_way_past.mg T.d_way_past.fn.kp T.d_way_past.bd .nil pass1 (pa_cons (pv 0) (pa_cons (pv 2) (pa_cons pe_int pa_nil)))))) (pss_one (ps_if (pt_cmpR op_eq (pv 1) pe_int (nomark _)) (pss_one (ps_expr (pe_call (oko_guards T) (hr.mono (by decide)) rfl T.d_guards.mg T.d_guards.fn.kp T.d_guards.bd .nil pass1 (pa_cons (pv 0) (pa_cons pe_int (pa_cons (pv 2) pa_nil)))))) (pss_one (ps_if (pt_cmpR op_eq (pv 1) pe_int (nomark _)) (pss_one (ps_expr (pe_call (oko_guards_of T) (hr.mono (by decide)) rfl T.d_guards_of.mg T.d_guards_of.fn.kp T.d_guards_of.bd .nil pass1 (pa_cons (pv 0) (pa_cons (pv 2) pa_nil))))) (pss_one (ps_if (pt_cmpR op_eq (pv 1) pe_int (nomark _)) (pss_one (ps_expr (pe_call (oko_nearest T) (hr.mono (by decide)) rfl T.d_nearest.mg T.d_nearest.fn.kp T.d_nearest.bd .nil pass1 (pa_cons (pv 0) (pa_cons (pv 2) pa_nil))))) (pss_one (ps_if (pt_cmpR op_eq (pv 1) pe_int (nomark _)) (pss_one (ps_expr (pe_call (oko_bars_of T) (hr.mono (by decide)) rfl T.d_bars_of.mg T.d_bars_of.fn.kp T.d_bars_of.bd .nil pass1 (pa_cons (pv 0) (pa_cons (pv 2) pa_nil))))) (pss_one (ps_if (pt_cmpR op_eq (pv 1) pe_int (nomark _)) (pss_one (ps_expr (pe_call (oko_edge T) (hr.mono (by decide)) rfl T.d_edge.mg T.d_edge.fn.kp T.d_edge.bd .nil pass1 (pa_cons (pv 0) (pa_cons (pv 2) pa_nil))))) (pss_one (ps_if (pt_cmpR op_eq (pv 1) pe_int (nomark _)) (pss_one (ps_expr (pe_call (oko_common T) (hr.mono (by decide)) rfl T.d_common.mg T.d_common.fn.kp T.d_common.bd .nil pass1 (pa_cons (pv 0) (pa_cons (pv 3) pa_nil))))) (pss_one (ps_expr (pe_call (oko_joins T) (hr.mono (by decide)) rfl T.d_joins.mg T.d_joins.fn.kp T.d_joins.bd .nil pass1 (pa_cons (pv 0) (pa_cons (pv 3) pa_nil))))))))))))))))))))), rdx_law_asked T.gen h⟩
theorem oko_law_asked {P : Program} {w : World} {K : PySem.W.Frag} {mg : Str → Option Value} {base : Heap} {ad : Ad} (T : Txt K mg ad) : FnOk P w K mg base (CX1 P w base) 10 ad.f_law_asked ad.d_law_asked ["net", "way", "room", "some"] (spo_law_asked K ad.C ad.x) := (ok_law_asked T).up.or (okx_law_asked T)
theorem ok_law_told {P : Program} {w : World} {K : PySem.W.Frag} {mg : Str → Option Value} {base : Heap} {ad : Ad} (T : Txt K mg ad) : FnOk P w K mg base CX0 11 ad.f_law_told ad.d_law_told ["net", "way", "kind", "room", "some"] (sp_law_told K ad.C) :=
  T.d_law_told.fn.ok scLawTold (fun vs H Q E h => ln_law_told h) fun cdv A outer s H vs Q E hr h => ⟨tr_law_told w K ad.C ad.x,
    (pss_cons (ps_set (i := 5) scLawTold.nd rfl (Or.inl rfl) (pe_lst pa_nil))
      (pss_cons (ps_try (i := 6) own_nox rfl T.x_PassError.mg rfl scLawTold.nd rfl rfl (fun W pn Ew hp => (pss_one (ps_if (pt_cmpR op_eq (pv 2) pe_int (nomark _)) (pss_one (ps_expr (pe_call (oko_law_no_room T) (hr.mono (by decide)) rfl T.d_law_no_room.mg T.d_law_no_room.fn.kp T.d_law_no_room.bd .nil hp (pa_cons (pv 0) (pa_cons (pe_op op_mod (pv 1) pe_int) (pa_cons (pv 3) pa_nil)))))) (pss_one (ps_expr (pe_call (oko_law_asked T) (hr.mono (by decide)) rfl T.d_law_asked.mg T.d_law_asked.fn.kp T.d_law_asked.bd .nil hp (pa_cons (pv 0) (pa_cons (pv 1) (pa_cons (pv 3) (pa_cons (pv 4) pa_nil))))))))))
      (fun ea => (pss_one (ps_set (i := 5) scLawTold.nd rfl (Or.inl rfl) (pe_callH (hr.mono (Nat.le_refl _)).hd (okH_law_which T) (hr.mono (by decide)) rfl T.d_law_which.mg T.d_law_which.fn.kp T.d_law_which.bd (pa_cons (pv 6) pa_nil))))))
      (pss_one (ps_ret (pv 5))))), rd_law_told T.tx T.gen h⟩
theorem ok_law {P : Program} {w : World} {K : PySem.W.Frag} {mg : Str → Option Value} {base : Heap} {ad : Ad} (T : Txt K mg ad) : FnOk P w K mg base CX0 12 ad.f_law ad.d_law ["script"] (sp_law K ad.C) :=
  T.d_law.fn.ok scLaw (fun vs H Q E h => ln_law h) fun cdv A outer s H vs Q E hr h => ⟨tr_law w K ad.C,
    (pss_cons (ps_set (i := 1) scLaw.nd rfl (Or.inl rfl) (pe_call (ok_law_net T) (hr.mono (by decide)) rfl T.d_law_net.mg T.d_law_net.fn.kp T.d_law_net.bd .nil pass0 (pa_cons (pv 0) (pa_cons pe_int (pa_cons pe_int (pa_cons pe_int pa_nil))))))
      (pss_cons (ps_set (i := 2) scLaw.nd rfl (Or.inr rfl) (pe_callB (call_max2 rfl) (by rfl) T.b_max b_max (pa_cons pe_int (pa_cons (pe_ix ix_tup (pv 1) pe_int (fun _ _ => rfl)) pa_nil))))
      (pss_cons (ps_setC (i := 3) (N := ["pair", "many"]) (vs := 1) (is := [2]) (g := (gName 0)) (tt := (tOr (tTest (tOp rNe (tOp (rIxT K) (tVar 0) (tC (.int 1))) (tOp (rI0 fun i j => .int (i - j)) (tVar 1) (tC (.int 1))))) (tTest (tOp rEq (tOp (rIxT K) (tVar 0) (tC (.int 0))) (tOp (rI0 fun i j => .int (i - j)) (tVar 1) (tC (.int 1))))))) (te := (tVar 0)) scLaw.nd rfl rfl rfl (comp_ok (by rfl) (by rfl) (by rfl) (by rfl) (by rfl)) (pi_list (pe_ix ix_tup (pv 1) pe_int (fun _ _ => rfl))) (fun pins C fp s H => (pg_name (i := 0) (show (["pair", "many"] : List Str).Nodup by decide +kernel) rfl (Or.inl rfl) (Or.inr rfl))) (fun pins C fp s H => (pts_one (PW.pt (pw_or (pt_cmpR op_ne (pe_ix ix_tup (pv 0) pe_int (fun _ _ => rfl)) (pe_op op_sub (pv 1) pe_int) (nomark _)) (pw_or1 (pt_cmpR op_eq (pe_ix ix_tup (pv 0) pe_int (fun _ _ => rfl)) (pe_op op_sub (pv 1) pe_int) (nomark _))))))) (fun pins C fp s H => (pv 0)))
      (pss_cons (ps_set (i := 4) scLaw.nd rfl (Or.inl rfl) (pe_make T.mkr (ok_Net_init T) (hr.mono (by decide)) rfl T.mC T.d_Net_init.bd .nil pass0 (pa_cons (pv 2) (pa_cons (pe_callTy call_list_of (by rfl) T.b_list b_list (pa_cons (pv 3) pa_nil)) pa_nil))))
      (pss_cons (ps_set (i := 5) scLaw.nd rfl (Or.inl rfl) (pe_op op_mod (pe_call (ok_law_cell_at T) (hr.mono (by decide)) rfl T.d_law_cell_at.mg T.d_law_cell_at.fn.kp T.d_law_cell_at.bd .nil pass0 (pa_cons (pv 0) (pa_cons pe_int pa_nil))) (pe_op op_pow pe_int pe_int)))
      (pss_cons (ps_set (i := 6) scLaw.nd rfl (Or.inl rfl) (pe_ix ix_list (pe_lst (pa_cons (pe_op op_sub (pe_un un_neg pe_int) (pv 5)) (pa_cons (pv 2) (pa_cons (pe_op op_add (pv 2) (pv 5)) pa_nil)))) (pe_op op_mod (pe_call (ok_law_cell_at T) (hr.mono (by decide)) rfl T.d_law_cell_at.mg T.d_law_cell_at.fn.kp T.d_law_cell_at.bd .nil pass0 (pa_cons (pv 0) (pa_cons pe_int pa_nil))) pe_int) (fun _ _ => rfl)))
      (pss_cons (ps_set (i := 7) scLaw.nd rfl (Or.inl rfl) (pe_op op_mod (pe_call (ok_law_cell_at T) (hr.mono (by decide)) rfl T.d_law_cell_at.mg T.d_law_cell_at.fn.kp T.d_law_cell_at.bd .nil pass0 (pa_cons (pv 0) (pa_cons pe_int pa_nil))) pe_int))
      (pss_cons (ps_set (i := 8) scLaw.nd rfl (Or.inl rfl) (pe_op op_mod (pe_op op_fdiv (pe_call (ok_law_cell_at T) (hr.mono (by decide)) rfl T.d_law_cell_at.mg T.d_law_cell_at.fn.kp T.d_law_cell_at.bd .nil pass0 (pa_cons (pv 0) (pa_cons pe_int pa_nil))) pe_int) pe_int))
      (pss_cons (ps_set (i := 9) scLaw.nd rfl (Or.inl rfl) (pe_ix ix_list (pe_lst (pa_cons (pv 6) (pa_cons (pv 6) (pa_cons (pe_op op_sub (pv 2) pe_int) pa_nil)))) (pv 8) (fun _ _ => rfl)))
      (pss_cons (ps_set (i := 10) scLaw.nd rfl (Or.inl rfl) (pe_op op_rep (pe_lst (pa_cons pe_int pa_nil)) (pe_op op_mod (pe_call (ok_law_cell_at T) (hr.mono (by decide)) rfl T.d_law_cell_at.mg T.d_law_cell_at.fn.kp T.d_law_cell_at.bd .nil pass0 (pa_cons (pv 0) (pa_cons pe_int pa_nil))) pe_int)))
      (pss_cons (ps_expr (pe_bm PySem.F.plainAttrs_list PySem.F.slot_list_insert PySem.F.type_list_insert mt_insert (pv 10) (pa_cons (pe_op op_mod (pe_call (ok_law_cell_at T) (hr.mono (by decide)) rfl T.d_law_cell_at.mg T.d_law_cell_at.fn.kp T.d_law_cell_at.bd .nil pass0 (pa_cons (pv 0) (pa_cons pe_int pa_nil))) (pe_op op_add (pe_callB call_len_seq (by rfl) T.b_len b_len (pa_cons (pv 10) pa_nil)) pe_int)) (pa_cons (pv 9) pa_nil))))
      (pss_cons (ps_if (pt_cmpR op_eq (pe_op op_mod (pe_call (ok_law_cell_at T) (hr.mono (by decide)) rfl T.d_law_cell_at.mg T.d_law_cell_at.fn.kp T.d_law_cell_at.bd .nil pass0 (pa_cons (pv 0) (pa_cons pe_int pa_nil))) pe_int) pe_int (nomark _)) (pss_one (ps_expr (pe_bm PySem.F.plainAttrs_list PySem.F.slot_list_insert PySem.F.type_list_insert mt_insert (pv 10) (pa_cons (pe_op op_mod (pe_op op_fdiv (pe_call (ok_law_cell_at T) (hr.mono (by decide)) rfl T.d_law_cell_at.mg T.d_law_cell_at.fn.kp T.d_law_cell_at.bd .nil pass0 (pa_cons (pv 0) (pa_cons pe_int pa_nil))) pe_int) (pe_op op_add (pe_callB call_len_seq (by rfl) T.b_len b_len (pa_cons (pv 10) pa_nil)) pe_int)) (pa_cons (pe_op op_sub (pv 2) pe_int) pa_nil))))) pss_nil)
      (pss_cons (ps_if (pt_cmpR (op_neD hr.units) (pe_call (ok_law_told T) (hr.mono (by decide)) rfl T.d_law_told.mg T.d_law_told.fn.kp T.d_law_told.bd .nil pass0 (pa_cons (pv 4) (pa_cons (pv 7) (pa_cons (pv 8) (pa_cons (pv 9) (pa_cons (pv 10) pa_nil)))))) (pe_lst (pa_cons pe_bl (pa_cons (pe_cmpR op_lt (pv 8) pe_int (nomark _)) (pa_cons (pe_cmpR op_eq (pv 8) pe_int (nomark _)) (pa_cons pe_bl pa_nil))))) (nomark _)) (pss_one (ps_ret pe_bl)) pss_nil)
      (pss_cons (ps_if (pt_cmp (pc_isT (pe_call (ok_guards T) (hr.mono (by decide)) rfl T.d_guards.mg T.d_guards.fn.kp T.d_guards.bd .nil pass0 (pa_cons (pv 4) (pa_cons (pe_op op_sub (pv 2) pe_int) (pa_cons pe_int pa_nil)))))) (pss_one (ps_ret pe_bl)) pss_nil)
      (pss_cons (ps_set (i := 11) scLaw.nd rfl (Or.inl rfl) (pe_call (ok_way_past T) (hr.mono (by decide)) rfl T.d_way_past.mg T.d_way_past.fn.kp T.d_way_past.bd .nil pass0 (pa_cons (pv 4) (pa_cons pe_int (pa_cons (pe_op op_sub (pv 2) pe_int) pa_nil)))))
      (pss_one (ps_ret (pe_and (pe_cmp (pc_notN (pv 11))) (pe_and (pe_cmpR op_eq (pe_ix ix_list (pv 11) pe_int (fun _ _ => rfl)) pe_int (nomark _)) (pe_and (pe_cmpR op_eq (pe_ix ix_list (pv 11) (pe_un un_neg pe_int) (fun _ _ => rfl)) pe_int (nomark _)) (pe_one (pe_cmpR op_notIn_seq (pe_op op_sub (pv 2) pe_int) (pv 11) rfl)))))))))))))))))))))), rd_law T.gen h⟩
end My
end
section
set_option maxHeartbeats 4000000
namespace My
open PySem PySem.Spec PyProof.Rows L2 L3 Mp
theorem all_mk {l : PySem.W.OpenLaw} {w : World} {K : PySem.W.Frag} {h : Heap} {mg : Str → Option Value} {fa C f0 f1 f2 f3 f4 f5 f6 f7 f8 f9 f10 f11 f12 f13 f14 f15 f16 f17 f18 f19 f20 f21 f22 f23 f24 f25 f26 f27 f28 f29 f30 f31 f32 f33 xPassError xNoNet xNoRoom xUnreached : Addr} (X : K.In h) (G : h.Ns mainGlobals mg) (hfa : mg "law" = some (.ref fa))
    {od0 an0 : Option Addr} {sl0 : Array (Option Value)} {oc0 kV0 dc0 pm0 cd0 ct0 : Value} {od1 an1 : Option Addr} {sl1 : Array (Option Value)} {oc1 kV1 dc1 pm1 cd1 ct1 : Value} {od2 an2 : Option Addr} {sl2 : Array (Option Value)} {oc2 kV2 dc2 pm2 cd2 ct2 : Value} {od3 an3 : Option Addr} {sl3 : Array (Option Value)} {oc3 kV3 dc3 pm3 cd3 ct3 : Value} {od4 an4 : Option Addr} {sl4 : Array (Option Value)} {oc4 kV4 dc4 pm4 cd4 ct4 : Value} {od5 an5 : Option Addr} {sl5 : Array (Option Value)} {oc5 kV5 dc5 pm5 cd5 ct5 : Value} {od6 an6 : Option Addr} {sl6 : Array (Option Value)} {oc6 kV6 dc6 pm6 cd6 ct6 : Value} {od7 an7 : Option Addr} {sl7 : Array (Option Value)} {oc7 kV7 dc7 pm7 cd7 ct7 : Value} {od8 an8 : Option Addr} {sl8 : Array (Option Value)} {oc8 kV8 dc8 pm8 cd8 ct8 : Value} {od9 an9 : Option Addr} {sl9 : Array (Option Value)} {oc9 kV9 dc9 pm9 cd9 ct9 : Value} {od10 an10 : Option Addr} {sl10 : Array (Option Value)} {oc10 kV10 dc10 pm10 cd10 ct10 : Value} {od11 an11 : Option Addr} {sl11 : Array (Option Value)} {oc11 kV11 dc11 pm11 cd11 ct11 : Value} {od12 an12 : Option Addr} {sl12 : Array (Option Value)} {oc12 kV12 dc12 pm12 cd12 ct12 : Value} {od13 an13 : Option Addr} {sl13 : Array (Option Value)} {oc13 kV13 dc13 pm13 cd13 ct13 : Value} {od14 an14 : Option Addr} {sl14 : Array (Option Value)} {oc14 kV14 dc14 pm14 cd14 ct14 : Value} {od15 an15 : Option Addr} {sl15 : Array (Option Value)} {oc15 kV15 dc15 pm15 cd15 ct15 : Value} {od16 an16 : Option Addr} {sl16 : Array (Option Value)} {oc16 kV16 dc16 pm16 cd16 ct16 : Value} {od17 an17 : Option Addr} {sl17 : Array (Option Value)} {oc17 kV17 dc17 pm17 cd17 ct17 : Value} {od18 an18 : Option Addr} {sl18 : Array (Option Value)} {oc18 kV18 dc18 pm18 cd18 ct18 : Value} {od19 an19 : Option Addr} {sl19 : Array (Option Value)} {oc19 kV19 dc19 pm19 cd19 ct19 : Value} {od20 an20 : Option Addr} {sl20 : Array (Option Value)} {oc20 kV20 dc20 pm20 cd20 ct20 : Value} {od21 an21 : Option Addr} {sl21 : Array (Option Value)} {oc21 kV21 dc21 pm21 cd21 ct21 : Value} {od22 an22 : Option Addr} {sl22 : Array (Option Value)} {oc22 kV22 dc22 pm22 cd22 ct22 : Value} {od23 an23 : Option Addr} {sl23 : Array (Option Value)} {oc23 kV23 dc23 pm23 cd23 ct23 : Value} {od24 an24 : Option Addr} {sl24 : Array (Option Value)} {oc24 kV24 dc24 pm24 cd24 ct24 : Value} {od25 an25 : Option Addr} {sl25 : Array (Option Value)} {oc25 kV25 dc25 pm25 cd25 ct25 : Value} {od26 an26 : Option Addr} {sl26 : Array (Option Value)} {oc26 kV26 dc26 pm26 cd26 ct26 : Value} {od27 an27 : Option Addr} {sl27 : Array (Option Value)} {oc27 kV27 dc27 pm27 cd27 ct27 : Value} {od28 an28 : Option Addr} {sl28 : Array (Option Value)} {oc28 kV28 dc28 pm28 cd28 ct28 : Value} {od29 an29 : Option Addr} {sl29 : Array (Option Value)} {oc29 kV29 dc29 pm29 cd29 ct29 : Value} {od30 an30 : Option Addr} {sl30 : Array (Option Value)} {oc30 kV30 dc30 pm30 cd30 ct30 : Value} {od31 an31 : Option Addr} {sl31 : Array (Option Value)} {oc31 kV31 dc31 pm31 cd31 ct31 : Value} {od32 an32 : Option Addr} {sl32 : Array (Option Value)} {oc32 kV32 dc32 pm32 cd32 ct32 : Value} {od33 an33 : Option Addr} {sl33 : Array (Option Value)} {oc33 kV33 dc33 pm33 cd33 ct33 : Value} {tk0 : Tok} {tk1 : Tok} {tk2 : Tok}
    (aC : PySem.W.nsIn K mainGlobals "Net" = some (some (.ref C)))
    (a0 : PySem.W.nsIn K mainGlobals "steps_past" = some (some (.ref f0)))
    (l0 : K.lookup f0 = some ⟨oc0, od0, .func (PySem.W.fnOf "steps_past" "steps_past" (defArgs sStepsPast) (defBody sStepsPast) (defScope sStepsPast) .none kV0 dc0 pm0 an0 cd0 ct0), sl0⟩)
    (c0 : PySem.W.codeIn K cd0 "steps_past" = true)
    (k0 : PySem.W.keepIn K (.ref f0) = true)
    (a1 : PySem.W.nsIn K mainGlobals "trace_way" = some (some (.ref f1)))
    (l1 : K.lookup f1 = some ⟨oc1, od1, .func (PySem.W.fnOf "trace_way" "trace_way" (defArgs sTraceWay) (defBody sTraceWay) (defScope sTraceWay) .none kV1 dc1 pm1 an1 cd1 ct1), sl1⟩)
    (c1 : PySem.W.codeIn K cd1 "trace_way" = true)
    (k1 : PySem.W.keepIn K (.ref f1) = true)
    (a2 : PySem.W.nsIn K mainGlobals "check_all_reached" = some (some (.ref f2)))
    (l2 : K.lookup f2 = some ⟨oc2, od2, .func (PySem.W.fnOf "check_all_reached" "check_all_reached" (defArgs sCheckAllReached) (defBody sCheckAllReached) (defScope sCheckAllReached) .none kV2 dc2 pm2 an2 cd2 ct2), sl2⟩)
    (c2 : PySem.W.codeIn K cd2 "check_all_reached" = true)
    (k2 : PySem.W.keepIn K (.ref f2) = true)
    (a3 : PySem.W.nsIn K mainGlobals "check_reached" = some (some (.ref f3)))
    (l3 : K.lookup f3 = some ⟨oc3, od3, .func (PySem.W.fnOf "check_reached" "check_reached" (defArgs sCheckReached) (defBody sCheckReached) (defScope sCheckReached) .none kV3 dc3 pm3 an3 cd3 ct3), sl3⟩)
    (c3 : PySem.W.codeIn K cd3 "check_reached" = true)
    (k3 : PySem.W.keepIn K (.ref f3) = true)
    (a4 : PySem.W.nsIn K mainGlobals "reached" = some (some (.ref f4)))
    (l4 : K.lookup f4 = some ⟨oc4, od4, .func (PySem.W.fnOf "reached" "reached" (defArgs sReached) (defBody sReached) (defScope sReached) .none kV4 dc4 pm4 an4 cd4 ct4), sl4⟩)
    (c4 : PySem.W.codeIn K cd4 "reached" = true)
    (k4 : PySem.W.keepIn K (.ref f4) = true)
    (a5 : PySem.W.nsIn K mainGlobals "way_to" = some (some (.ref f5)))
    (l5 : K.lookup f5 = some ⟨oc5, od5, .func (PySem.W.fnOf "way_to" "way_to" (defArgs sWayTo) (defBody sWayTo) (defScope sWayTo) .none kV5 dc5 pm5 an5 cd5 ct5), sl5⟩)
    (c5 : PySem.W.codeIn K cd5 "way_to" = true)
    (k5 : PySem.W.keepIn K (.ref f5) = true)
    (a6 : PySem.W.nsIn K mainGlobals "way_past" = some (some (.ref f6)))
    (l6 : K.lookup f6 = some ⟨oc6, od6, .func (PySem.W.fnOf "way_past" "way_past" (defArgs sWayPast) (defBody sWayPast) (defScope sWayPast) .none kV6 dc6 pm6 an6 cd6 ct6), sl6⟩)
    (c6 : PySem.W.codeIn K cd6 "way_past" = true)
    (k6 : PySem.W.keepIn K (.ref f6) = true)
    (a7 : PySem.W.nsIn K mainGlobals "guarded" = some (some (.ref f7)))
    (l7 : K.lookup f7 = some ⟨oc7, od7, .func (PySem.W.fnOf "guarded" "guarded" (defArgs sGuarded) (defBody sGuarded) (defScope sGuarded) .none kV7 dc7 pm7 an7 cd7 ct7), sl7⟩)
    (c7 : PySem.W.codeIn K cd7 "guarded" = true)
    (k7 : PySem.W.keepIn K (.ref f7) = true)
    (a8 : PySem.W.nsIn K mainGlobals "guards_all" = some (some (.ref f8)))
    (l8 : K.lookup f8 = some ⟨oc8, od8, .func (PySem.W.fnOf "guards_all" "guards_all" (defArgs sGuardsAll) (defBody sGuardsAll) (defScope sGuardsAll) .none kV8 dc8 pm8 an8 cd8 ct8), sl8⟩)
    (c8 : PySem.W.codeIn K cd8 "guards_all" = true)
    (k8 : PySem.W.keepIn K (.ref f8) = true)
    (a9 : PySem.W.nsIn K mainGlobals "guards" = some (some (.ref f9)))
    (l9 : K.lookup f9 = some ⟨oc9, od9, .func (PySem.W.fnOf "guards" "guards" (defArgs sGuards) (defBody sGuards) (defScope sGuards) .none kV9 dc9 pm9 an9 cd9 ct9), sl9⟩)
    (c9 : PySem.W.codeIn K cd9 "guards" = true)
    (k9 : PySem.W.keepIn K (.ref f9) = true)
    (a10 : PySem.W.nsIn K mainGlobals "guards_of" = some (some (.ref f10)))
    (l10 : K.lookup f10 = some ⟨oc10, od10, .func (PySem.W.fnOf "guards_of" "guards_of" (defArgs sGuardsOf) (defBody sGuardsOf) (defScope sGuardsOf) .none kV10 dc10 pm10 an10 cd10 ct10), sl10⟩)
    (c10 : PySem.W.codeIn K cd10 "guards_of" = true)
    (k10 : PySem.W.keepIn K (.ref f10) = true)
    (a11 : PySem.W.nsIn K mainGlobals "nearest" = some (some (.ref f11)))
    (l11 : K.lookup f11 = some ⟨oc11, od11, .func (PySem.W.fnOf "nearest" "nearest" (defArgs sNearest) (defBody sNearest) (defScope sNearest) .none kV11 dc11 pm11 an11 cd11 ct11), sl11⟩)
    (c11 : PySem.W.codeIn K cd11 "nearest" = true)
    (k11 : PySem.W.keepIn K (.ref f11) = true)
    (a12 : PySem.W.nsIn K mainGlobals "first_doors" = some (some (.ref f12)))
    (l12 : K.lookup f12 = some ⟨oc12, od12, .func (PySem.W.fnOf "first_doors" "first_doors" (defArgs sFirstDoors) (defBody sFirstDoors) (defScope sFirstDoors) .none kV12 dc12 pm12 an12 cd12 ct12), sl12⟩)
    (c12 : PySem.W.codeIn K cd12 "first_doors" = true)
    (k12 : PySem.W.keepIn K (.ref f12) = true)
    (a13 : PySem.W.nsIn K mainGlobals "bars_of" = some (some (.ref f13)))
    (l13 : K.lookup f13 = some ⟨oc13, od13, .func (PySem.W.fnOf "bars_of" "bars_of" (defArgs sBarsOf) (defBody sBarsOf) (defScope sBarsOf) .none kV13 dc13 pm13 an13 cd13 ct13), sl13⟩)
    (c13 : PySem.W.codeIn K cd13 "bars_of" = true)
    (k13 : PySem.W.keepIn K (.ref f13) = true)
    (a14 : PySem.W.nsIn K mainGlobals "common" = some (some (.ref f14)))
    (l14 : K.lookup f14 = some ⟨oc14, od14, .func (PySem.W.fnOf "common" "common" (defArgs sCommon) (defBody sCommon) (defScope sCommon) .none kV14 dc14 pm14 an14 cd14 ct14), sl14⟩)
    (c14 : PySem.W.codeIn K cd14 "common" = true)
    (k14 : PySem.W.keepIn K (.ref f14) = true)
    (a15 : PySem.W.nsIn K mainGlobals "edge" = some (some (.ref f15)))
    (l15 : K.lookup f15 = some ⟨oc15, od15, .func (PySem.W.fnOf "edge" "edge" (defArgs sEdge) (defBody sEdge) (defScope sEdge) .none kV15 dc15 pm15 an15 cd15 ct15), sl15⟩)
    (c15 : PySem.W.codeIn K cd15 "edge" = true)
    (k15 : PySem.W.keepIn K (.ref f15) = true)
    (a16 : PySem.W.nsIn K mainGlobals "joins" = some (some (.ref f16)))
    (l16 : K.lookup f16 = some ⟨oc16, od16, .func (PySem.W.fnOf "joins" "joins" (defArgs sJoins) (defBody sJoins) (defScope sJoins) .none kV16 dc16 pm16 an16 cd16 ct16), sl16⟩)
    (c16 : PySem.W.codeIn K cd16 "joins" = true)
    (k16 : PySem.W.keepIn K (.ref f16) = true)
    (a17 : PySem.W.nsIn K mainGlobals "is_room" = some (some (.ref f17)))
    (l17 : K.lookup f17 = some ⟨oc17, od17, .func (PySem.W.fnOf "is_room" "is_room" (defArgs sIsRoom) (defBody sIsRoom) (defScope sIsRoom) .none kV17 dc17 pm17 an17 cd17 ct17), sl17⟩)
    (c17 : PySem.W.codeIn K cd17 "is_room" = true)
    (k17 : PySem.W.keepIn K (.ref f17) = true)
    (a18 : PySem.W.nsIn K mainGlobals "check_net" = some (some (.ref f18)))
    (l18 : K.lookup f18 = some ⟨oc18, od18, .func (PySem.W.fnOf "check_net" "check_net" (defArgs sCheckNet) (defBody sCheckNet) (defScope sCheckNet) .none kV18 dc18 pm18 an18 cd18 ct18), sl18⟩)
    (c18 : PySem.W.codeIn K cd18 "check_net" = true)
    (k18 : PySem.W.keepIn K (.ref f18) = true)
    (a19 : PySem.W.nsIn K mainGlobals "rooms_led_into" = some (some (.ref f19)))
    (l19 : K.lookup f19 = some ⟨oc19, od19, .func (PySem.W.fnOf "rooms_led_into" "rooms_led_into" (defArgs sRoomsLedInto) (defBody sRoomsLedInto) (defScope sRoomsLedInto) .none kV19 dc19 pm19 an19 cd19 ct19), sl19⟩)
    (c19 : PySem.W.codeIn K cd19 "rooms_led_into" = true)
    (k19 : PySem.W.keepIn K (.ref f19) = true)
    (a20 : PySem.W.nsIn K mainGlobals "rooms_led_from" = some (some (.ref f20)))
    (l20 : K.lookup f20 = some ⟨oc20, od20, .func (PySem.W.fnOf "rooms_led_from" "rooms_led_from" (defArgs sRoomsLedFrom) (defBody sRoomsLedFrom) (defScope sRoomsLedFrom) .none kV20 dc20 pm20 an20 cd20 ct20), sl20⟩)
    (c20 : PySem.W.codeIn K cd20 "rooms_led_from" = true)
    (k20 : PySem.W.keepIn K (.ref f20) = true)
    (a21 : PySem.W.findIn K (.ref C) "__init__" = some (some (.ref f21)))
    (i21 : PySem.W.isFn K (.ref f21) = true)
    (l21 : K.lookup f21 = some ⟨oc21, od21, .func (PySem.W.fnOf "__init__" "Net.__init__" (defArgs sNetInit) (defBody sNetInit) (defScope sNetInit) .none kV21 dc21 pm21 an21 cd21 ct21), sl21⟩)
    (c21 : PySem.W.codeIn K cd21 "Net.__init__" = true)
    (k21 : PySem.W.keepIn K (.ref f21) = true)
    (a22 : PySem.W.findIn K (.ref C) "rooms" = some (some (.ref f22)))
    (i22 : PySem.W.isFn K (.ref f22) = true)
    (l22 : K.lookup f22 = some ⟨oc22, od22, .func (PySem.W.fnOf "rooms" "Net.rooms" (defArgs sNetRooms) (defBody sNetRooms) (defScope sNetRooms) .none kV22 dc22 pm22 an22 cd22 ct22), sl22⟩)
    (c22 : PySem.W.codeIn K cd22 "Net.rooms" = true)
    (k22 : PySem.W.keepIn K (.ref f22) = true)
    (a23 : PySem.W.findIn K (.ref C) "doors" = some (some (.ref f23)))
    (i23 : PySem.W.isFn K (.ref f23) = true)
    (l23 : K.lookup f23 = some ⟨oc23, od23, .func (PySem.W.fnOf "doors" "Net.doors" (defArgs sNetDoors) (defBody sNetDoors) (defScope sNetDoors) .none kV23 dc23 pm23 an23 cd23 ct23), sl23⟩)
    (c23 : PySem.W.codeIn K cd23 "Net.doors" = true)
    (k23 : PySem.W.keepIn K (.ref f23) = true)
    (a24 : PySem.W.findIn K (.ref C) "leads" = some (some (.ref f24)))
    (i24 : PySem.W.isFn K (.ref f24) = true)
    (l24 : K.lookup f24 = some ⟨oc24, od24, .func (PySem.W.fnOf "leads" "Net.leads" (defArgs sNetLeads) (defBody sNetLeads) (defScope sNetLeads) .none kV24 dc24 pm24 an24 cd24 ct24), sl24⟩)
    (c24 : PySem.W.codeIn K cd24 "Net.leads" = true)
    (k24 : PySem.W.keepIn K (.ref f24) = true)
    (a25 : PySem.W.findIn K (.ref C) "led" = some (some (.ref f25)))
    (i25 : PySem.W.isFn K (.ref f25) = true)
    (l25 : K.lookup f25 = some ⟨oc25, od25, .func (PySem.W.fnOf "led" "Net.led" (defArgs sNetLed) (defBody sNetLed) (defScope sNetLed) .none kV25 dc25 pm25 an25 cd25 ct25), sl25⟩)
    (c25 : PySem.W.codeIn K cd25 "Net.led" = true)
    (k25 : PySem.W.keepIn K (.ref f25) = true)
    (a26 : PySem.W.findIn K (.ref C) "check_room" = some (some (.ref f26)))
    (i26 : PySem.W.isFn K (.ref f26) = true)
    (l26 : K.lookup f26 = some ⟨oc26, od26, .func (PySem.W.fnOf "check_room" "Net.check_room" (defArgs sNetCheckRoom) (defBody sNetCheckRoom) (defScope sNetCheckRoom) .none kV26 dc26 pm26 an26 cd26 ct26), sl26⟩)
    (c26 : PySem.W.codeIn K cd26 "Net.check_room" = true)
    (k26 : PySem.W.keepIn K (.ref f26) = true)
    (a27 : PySem.W.nsIn K mainGlobals "_law_cell_at" = some (some (.ref f27)))
    (l27 : K.lookup f27 = some ⟨oc27, od27, .func (PySem.W.fnOf "_law_cell_at" "_law_cell_at" (defArgs sLawCellAt) (defBody sLawCellAt) (defScope sLawCellAt) .none kV27 dc27 pm27 an27 cd27 ct27), sl27⟩)
    (c27 : PySem.W.codeIn K cd27 "_law_cell_at" = true)
    (k27 : PySem.W.keepIn K (.ref f27) = true)
    (a28 : PySem.W.nsIn K mainGlobals "_law_net" = some (some (.ref f28)))
    (l28 : K.lookup f28 = some ⟨oc28, od28, .func (PySem.W.fnOf "_law_net" "_law_net" (defArgs sLawNet) (defBody sLawNet) (defScope sLawNet) .none kV28 dc28 pm28 an28 cd28 ct28), sl28⟩)
    (c28 : PySem.W.codeIn K cd28 "_law_net" = true)
    (k28 : PySem.W.keepIn K (.ref f28) = true)
    (a29 : PySem.W.nsIn K mainGlobals "_law_asked" = some (some (.ref f29)))
    (l29 : K.lookup f29 = some ⟨oc29, od29, .func (PySem.W.fnOf "_law_asked" "_law_asked" (defArgs sLawAsked) (defBody sLawAsked) (defScope sLawAsked) .none kV29 dc29 pm29 an29 cd29 ct29), sl29⟩)
    (c29 : PySem.W.codeIn K cd29 "_law_asked" = true)
    (k29 : PySem.W.keepIn K (.ref f29) = true)
    (a30 : PySem.W.nsIn K mainGlobals "_law_no_room" = some (some (.ref f30)))
    (l30 : K.lookup f30 = some ⟨oc30, od30, .func (PySem.W.fnOf "_law_no_room" "_law_no_room" (defArgs sLawNoRoom) (defBody sLawNoRoom) (defScope sLawNoRoom) .none kV30 dc30 pm30 an30 cd30 ct30), sl30⟩)
    (c30 : PySem.W.codeIn K cd30 "_law_no_room" = true)
    (k30 : PySem.W.keepIn K (.ref f30) = true)
    (a31 : PySem.W.nsIn K mainGlobals "_law_which" = some (some (.ref f31)))
    (l31 : K.lookup f31 = some ⟨oc31, od31, .func (PySem.W.fnOf "_law_which" "_law_which" (defArgs sLawWhich) (defBody sLawWhich) (defScope sLawWhich) .none kV31 dc31 pm31 an31 cd31 ct31), sl31⟩)
    (c31 : PySem.W.codeIn K cd31 "_law_which" = true)
    (k31 : PySem.W.keepIn K (.ref f31) = true)
    (a32 : PySem.W.nsIn K mainGlobals "_law_told" = some (some (.ref f32)))
    (l32 : K.lookup f32 = some ⟨oc32, od32, .func (PySem.W.fnOf "_law_told" "_law_told" (defArgs sLawTold) (defBody sLawTold) (defScope sLawTold) .none kV32 dc32 pm32 an32 cd32 ct32), sl32⟩)
    (c32 : PySem.W.codeIn K cd32 "_law_told" = true)
    (k32 : PySem.W.keepIn K (.ref f32) = true)
    (a33 : PySem.W.nsIn K mainGlobals "law" = some (some (.ref f33)))
    (l33 : K.lookup f33 = some ⟨oc33, od33, .func (PySem.W.fnOf "law" "law" (defArgs sLaw) (defBody sLaw) (defScope sLaw) .none kV33 dc33 pm33 an33 cd33 ct33), sl33⟩)
    (c33 : PySem.W.codeIn K cd33 "law" = true)
    (k33 : PySem.W.keepIn K (.ref f33) = true)
    (pg : PySem.W.plainGet K C Str.empty = true)
    (hd : PySem.W.hasDictIn K C = true)
    (po : PySem.W.plainOver K C = true)
    (sa : PySem.W.findIn K (.ref C) "__setattr__" = some (some (.builtin "object.__setattr__")))
    (mk : PySem.W.makesIn K C = true)
    (kc : PySem.W.keepIn K (.ref C) = true)
    (n_size : PySem.W.findIn K (.ref C) "size" = some none)
    (n_pairs : PySem.W.findIn K (.ref C) "pairs" = some none)
    (n_onward : PySem.W.findIn K (.ref C) "onward" = some none)
    (n_backward : PySem.W.findIn K (.ref C) "backward" = some none)
    (e_int_int : PySem.W.kitOne K (.type "int") (.type "int") = some true)
    (e_int_bool : PySem.W.kitOne K (.type "int") (.type "bool") = some false)
    (e_bool_bool : PySem.W.kitOne K (.type "bool") (.type "bool") = some true)
    (e_list_list : PySem.W.kitOne K (.type "list") (.type "list") = some true)
    (e_tuple_tuple : PySem.W.kitOne K (.type "tuple") (.type "tuple") = some true)
    (z_len : PySem.W.nsIn K mainGlobals "len" = some none)
    (z_range : PySem.W.nsIn K mainGlobals "range" = some none)
    (z_sorted : PySem.W.nsIn K mainGlobals "sorted" = some none)
    (z_set : PySem.W.nsIn K mainGlobals "set" = some none)
    (z_isinstance : PySem.W.nsIn K mainGlobals "isinstance" = some none)
    (z_list : PySem.W.nsIn K mainGlobals "list" = some none)
    (z_max : PySem.W.nsIn K mainGlobals "max" = some none)
    (z_enumerate : PySem.W.nsIn K mainGlobals "enumerate" = some none)
    (z_any : PySem.W.nsIn K mainGlobals "any" = some none)
    (z_ValueError : PySem.W.nsIn K mainGlobals "ValueError" = some none)
    (v0 : PySem.W.nsIn K mainGlobals "ENTRANCE" = some (some (.int 0 tk0)))
    (v1 : PySem.W.nsIn K mainGlobals "MOST_ROOMS" = some (some (.int 40 tk1)))
    (v2 : PySem.W.nsIn K mainGlobals "MOST_DOORS" = some (some (.int 100 tk2)))
    (xgPassError : PySem.W.nsIn K mainGlobals "PassError" = some (some (.ref xPassError)))
    (xePassError : PySem.W.excIn K xPassError bmV "ValueError.__new__" = true)
    (xgaPassError : PySem.W.findIn K (.ref xPassError) "__getattribute__" = some (some (.builtin "BaseException.__getattribute__")))
    (xghPassError : PySem.W.findIn K (.ref xPassError) "__getattr__" = some none)
    (xfaPassError : PySem.W.findIn K (.ref xPassError) "__class__" = some (some (.builtin "object.__class__")))
    (xfsPassError : PySem.W.specialIn K (.builtin "object.__class__") "__get__" = some (some (.builtin "getset_descriptor.__get__")))
    (xftPassError : PySem.W.takesIn K (.builtin "object.__class__") = some true)
    (xmoPassError : PySem.W.mroIn K xPassError (.type "object") = some true)
    (xmbPassError : PySem.W.mroIn K xPassError (.type "BaseException") = some true)
    (xgNoNet : PySem.W.nsIn K mainGlobals "NoNet" = some (some (.ref xNoNet)))
    (xeNoNet : PySem.W.excIn K xNoNet bmV "ValueError.__new__" = true)
    (xgaNoNet : PySem.W.findIn K (.ref xNoNet) "__getattribute__" = some (some (.builtin "BaseException.__getattribute__")))
    (xghNoNet : PySem.W.findIn K (.ref xNoNet) "__getattr__" = some none)
    (xfaNoNet : PySem.W.findIn K (.ref xNoNet) "__class__" = some (some (.builtin "object.__class__")))
    (xfsNoNet : PySem.W.specialIn K (.builtin "object.__class__") "__get__" = some (some (.builtin "getset_descriptor.__get__")))
    (xftNoNet : PySem.W.takesIn K (.builtin "object.__class__") = some true)
    (xmoNoNet : PySem.W.mroIn K xNoNet (.type "object") = some true)
    (xmbNoNet : PySem.W.mroIn K xNoNet (.type "BaseException") = some true)
    (xgNoRoom : PySem.W.nsIn K mainGlobals "NoRoom" = some (some (.ref xNoRoom)))
    (xeNoRoom : PySem.W.excIn K xNoRoom bmV "ValueError.__new__" = true)
    (xgaNoRoom : PySem.W.findIn K (.ref xNoRoom) "__getattribute__" = some (some (.builtin "BaseException.__getattribute__")))
    (xghNoRoom : PySem.W.findIn K (.ref xNoRoom) "__getattr__" = some none)
    (xfaNoRoom : PySem.W.findIn K (.ref xNoRoom) "__class__" = some (some (.builtin "object.__class__")))
    (xfsNoRoom : PySem.W.specialIn K (.builtin "object.__class__") "__get__" = some (some (.builtin "getset_descriptor.__get__")))
    (xftNoRoom : PySem.W.takesIn K (.builtin "object.__class__") = some true)
    (xmoNoRoom : PySem.W.mroIn K xNoRoom (.type "object") = some true)
    (xmbNoRoom : PySem.W.mroIn K xNoRoom (.type "BaseException") = some true)
    (xgUnreached : PySem.W.nsIn K mainGlobals "Unreached" = some (some (.ref xUnreached)))
    (xeUnreached : PySem.W.excIn K xUnreached bmV "ValueError.__new__" = true)
    (xgaUnreached : PySem.W.findIn K (.ref xUnreached) "__getattribute__" = some (some (.builtin "BaseException.__getattribute__")))
    (xghUnreached : PySem.W.findIn K (.ref xUnreached) "__getattr__" = some none)
    (xfaUnreached : PySem.W.findIn K (.ref xUnreached) "__class__" = some (some (.builtin "object.__class__")))
    (xfsUnreached : PySem.W.specialIn K (.builtin "object.__class__") "__get__" = some (some (.builtin "getset_descriptor.__get__")))
    (xftUnreached : PySem.W.takesIn K (.builtin "object.__class__") = some true)
    (xmoUnreached : PySem.W.mroIn K xUnreached (.type "object") = some true)
    (xmbUnreached : PySem.W.mroIn K xUnreached (.type "BaseException") = some true)
    (tmR : PySem.W.exmOne K (.ref xNoRoom) (.ref xPassError) = some true)
    (tkRN : PySem.W.kitOne K (.ref xNoRoom) (.ref xNoNet) = some false)
    (tkRR : PySem.W.kitOne K (.ref xNoRoom) (.ref xNoRoom) = some true)
    (tkRU : PySem.W.kitOne K (.ref xNoRoom) (.ref xUnreached) = some false)
    (tkRV : PySem.W.kitOne K (.ref xNoRoom) (.type "ValueError") = some true)
    (tmU : PySem.W.exmOne K (.ref xUnreached) (.ref xPassError) = some true)
    (tkUN : PySem.W.kitOne K (.ref xUnreached) (.ref xNoNet) = some false)
    (tkUR : PySem.W.kitOne K (.ref xUnreached) (.ref xNoRoom) = some false)
    (tkUU : PySem.W.kitOne K (.ref xUnreached) (.ref xUnreached) = some true)
    (tkUV : PySem.W.kitOne K (.ref xUnreached) (.type "ValueError") = some true)
    : ∃ fd : FuncData, (∀ (s : Shared) (v : Value), BindsTo s fd ⟨[v], []⟩ [("script", v)]) ∧ ∀ base : Heap, K.In base → base.Ns mainGlobals mg → FnOk l.prog w K mg base CX0 12 fa fd ["script"] (sp_law K 0) := by
  have e := hfa.symm.trans (PySem.W.mg_of X G a33)
  cases e
  have U0 := fun_mk (st := sStepsPast) l0 c0 k0
  have B0 := U0.binds (ps := ["net", "closed"]) fun _ _ _ _ _ _ us hl => match us, hl with | [_, _], _ => rfl
  have U1 := fun_mk (st := sTraceWay) l1 c1 k1
  have B1 := U1.binds (ps := ["step_before", "room"]) fun _ _ _ _ _ _ us hl => match us, hl with | [_, _], _ => rfl
  have U2 := fun_mk (st := sCheckAllReached) l2 c2 k2
  have B2 := U2.binds (ps := ["net", "some"]) fun _ _ _ _ _ _ us hl => match us, hl with | [_, _], _ => rfl
  have U3 := fun_mk (st := sCheckReached) l3 c3 k3
  have B3 := U3.binds (ps := ["net", "room"]) fun _ _ _ _ _ _ us hl => match us, hl with | [_, _], _ => rfl
  have U4 := fun_mk (st := sReached) l4 c4 k4
  have B4 := U4.binds (ps := ["net"]) fun _ _ _ _ _ _ us hl => match us, hl with | [_], _ => rfl
  have U5 := fun_mk (st := sWayTo) l5 c5 k5
  have B5 := U5.binds (ps := ["net", "room"]) fun _ _ _ _ _ _ us hl => match us, hl with | [_, _], _ => rfl
  have U6 := fun_mk (st := sWayPast) l6 c6 k6
  have B6 := U6.binds (ps := ["net", "room", "other"]) fun _ _ _ _ _ _ us hl => match us, hl with | [_, _, _], _ => rfl
  have U7 := fun_mk (st := sGuarded) l7 c7 k7
  have B7 := U7.binds (ps := ["net", "room"]) fun _ _ _ _ _ _ us hl => match us, hl with | [_, _], _ => rfl
  have U8 := fun_mk (st := sGuardsAll) l8 c8 k8
  have B8 := U8.binds (ps := ["net", "room", "some"]) fun _ _ _ _ _ _ us hl => match us, hl with | [_, _, _], _ => rfl
  have U9 := fun_mk (st := sGuards) l9 c9 k9
  have B9 := U9.binds (ps := ["net", "room", "other"]) fun _ _ _ _ _ _ us hl => match us, hl with | [_, _, _], _ => rfl
  have U10 := fun_mk (st := sGuardsOf) l10 c10 k10
  have B10 := U10.binds (ps := ["net", "room"]) fun _ _ _ _ _ _ us hl => match us, hl with | [_, _], _ => rfl
  have U11 := fun_mk (st := sNearest) l11 c11 k11
  have B11 := U11.binds (ps := ["net", "room"]) fun _ _ _ _ _ _ us hl => match us, hl with | [_, _], _ => rfl
  have U12 := fun_mk (st := sFirstDoors) l12 c12 k12
  have B12 := U12.binds (ps := ["net", "room"]) fun _ _ _ _ _ _ us hl => match us, hl with | [_, _], _ => rfl
  have U13 := fun_mk (st := sBarsOf) l13 c13 k13
  have B13 := U13.binds (ps := ["net", "room"]) fun _ _ _ _ _ _ us hl => match us, hl with | [_, _], _ => rfl
  have U14 := fun_mk (st := sCommon) l14 c14 k14
  have B14 := U14.binds (ps := ["net", "some"]) fun _ _ _ _ _ _ us hl => match us, hl with | [_, _], _ => rfl
  have U15 := fun_mk (st := sEdge) l15 c15 k15
  have B15 := U15.binds (ps := ["net", "room"]) fun _ _ _ _ _ _ us hl => match us, hl with | [_, _], _ => rfl
  have U16 := fun_mk (st := sJoins) l16 c16 k16
  have B16 := U16.binds (ps := ["net", "some"]) fun _ _ _ _ _ _ us hl => match us, hl with | [_, _], _ => rfl
  have U17 := fun_mk (st := sIsRoom) l17 c17 k17
  have B17 := U17.binds (ps := ["rooms", "room"]) fun _ _ _ _ _ _ us hl => match us, hl with | [_, _], _ => rfl
  have U18 := fun_mk (st := sCheckNet) l18 c18 k18
  have B18 := U18.binds (ps := ["rooms", "doors"]) fun _ _ _ _ _ _ us hl => match us, hl with | [_, _], _ => rfl
  have U19 := fun_mk (st := sRoomsLedInto) l19 c19 k19
  have B19 := U19.binds (ps := ["doors", "room"]) fun _ _ _ _ _ _ us hl => match us, hl with | [_, _], _ => rfl
  have U20 := fun_mk (st := sRoomsLedFrom) l20 c20 k20
  have B20 := U20.binds (ps := ["doors", "room"]) fun _ _ _ _ _ _ us hl => match us, hl with | [_, _], _ => rfl
  have U21 := fun_mk (st := sNetInit) l21 c21 k21
  have B21 := U21.binds (ps := ["self", "rooms", "doors"]) fun _ _ _ _ _ _ us hl => match us, hl with | [_, _, _], _ => rfl
  have U22 := fun_mk (st := sNetRooms) l22 c22 k22
  have B22 := U22.binds (ps := ["self"]) fun _ _ _ _ _ _ us hl => match us, hl with | [_], _ => rfl
  have U23 := fun_mk (st := sNetDoors) l23 c23 k23
  have B23 := U23.binds (ps := ["self"]) fun _ _ _ _ _ _ us hl => match us, hl with | [_], _ => rfl
  have U24 := fun_mk (st := sNetLeads) l24 c24 k24
  have B24 := U24.binds (ps := ["self", "room"]) fun _ _ _ _ _ _ us hl => match us, hl with | [_, _], _ => rfl
  have U25 := fun_mk (st := sNetLed) l25 c25 k25
  have B25 := U25.binds (ps := ["self", "room"]) fun _ _ _ _ _ _ us hl => match us, hl with | [_, _], _ => rfl
  have U26 := fun_mk (st := sNetCheckRoom) l26 c26 k26
  have B26 := U26.binds (ps := ["self", "room"]) fun _ _ _ _ _ _ us hl => match us, hl with | [_, _], _ => rfl
  have U27 := fun_mk (st := sLawCellAt) l27 c27 k27
  have B27 := U27.binds (ps := ["script", "k"]) fun _ _ _ _ _ _ us hl => match us, hl with | [_, _], _ => rfl
  have U28 := fun_mk (st := sLawNet) l28 c28 k28
  have B28 := U28.binds (ps := ["script", "at", "most", "extra"]) fun _ _ _ _ _ _ us hl => match us, hl with | [_, _, _, _], _ => rfl
  have U29 := fun_mk (st := sLawAsked) l29 c29 k29
  have B29 := U29.binds (ps := ["net", "way", "room", "some"]) fun _ _ _ _ _ _ us hl => match us, hl with | [_, _, _, _], _ => rfl
  have U30 := fun_mk (st := sLawNoRoom) l30 c30 k30
  have B30 := U30.binds (ps := ["net", "way", "room"]) fun _ _ _ _ _ _ us hl => match us, hl with | [_, _, _], _ => rfl
  have U31 := fun_mk (st := sLawWhich) l31 c31 k31
  have B31 := U31.binds (ps := ["e"]) fun _ _ _ _ _ _ us hl => match us, hl with | [_], _ => rfl
  have U32 := fun_mk (st := sLawTold) l32 c32 k32
  have B32 := U32.binds (ps := ["net", "way", "kind", "room", "some"]) fun _ _ _ _ _ _ us hl => match us, hl with | [_, _, _, _, _], _ => rfl
  have U33 := fun_mk (st := sLaw) l33 c33 k33
  have B33 := U33.binds (ps := ["script"]) fun _ _ _ _ _ _ us hl => match us, hl with | [_], _ => rfl
  have T : Txt K mg ⟨C, f0, (PySem.W.fnOf "steps_past" "steps_past" (defArgs sStepsPast) (defBody sStepsPast) (defScope sStepsPast) .none kV0 dc0 pm0 an0 cd0 ct0), f1, (PySem.W.fnOf "trace_way" "trace_way" (defArgs sTraceWay) (defBody sTraceWay) (defScope sTraceWay) .none kV1 dc1 pm1 an1 cd1 ct1), f2, (PySem.W.fnOf "check_all_reached" "check_all_reached" (defArgs sCheckAllReached) (defBody sCheckAllReached) (defScope sCheckAllReached) .none kV2 dc2 pm2 an2 cd2 ct2), f3, (PySem.W.fnOf "check_reached" "check_reached" (defArgs sCheckReached) (defBody sCheckReached) (defScope sCheckReached) .none kV3 dc3 pm3 an3 cd3 ct3), f4, (PySem.W.fnOf "reached" "reached" (defArgs sReached) (defBody sReached) (defScope sReached) .none kV4 dc4 pm4 an4 cd4 ct4), f5, (PySem.W.fnOf "way_to" "way_to" (defArgs sWayTo) (defBody sWayTo) (defScope sWayTo) .none kV5 dc5 pm5 an5 cd5 ct5), f6, (PySem.W.fnOf "way_past" "way_past" (defArgs sWayPast) (defBody sWayPast) (defScope sWayPast) .none kV6 dc6 pm6 an6 cd6 ct6), f7, (PySem.W.fnOf "guarded" "guarded" (defArgs sGuarded) (defBody sGuarded) (defScope sGuarded) .none kV7 dc7 pm7 an7 cd7 ct7), f8, (PySem.W.fnOf "guards_all" "guards_all" (defArgs sGuardsAll) (defBody sGuardsAll) (defScope sGuardsAll) .none kV8 dc8 pm8 an8 cd8 ct8), f9, (PySem.W.fnOf "guards" "guards" (defArgs sGuards) (defBody sGuards) (defScope sGuards) .none kV9 dc9 pm9 an9 cd9 ct9), f10, (PySem.W.fnOf "guards_of" "guards_of" (defArgs sGuardsOf) (defBody sGuardsOf) (defScope sGuardsOf) .none kV10 dc10 pm10 an10 cd10 ct10), f11, (PySem.W.fnOf "nearest" "nearest" (defArgs sNearest) (defBody sNearest) (defScope sNearest) .none kV11 dc11 pm11 an11 cd11 ct11), f12, (PySem.W.fnOf "first_doors" "first_doors" (defArgs sFirstDoors) (defBody sFirstDoors) (defScope sFirstDoors) .none kV12 dc12 pm12 an12 cd12 ct12), f13, (PySem.W.fnOf "bars_of" "bars_of" (defArgs sBarsOf) (defBody sBarsOf) (defScope sBarsOf) .none kV13 dc13 pm13 an13 cd13 ct13), f14, (PySem.W.fnOf "common" "common" (defArgs sCommon) (defBody sCommon) (defScope sCommon) .none kV14 dc14 pm14 an14 cd14 ct14), f15, (PySem.W.fnOf "edge" "edge" (defArgs sEdge) (defBody sEdge) (defScope sEdge) .none kV15 dc15 pm15 an15 cd15 ct15), f16, (PySem.W.fnOf "joins" "joins" (defArgs sJoins) (defBody sJoins) (defScope sJoins) .none kV16 dc16 pm16 an16 cd16 ct16), f17, (PySem.W.fnOf "is_room" "is_room" (defArgs sIsRoom) (defBody sIsRoom) (defScope sIsRoom) .none kV17 dc17 pm17 an17 cd17 ct17), f18, (PySem.W.fnOf "check_net" "check_net" (defArgs sCheckNet) (defBody sCheckNet) (defScope sCheckNet) .none kV18 dc18 pm18 an18 cd18 ct18), f19, (PySem.W.fnOf "rooms_led_into" "rooms_led_into" (defArgs sRoomsLedInto) (defBody sRoomsLedInto) (defScope sRoomsLedInto) .none kV19 dc19 pm19 an19 cd19 ct19), f20, (PySem.W.fnOf "rooms_led_from" "rooms_led_from" (defArgs sRoomsLedFrom) (defBody sRoomsLedFrom) (defScope sRoomsLedFrom) .none kV20 dc20 pm20 an20 cd20 ct20), f21, (PySem.W.fnOf "__init__" "Net.__init__" (defArgs sNetInit) (defBody sNetInit) (defScope sNetInit) .none kV21 dc21 pm21 an21 cd21 ct21), f22, (PySem.W.fnOf "rooms" "Net.rooms" (defArgs sNetRooms) (defBody sNetRooms) (defScope sNetRooms) .none kV22 dc22 pm22 an22 cd22 ct22), f23, (PySem.W.fnOf "doors" "Net.doors" (defArgs sNetDoors) (defBody sNetDoors) (defScope sNetDoors) .none kV23 dc23 pm23 an23 cd23 ct23), f24, (PySem.W.fnOf "leads" "Net.leads" (defArgs sNetLeads) (defBody sNetLeads) (defScope sNetLeads) .none kV24 dc24 pm24 an24 cd24 ct24), f25, (PySem.W.fnOf "led" "Net.led" (defArgs sNetLed) (defBody sNetLed) (defScope sNetLed) .none kV25 dc25 pm25 an25 cd25 ct25), f26, (PySem.W.fnOf "check_room" "Net.check_room" (defArgs sNetCheckRoom) (defBody sNetCheckRoom) (defScope sNetCheckRoom) .none kV26 dc26 pm26 an26 cd26 ct26), f27, (PySem.W.fnOf "_law_cell_at" "_law_cell_at" (defArgs sLawCellAt) (defBody sLawCellAt) (defScope sLawCellAt) .none kV27 dc27 pm27 an27 cd27 ct27), f28, (PySem.W.fnOf "_law_net" "_law_net" (defArgs sLawNet) (defBody sLawNet) (defScope sLawNet) .none kV28 dc28 pm28 an28 cd28 ct28), f29, (PySem.W.fnOf "_law_asked" "_law_asked" (defArgs sLawAsked) (defBody sLawAsked) (defScope sLawAsked) .none kV29 dc29 pm29 an29 cd29 ct29), f30, (PySem.W.fnOf "_law_no_room" "_law_no_room" (defArgs sLawNoRoom) (defBody sLawNoRoom) (defScope sLawNoRoom) .none kV30 dc30 pm30 an30 cd30 ct30), f31, (PySem.W.fnOf "_law_which" "_law_which" (defArgs sLawWhich) (defBody sLawWhich) (defScope sLawWhich) .none kV31 dc31 pm31 an31 cd31 ct31), f32, (PySem.W.fnOf "_law_told" "_law_told" (defArgs sLawTold) (defBody sLawTold) (defScope sLawTold) .none kV32 dc32 pm32 an32 cd32 ct32), fa, (PySem.W.fnOf "law" "law" (defArgs sLaw) (defBody sLaw) (defScope sLaw) .none kV33 dc33 pm33 an33 cd33 ct33), ⟨xPassError, xNoNet, xNoRoom, xUnreached⟩⟩ :=
    ⟨⟨⟨pg, hd, po, sa⟩, n_size, n_pairs, n_onward, n_backward, e_int_int, e_int_bool, e_bool_bool, e_list_list, e_tuple_tuple⟩,
    PySem.W.mg_of X G aC,
    ⟨mk, a21, i21, kc⟩,
    ⟨U0, B0, PySem.W.mg_of X G a0⟩,
    ⟨U1, B1, PySem.W.mg_of X G a1⟩,
    ⟨U2, B2, PySem.W.mg_of X G a2⟩,
    ⟨U3, B3, PySem.W.mg_of X G a3⟩,
    ⟨U4, B4, PySem.W.mg_of X G a4⟩,
    ⟨U5, B5, PySem.W.mg_of X G a5⟩,
    ⟨U6, B6, PySem.W.mg_of X G a6⟩,
    ⟨U7, B7, PySem.W.mg_of X G a7⟩,
    ⟨U8, B8, PySem.W.mg_of X G a8⟩,
    ⟨U9, B9, PySem.W.mg_of X G a9⟩,
    ⟨U10, B10, PySem.W.mg_of X G a10⟩,
    ⟨U11, B11, PySem.W.mg_of X G a11⟩,
    ⟨U12, B12, PySem.W.mg_of X G a12⟩,
    ⟨U13, B13, PySem.W.mg_of X G a13⟩,
    ⟨U14, B14, PySem.W.mg_of X G a14⟩,
    ⟨U15, B15, PySem.W.mg_of X G a15⟩,
    ⟨U16, B16, PySem.W.mg_of X G a16⟩,
    ⟨U17, B17, PySem.W.mg_of X G a17⟩,
    ⟨U18, B18, PySem.W.mg_of X G a18⟩,
    ⟨U19, B19, PySem.W.mg_of X G a19⟩,
    ⟨U20, B20, PySem.W.mg_of X G a20⟩,
    ⟨U21, B21, ⟨a21, i21, k21⟩⟩,
    ⟨U22, B22, ⟨a22, i22, k22⟩⟩,
    ⟨U23, B23, ⟨a23, i23, k23⟩⟩,
    ⟨U24, B24, ⟨a24, i24, k24⟩⟩,
    ⟨U25, B25, ⟨a25, i25, k25⟩⟩,
    ⟨U26, B26, ⟨a26, i26, k26⟩⟩,
    ⟨U27, B27, PySem.W.mg_of X G a27⟩,
    ⟨U28, B28, PySem.W.mg_of X G a28⟩,
    ⟨U29, B29, PySem.W.mg_of X G a29⟩,
    ⟨U30, B30, PySem.W.mg_of X G a30⟩,
    ⟨U31, B31, PySem.W.mg_of X G a31⟩,
    ⟨U32, B32, PySem.W.mg_of X G a32⟩,
    ⟨U33, B33, PySem.W.mg_of X G a33⟩,
    ⟨⟨xgaNoRoom, xghNoRoom, xfaNoRoom, xfsNoRoom, xftNoRoom, xmoNoRoom, xmbNoRoom⟩, tmR, tkRN, tkRR, tkRU, tkRV, ⟨xgaUnreached, xghUnreached, xfaUnreached, xfsUnreached, xftUnreached, xmoUnreached, xmbUnreached⟩, tmU, tkUN, tkUR, tkUU, tkUV, xgNoRoom, xgUnreached⟩,
    ⟨PySem.W.mg_of X G xgPassError, xePassError, ⟨xgaPassError, xghPassError, xfaPassError, xfsPassError, xftPassError, xmoPassError, xmbPassError⟩⟩,
    ⟨PySem.W.mg_of X G xgNoNet, xeNoNet, ⟨xgaNoNet, xghNoNet, xfaNoNet, xfsNoNet, xftNoNet, xmoNoNet, xmbNoNet⟩⟩,
    ⟨PySem.W.mg_of X G xgNoRoom, xeNoRoom, ⟨xgaNoRoom, xghNoRoom, xfaNoRoom, xfsNoRoom, xftNoRoom, xmoNoRoom, xmbNoRoom⟩⟩,
    ⟨PySem.W.mg_of X G xgUnreached, xeUnreached, ⟨xgaUnreached, xghUnreached, xfaUnreached, xfsUnreached, xftUnreached, xmoUnreached, xmbUnreached⟩⟩,
    PySem.W.mg_none_of X G z_len,
    PySem.W.mg_none_of X G z_range,
    PySem.W.mg_none_of X G z_sorted,
    PySem.W.mg_none_of X G z_set,
    PySem.W.mg_none_of X G z_isinstance,
    PySem.W.mg_none_of X G z_list,
    PySem.W.mg_none_of X G z_max,
    PySem.W.mg_none_of X G z_enumerate,
    PySem.W.mg_none_of X G z_any,
    PySem.W.mg_none_of X G z_ValueError,
    ⟨_, PySem.W.mg_of X G v0⟩,
    ⟨_, PySem.W.mg_of X G v1⟩,
    ⟨_, PySem.W.mg_of X G v2⟩⟩
  exact ⟨_, fun s v => .of_eq rfl, fun base _ _ => ok_law T⟩
theorem walk {l : PySem.W.OpenLaw} {q : Program} {loose : List Str} {XP : (Str → Option Value) → Heap → Prop} {YP : World → Heap → Prop} {d : DefRec} {K : Params → PySem.W.Frag} (hn : l.most = some 63) (hdf : d.params.defaults = [])
    (hY : ∀ (w : World) (h : Heap), YP w h → (K w.params).In h)
    (F : ∀ (w : World) (mg : Str → Option Value) (fa : Addr) (h : Heap), (K w.params).In h → h.Ns mainGlobals mg → mg d.name = some (.ref fa) →
      ∃ fd : FuncData, (∀ (s : Shared) (u : Value), BindsTo s fd ⟨[u], []⟩ [("script", u)]) ∧ ∀ base : Heap, (K w.params).In base → base.Ns mainGlobals mg → FnOk l.prog w (K w.params) mg base CX0 12 fa fd ["script"] (sp_law (K w.params) 0)) :
    PySem.W.WalkO q loose XP YP l.row.toRowW d [] (fun f vs => PySem.call f vs) :=
  L2.walk_of (n := 63) (k := 12) (x := "script") (CX := fun _ => CX0) (sp := fun w => sp_law (K w.params) 0) hn (by decide) hdf ⟨rfl, by decide, by decide⟩ hY F (fun _ _ a ns hl _ hS => ⟨a, ns, rfl, hS, hl, fun _ => rfl⟩) fun _ _ _ _ _ z => z
end My
end
open PySem PySem.W PyProof.Rows
set_option maxRecDepth 100000 in
set_option maxHeartbeats 0 in
theorem PySem.Challenge.cw_mustpass_k14_each_refusal_its_own_holds : PySem.Challenge.rw_mustpass_k14_each_refusal_its_own.Holds := by
  w_on; o_law; k_head; (case hw => w_witness2)
  k_fill
  refine My.walk (l := PySem.Challenge.rw_mustpass_k14_each_refusal_its_own) rfl rfl (fun w h Y => PySem.W.kIn_of Y) ?F
  case F =>
    intro w mg fa h KX G hmg
    refine' My.all_mk KX G hmg ?aC ?a0 ?l0 ?c0 ?k0 ?a1 ?l1 ?c1 ?k1 ?a2 ?l2 ?c2 ?k2 ?a3 ?l3 ?c3 ?k3 ?a4 ?l4 ?c4 ?k4 ?a5 ?l5 ?c5 ?k5 ?a6 ?l6 ?c6 ?k6 ?a7 ?l7 ?c7 ?k7 ?a8 ?l8 ?c8 ?k8 ?a9 ?l9 ?c9 ?k9 ?a10 ?l10 ?c10 ?k10 ?a11 ?l11 ?c11 ?k11 ?a12 ?l12 ?c12 ?k12 ?a13 ?l13 ?c13 ?k13 ?a14 ?l14 ?c14 ?k14 ?a15 ?l15 ?c15 ?k15 ?a16 ?l16 ?c16 ?k16 ?a17 ?l17 ?c17 ?k17 ?a18 ?l18 ?c18 ?k18 ?a19 ?l19 ?c19 ?k19 ?a20 ?l20 ?c20 ?k20 ?a21 ?i21 ?l21 ?c21 ?k21 ?a22 ?i22 ?l22 ?c22 ?k22 ?a23 ?i23 ?l23 ?c23 ?k23 ?a24 ?i24 ?l24 ?c24 ?k24 ?a25 ?i25 ?l25 ?c25 ?k25 ?a26 ?i26 ?l26 ?c26 ?k26 ?a27 ?l27 ?c27 ?k27 ?a28 ?l28 ?c28 ?k28 ?a29 ?l29 ?c29 ?k29 ?a30 ?l30 ?c30 ?k30 ?a31 ?l31 ?c31 ?k31 ?a32 ?l32 ?c32 ?k32 ?a33 ?l33 ?c33 ?k33 ?pg ?hd ?po ?sa ?mk ?kc ?n_size ?n_pairs ?n_onward ?n_backward ?e_int_int ?e_int_bool ?e_bool_bool ?e_list_list ?e_tuple_tuple ?z_len ?z_range ?z_sorted ?z_set ?z_isinstance ?z_list ?z_max ?z_enumerate ?z_any ?z_ValueError ?v0 ?v1 ?v2 ?xgPassError ?xePassError ?xgaPassError ?xghPassError ?xfaPassError ?xfsPassError ?xftPassError ?xmoPassError ?xmbPassError ?xgNoNet ?xeNoNet ?xgaNoNet ?xghNoNet ?xfaNoNet ?xfsNoNet ?xftNoNet ?xmoNoNet ?xmbNoNet ?xgNoRoom ?xeNoRoom ?xgaNoRoom ?xghNoRoom ?xfaNoRoom ?xfsNoRoom ?xftNoRoom ?xmoNoRoom ?xmbNoRoom ?xgUnreached ?xeUnreached ?xgaUnreached ?xghUnreached ?xfaUnreached ?xfsUnreached ?xftUnreached ?xmoUnreached ?xmbUnreached ?tmR ?tkRN ?tkRR ?tkRU ?tkRV ?tmU ?tkUN ?tkUR ?tkUU ?tkUV
    (case aC => k_is)
    (case a0 => k_is)
    (case l0 => k_is)
    (case c0 => k_is)
    (case k0 => k_is)
    (case a1 => k_is)
    (case l1 => k_is)
    (case c1 => k_is)
    (case k1 => k_is)
    (case a2 => k_is)
    (case l2 => k_is)
    (case c2 => k_is)
    (case k2 => k_is)
    (case a3 => k_is)
    (case l3 => k_is)
    (case c3 => k_is)
    (case k3 => k_is)
    (case a4 => k_is)
    (case l4 => k_is)
    (case c4 => k_is)
    (case k4 => k_is)
    (case a5 => k_is)
    (case l5 => k_is)
    (case c5 => k_is)
    (case k5 => k_is)
    (case a6 => k_is)
    (case l6 => k_is)
    (case c6 => k_is)
    (case k6 => k_is)
    (case a7 => k_is)
    (case l7 => k_is)
    (case c7 => k_is)
    (case k7 => k_is)
    (case a8 => k_is)
    (case l8 => k_is)
    (case c8 => k_is)
    (case k8 => k_is)
    (case a9 => k_is)
    (case l9 => k_is)
    (case c9 => k_is)
    (case k9 => k_is)
    (case a10 => k_is)
    (case l10 => k_is)
    (case c10 => k_is)
    (case k10 => k_is)
    (case a11 => k_is)
    (case l11 => k_is)
    (case c11 => k_is)
    (case k11 => k_is)
    (case a12 => k_is)
    (case l12 => k_is)
    (case c12 => k_is)
    (case k12 => k_is)
    (case a13 => k_is)
    (case l13 => k_is)
    (case c13 => k_is)
    (case k13 => k_is)
    (case a14 => k_is)
    (case l14 => k_is)
    (case c14 => k_is)
    (case k14 => k_is)
    (case a15 => k_is)
    (case l15 => k_is)
    (case c15 => k_is)
    (case k15 => k_is)
    (case a16 => k_is)
    (case l16 => k_is)
    (case c16 => k_is)
    (case k16 => k_is)
    (case a17 => k_is)
    (case l17 => k_is)
    (case c17 => k_is)
    (case k17 => k_is)
    (case a18 => k_is)
    (case l18 => k_is)
    (case c18 => k_is)
    (case k18 => k_is)
    (case a19 => k_is)
    (case l19 => k_is)
    (case c19 => k_is)
    (case k19 => k_is)
    (case a20 => k_is)
    (case l20 => k_is)
    (case c20 => k_is)
    (case k20 => k_is)
    (case a21 => k_is)
    (case i21 => k_is)
    (case l21 => k_is)
    (case c21 => k_is)
    (case k21 => k_is)
    (case a22 => k_is)
    (case i22 => k_is)
    (case l22 => k_is)
    (case c22 => k_is)
    (case k22 => k_is)
    (case a23 => k_is)
    (case i23 => k_is)
    (case l23 => k_is)
    (case c23 => k_is)
    (case k23 => k_is)
    (case a24 => k_is)
    (case i24 => k_is)
    (case l24 => k_is)
    (case c24 => k_is)
    (case k24 => k_is)
    (case a25 => k_is)
    (case i25 => k_is)
    (case l25 => k_is)
    (case c25 => k_is)
    (case k25 => k_is)
    (case a26 => k_is)
    (case i26 => k_is)
    (case l26 => k_is)
    (case c26 => k_is)
    (case k26 => k_is)
    (case a27 => k_is)
    (case l27 => k_is)
    (case c27 => k_is)
    (case k27 => k_is)
    (case a28 => k_is)
    (case l28 => k_is)
    (case c28 => k_is)
    (case k28 => k_is)
    (case a29 => k_is)
    (case l29 => k_is)
    (case c29 => k_is)
    (case k29 => k_is)
    (case a30 => k_is)
    (case l30 => k_is)
    (case c30 => k_is)
    (case k30 => k_is)
    (case a31 => k_is)
    (case l31 => k_is)
    (case c31 => k_is)
    (case k31 => k_is)
    (case a32 => k_is)
    (case l32 => k_is)
    (case c32 => k_is)
    (case k32 => k_is)
    (case a33 => k_is)
    (case l33 => k_is)
    (case c33 => k_is)
    (case k33 => k_is)
    (case pg => k_is)
    (case hd => k_is)
    (case po => k_is)
    (case sa => k_is)
    (case mk => k_is)
    (case kc => k_is)
    (case n_size => k_is)
    (case n_pairs => k_is)
    (case n_onward => k_is)
    (case n_backward => k_is)
    (case e_int_int => kit_is)
    (case e_int_bool => kit_is)
    (case e_bool_bool => kit_is)
    (case e_list_list => kit_is)
    (case e_tuple_tuple => kit_is)
    (case z_len => k_is)
    (case z_range => k_is)
    (case z_sorted => k_is)
    (case z_set => k_is)
    (case z_isinstance => k_is)
    (case z_list => k_is)
    (case z_max => k_is)
    (case z_enumerate => k_is)
    (case z_any => k_is)
    (case z_ValueError => k_is)
    (case v0 => k_is)
    (case v1 => k_is)
    (case v2 => k_is)
    (case xgPassError => k_is)
    (case xePassError => k_exc)
    (case xgaPassError => k_is)
    (case xghPassError => k_is)
    (case xfaPassError => k_is)
    (case xfsPassError => k_is)
    (case xftPassError => k_is)
    (case xmoPassError => k_is)
    (case xmbPassError => k_is)
    (case xgNoNet => k_is)
    (case xeNoNet => k_exc)
    (case xgaNoNet => k_is)
    (case xghNoNet => k_is)
    (case xfaNoNet => k_is)
    (case xfsNoNet => k_is)
    (case xftNoNet => k_is)
    (case xmoNoNet => k_is)
    (case xmbNoNet => k_is)
    (case xgNoRoom => k_is)
    (case xeNoRoom => k_exc)
    (case xgaNoRoom => k_is)
    (case xghNoRoom => k_is)
    (case xfaNoRoom => k_is)
    (case xfsNoRoom => k_is)
    (case xftNoRoom => k_is)
    (case xmoNoRoom => k_is)
    (case xmbNoRoom => k_is)
    (case xgUnreached => k_is)
    (case xeUnreached => k_exc)
    (case xgaUnreached => k_is)
    (case xghUnreached => k_is)
    (case xfaUnreached => k_is)
    (case xfsUnreached => k_is)
    (case xftUnreached => k_is)
    (case xmoUnreached => k_is)
    (case xmbUnreached => k_is)
    (case tmR => kts_exm)
    (case tkRN => kit_is)
    (case tkRR => kit_is)
    (case tkRU => kit_is)
    (case tkRV => kit_is)
    (case tmU => kts_exm)
    (case tkUN => kit_is)
    (case tkUR => kit_is)
    (case tkUU => kit_is)
    (case tkUV => kit_is)
