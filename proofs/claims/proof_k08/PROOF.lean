import PyProof.Rows.All
import Wide.All
import OpenK.AllK
import Wide.FinOn
import Lean
import PyProof.EqAt
import PyProof.EqKinds
import PyProof.TupleCall
import PySem.SetTable
import PyProof.TupleKey
import PyProof.SetKind
import PyProof.IsRules
import PyProof.DictKinds
import PyProof.Rows.SetFrom
import PyProof.SetRoads
import PyProof.FactsAll.set
import PyProof.FactsAll.tuple_iterator_1
import KE.KDictSum
import KE.KSortTup
import PyProof.NeKinds
import KE.KRevIter
import KE.KIsAll
import KE.KSorted
import KE.LcSums
import PyProof.CompFree
import PyProof.CompUse
import PyProof.ZipIter
import KE.KDictList
import PyProof.DictItems
import PyProof.WalksEnum
import PyProof.EnumMake
import PyProof.EnumFor
import PyProof.WalkInts
import PySem.Challenge.RW_hullpart_k08_whole_depth
-- CHANGE: your row's module here, as the last of these rows
set_option Elab.async false
set_option linter.all false
set_option maxRecDepth 100000
namespace L2
open PySem PySem.Spec PyProof.Rows
abbrev Key := Sum Int Str
def keyIs : Key → Value → Bool
  | .inl k, v => Value.isInt k v
  | .inr x, v => Value.isStrOf x v
def keyH (w : World) : Key → Int
  | .inl k => hashInt k
  | .inr x => hashStr w x
theorem keyIs_shape : ∀ {k : Key} {v : Value}, keyIs k v = true → (∃ i t, k = Sum.inl i ∧ v = Value.int i t) ∨ (∃ x t, k = Sum.inr x ∧ v = Value.str x t)
  | .inl i, v, h => by
    obtain ⟨t, e⟩ := Value.isInt_shape (k := i) (v := v) h
    exact .inl ⟨i, t, rfl, e⟩
  | .inr x, v, h => by
    obtain ⟨t, e⟩ := Value.isStrOf_shape (x := x) (v := v) h
    exact .inr ⟨x, t, rfl, e⟩
theorem key_ll (a b : Int) : decide ((Sum.inl a : Key) = Sum.inl b) = (a == b) := by
  by_cases e : a = b
  · subst e; simp
  · have h : ¬ (Sum.inl a : Key) = Sum.inl b := fun q => e (Sum.inl.inj q)
    rw [decide_eq_false h]
    exact (beq_eq_false_iff_ne.mpr e).symm
theorem key_rr (a b : Str) : decide ((Sum.inr a : Key) = Sum.inr b) = decide (a = b) := by
  by_cases e : a = b
  · subst e; simp
  · have h : ¬ (Sum.inr a : Key) = Sum.inr b := fun q => e (Sum.inr.inj q)
    rw [decide_eq_false h, decide_eq_false e]
theorem key_lr (a : Int) (b : Str) : decide ((Sum.inl a : Key) = Sum.inr b) = false := decide_eq_false (fun q => nomatch q)
theorem key_rl (a : Str) (b : Int) : decide ((Sum.inr a : Key) = Sum.inl b) = false := decide_eq_false (fun q => nomatch q)
def mixKind (prog : Program) (w : World) : PySem.KeyKind prog w Key where
  is := keyIs
  hash := keyH w
  inj := fun v a b ha hb => by
    rcases keyIs_shape ha with ⟨i, t, rfl, rfl⟩ | ⟨x, t, rfl, rfl⟩
    · rcases keyIs_shape hb with ⟨j, u, rfl, e⟩ | ⟨y, u, rfl, e⟩
      · injection e with e1 _; rw [e1]
      · exact nomatch e
    · rcases keyIs_shape hb with ⟨j, u, rfl, e⟩ | ⟨y, u, rfl, e⟩
      · exact nomatch e
      · injection e with e1 _; rw [e1]
  byValue := fun k v h => by
    rcases keyIs_shape h with ⟨i, t, rfl, rfl⟩ | ⟨x, t, rfl, rfl⟩ <;> rfl
  pyHash := fun hv h => by
    rcases keyIs_shape hv with ⟨i, t, rfl, rfl⟩ | ⟨x, t, rfl, rfl⟩
    · exact wpAny_pyHash_int h
    · exact wpAny_pyHash_str h
  eqBool := fun hu hv h => by
    rcases keyIs_shape hu with ⟨i, t, rfl, rfl⟩ | ⟨x, t, rfl, rfl⟩
    · rcases keyIs_shape hv with ⟨j, u, rfl, rfl⟩ | ⟨y, u, rfl, rfl⟩
      · rw [key_ll] at h; exact wpAny_eqBool_int h
      · rw [key_lr] at h; exact SeqAt.EqAt.int_str i t y u _ _ _ _ h
    · rcases keyIs_shape hv with ⟨j, u, rfl, rfl⟩ | ⟨y, u, rfl, rfl⟩
      · rw [key_rl] at h; exact SeqAt.EqAt.str_int x t j u _ _ _ _ h
      · rw [key_rr] at h; exact wpAny_eqBool_str h
  «strs» := fun k x t v h => by
    rcases keyIs_shape h with ⟨i, u, rfl, e⟩ | ⟨y, u, rfl, e⟩
    · exact nomatch e
    · injection e with e1 _
      subst e1
      cases v <;> rfl
end L2
namespace L2
open PySem PySem.Spec PyProof.Rows
inductive V where
  | non | bl (b : Bool) | int (i : Int) | str (x : Str) | byt (b : Array UInt8) | flt (b : UInt64) | ref (a : Addr) | ty (n : String)
  deriving DecidableEq
def RelV : V → Value → Prop
  | .non, u => u = Value.none
  | .bl b, u => u = Value.bool b
  | .int i, u => ∃ t, u = Value.int i t
  | .str x, u => ∃ t, u = Value.str x t
  | .byt b, u => ∃ t, u = Value.bytes b t
  | .flt b, u => ∃ t, u = Value.float b t
  | .ref a, u => u = Value.ref a
  | .ty n, u => u = Value.type n
abbrev Vals : List V → List Value → Prop := Paired RelV
theorem Vals.length {xs : List V} {us : List Value} (r : Vals xs us) : xs.length = us.length := Paired.length r
theorem Vals.get : ∀ {xs : List V} {us : List Value} {i : Nat} {x : V}, Vals xs us → xs[i]? = some x → ∃ u, us[i]? = some u ∧ RelV x u
  | _, _, _, _, .nil, e => by simp at e
  | _, _, 0, _, .cons r _, e => by simp at e; subst e; exact ⟨_, rfl, r⟩
  | _, _, i + 1, x, .cons _ t, e => by
    obtain ⟨u, h1, h2⟩ := Vals.get (i := i) (x := x) t (by simpa using e)
    exact ⟨u, by simpa using h1, h2⟩
theorem Vals.set {x : V} {u : Value} (r : RelV x u) : ∀ {xs : List V} {us : List Value} (i : Nat), Vals xs us → Vals (xs.set i x) (us.set i u)
  | _, _, _, .nil => .nil
  | _, _, 0, .cons _ t => .cons r t
  | _, _, i + 1, .cons q t => .cons q (Vals.set r i t)
theorem Vals.append : ∀ {xs ys : List V} {us ws : List Value}, Vals xs us → Vals ys ws → Vals (xs ++ ys) (us ++ ws)
  | _, _, _, _, .nil, s => s
  | _, _, _, _, .cons r t, s => .cons r (Vals.append t s)
theorem Vals.take : ∀ {xs : List V} {us : List Value} (n : Nat), Vals xs us → Vals (xs.take n) (us.take n)
  | _, _, 0, _ => .nil
  | _, _, _ + 1, .nil => .nil
  | _, _, n + 1, .cons r t => .cons r (Vals.take n t)
theorem Vals.drop : ∀ {xs : List V} {us : List Value} (n : Nat), Vals xs us → Vals (xs.drop n) (us.drop n)
  | _, _, 0, r => r
  | _, _, _ + 1, .nil => .nil
  | _, _, n + 1, .cons _ t => Vals.drop n t
def RelO : Option V → Option Value → Prop
  | some v, some u => RelV v u
  | none, none => True
  | _, _ => False
def KV {κ : Type} : List (κ × V) → List (κ × Value) → Prop := Paired fun (p : κ × V) (q : κ × Value) => p.1 = q.1 ∧ RelV p.2 q.2
def kV : Key → V
  | .inl i => .int i
  | .inr x => .str x
inductive HO where
    | lst (xs : List V)
    | tup (xs : List V)
    | dK (kvs : List (Key × V)) | dT (kvs : List (List Key × V))
    | set (S : Int → Bool) (n : Nat)
    | ins (C dx : Addr) (fs : List (Str × V))
    | own (x : Addr)
    | xd (fs : List (Str × V))
    | met (f x : Addr)
    | rng (lo hi : Int)
    | frz (o : Obj) (u : HO)
    | tbl (ps : Array Value)
    | ext (φ : Heap → Prop)
abbrev Hp := Addr → Option HO
def upd (H : Hp) (a : Addr) (o : HO) : Hp := fun b => if b = a then some o else H b
theorem upd_same {H : Hp} {a : Addr} {o : HO} : upd H a o a = some o := by unfold upd; rw [if_pos rfl]
theorem upd_ne {H : Hp} {a b : Addr} {o : HO} (h : b ≠ a) : upd H a o b = H b := by unfold upd; rw [if_neg h]
theorem ne_of {H : Hp} {a b : Addr} {o u : HO} (h : H a = some o) (h' : H b = some u) (d : o ≠ u) : a ≠ b := by
  intro e; subst e; rw [h] at h'; exact d (Option.some.inj h')
theorem ne_of_none {H : Hp} {a b : Addr} {o : HO} (h : H a = some o) (h' : H b = none) : a ≠ b := by
  intro e; subst e; rw [h] at h'; cases h'
section
variable (P : Program) (w : World)
def ObjOk (H : Hp) (h : Heap) (a : Addr) : HO → Prop
  | .lst xs => xs.length ≤ sizeLine ∧ ∃ (its : List Value) (n : Nat), Vals xs its ∧ h.get? a = some { cls := .type "list", data := .seq its.toArray n }
  | .tup xs => xs.length ≤ sizeLine ∧ ∃ its : List Value, Vals xs its ∧ IsTup h a its.toArray
  | .dK kvs => kvs.length ≤ sizeLine ∧ (a == sysModules) = false ∧ ∃ vs, KV kvs vs ∧ h.DictOf (mixKind P w) a vs
  | .dT kvs => kvs.length ≤ sizeLine ∧ (a == sysModules) = false ∧ ∃ xs : List (List Key × Addr × Value),
      Paired (fun (p : List Key × V) (q : List Key × Addr × Value) => p.1 = q.1 ∧ H q.2.1 = some (.tup (p.1.map kV)) ∧ RelV p.2 q.2.2) kvs xs ∧
      ∃ o es ep, h.get? a = some o ∧ o.ExactDict ∧ o.data = .dict es ep ∧ es.toList = xs.map (entryOfKey (tupleKind (mixKind P w))) ∧ (xs.map (·.1)).Nodup
  | .set S n => h.SetOf (intKind P w) a S n
  | .ins C dx fs => H dx = some (.own a) ∧ fs.length ≤ 1000 ∧ dx ≠ a ∧ h.get? a = some (PySem.W.instObj C dx) ∧
      ∃ mA, h.Ns1 dx mA ∧ (∀ f, RelO (fs.lookup f) (mA f)) ∧ PySem.Within mA (fs.map (·.1))
  | .own _ => ∃ o, h.get? a = some o
  | .xd fs => ∃ mA, h.Ns1 a mA ∧ ∀ f, RelO (fs.lookup f) (mA f)
  | .rng lo hi => ∃ t u v, h.get? a = some { cls := .type "range", data := .fields #[.int lo t, .int hi u, .int 1 v] }
  | .frz o u => h.get? a = some o ∧ ObjOk H h a u
  | .tbl ps => h.get? a = some { cls := .none, data := .fields ps }
  | .met f x => h.get? a = some (PySem.W.methodObj (.ref f) (.ref x))
  | .ext φ => φ h ∧ (∃ o, h.get? a = some o) ∧ ∀ h1 h2 : Heap, φ h1 → (∀ o, h1.get? a = some o → h2.get? a = some o) → φ h2
def HOk (H : Hp) (h : Heap) : Prop := ∀ a o, H a = some o → ObjOk P w H h a o
end
section
variable {P : Program} {w : World} {H H' : Hp} {h h' : Heap} {a : Addr} {o : HO}
theorem ObjOk.lt (x : ObjOk P w H h a o) : a < h.objs.size := by
  cases o with
  | lst xs => obtain ⟨_, _, _, _, e⟩ := x; exact Heap.lt_size e
  | tup xs => obtain ⟨_, _, _, p⟩ := x; exact p.lt
  | dK kvs => obtain ⟨_, _, _, _, o, _, _, e, _⟩ := x; exact Heap.lt_size e
  | dT kvs => obtain ⟨_, _, _, _, o, _, _, e, _⟩ := x; exact Heap.lt_size e
  | set S n => obtain ⟨o, _, _, _, e, _⟩ := x; exact Heap.lt_size e
  | ins C dx fs => obtain ⟨_, _, _, e, _⟩ := x; exact Heap.lt_size e
  | own y => obtain ⟨_, e⟩ := x; exact Heap.lt_size e
  | xd fs => obtain ⟨_, ⟨_, _, _, e, _⟩, _⟩ := x; exact Heap.lt_size e
  | rng lo hi => obtain ⟨_, _, _, e⟩ := x; exact Heap.lt_size e
  | frz ob u => obtain ⟨e, _⟩ := x; exact Heap.lt_size e
  | tbl ps => exact Heap.lt_size (show h.get? a = some _ from x)
  | met f y => exact Heap.lt_size (show h.get? a = some _ from x)
  | ext φ => obtain ⟨_, ⟨_, e⟩, _⟩ := x; exact Heap.lt_size e
theorem Paired.mapP {α β : Type} {F G : α → β → Prop} : ∀ {l₁ : List α} {l₂ : List β}, Paired F l₁ l₂ → (∀ a b, F a b → G a b) → Paired G l₁ l₂
  | _, _, .nil, _ => .nil
  | _, _, .cons r t, f => .cons (f _ _ r) (Paired.mapP t f)
theorem ObjOk.stay (x : ObjOk P w H h a o) (k : ∀ b u, (b = a ∨ H b = some (.own a)) → h.get? b = some u → h'.get? b = some u)
    (ho : ∀ b, H b = some (.own a) → H' b = some (.own a)) (ht : ∀ b xs, H b = some (.tup xs) → H' b = some (.tup xs)) : ObjOk P w H' h' a o := by
  induction o with
  | lst xs => obtain ⟨z, its, n, r, e⟩ := x; exact ⟨z, its, n, r, k _ _ (.inl rfl) e⟩
  | tup xs => obtain ⟨z, its, r, ob, e, c⟩ := x; exact ⟨z, its, r, ob, k _ _ (.inl rfl) e, c⟩
  | dK kvs => obtain ⟨z, y, vs, r, ob, es, ep, e, c⟩ := x; exact ⟨z, y, vs, r, ob, es, ep, k _ _ (.inl rfl) e, c⟩
  | dT kvs =>
    obtain ⟨z, y, xs, r, ob, es, ep, e, c⟩ := x
    exact ⟨z, y, xs, Paired.mapP r fun p q z => ⟨z.1, ht _ _ z.2.1, z.2.2⟩, ob, es, ep, k _ _ (.inl rfl) e, c⟩
  | set S n => obtain ⟨ob, es, ep, t, e, c⟩ := x; exact ⟨ob, es, ep, t, k _ _ (.inl rfl) e, c⟩
  | ins C dx fs =>
    obtain ⟨d, z, ne, e, mA, ⟨od, es, ep, e2, c⟩, r⟩ := x
    exact ⟨ho _ d, z, ne, k _ _ (.inl rfl) e, mA, ⟨od, es, ep, k _ _ (.inr d) e2, c⟩, r⟩
  | own y => obtain ⟨ob, e⟩ := x; exact ⟨ob, k _ _ (.inl rfl) e⟩
  | xd fs => obtain ⟨mA, ⟨od, es, ep, e, c⟩, r⟩ := x; exact ⟨mA, ⟨od, es, ep, k _ _ (.inl rfl) e, c⟩, r⟩
  | rng lo hi => obtain ⟨t, u, v, e⟩ := x; exact ⟨t, u, v, k _ _ (.inl rfl) e⟩
  | frz ob u ih => obtain ⟨e, q⟩ := x; exact ⟨k _ _ (.inl rfl) e, ih q⟩
  | tbl ps =>
    have e : h.get? a = some { cls := .none, data := .fields ps } := x
    show h'.get? a = some { cls := .none, data := .fields ps }
    exact k a _ (.inl rfl) e
  | met f y =>
    have e : h.get? a = some (PySem.W.methodObj (.ref f) (.ref y)) := x
    show h'.get? a = some (PySem.W.methodObj (.ref f) (.ref y))
    exact k a _ (.inl rfl) e
  | ext φ => obtain ⟨p, ⟨o, e⟩, st⟩ := x; exact ⟨st _ _ p fun o q => k _ _ (.inl rfl) q, ⟨o, k _ _ (.inl rfl) e⟩, st⟩
theorem HOk.lt (x : HOk P w H h) (e : H a = some o) : a < h.objs.size := (x a o e).lt
theorem HOk.fresh (x : HOk P w H h) (e : h.objs.size ≤ a) : H a = none := by
  cases q : H a with
  | none => rfl
  | some u => exact absurd (Nat.lt_of_lt_of_le (x.lt q) e) (Nat.lt_irrefl _)
theorem HOk.kept (x : HOk P w H h) (k : ∀ b u, h.get? b = some u → h'.get? b = some u) : HOk P w H h' := fun a o e =>
  (x a o e).stay (fun b u _ q => k b u q) (fun _ q => q) fun _ _ q => q
theorem HOk.laid (x : HOk P w H h) (k : ∀ b u, h.get? b = some u → h'.get? b = some u) (hp : h.objs.size ≤ a) (new : ObjOk P w (upd H a o) h' a o) : HOk P w (upd H a o) h' := fun b u e => by
  have hn := x.fresh hp
  by_cases hb : b = a
  · subst hb; rw [upd_same] at e; cases e; exact new
  · rw [upd_ne hb] at e
    exact (x b u e).stay (fun c v _ q => k c v q) (fun c q => by rw [upd_ne (ne_of_none q hn)]; exact q) fun c xs q => by rw [upd_ne (ne_of_none q hn)]; exact q
end
def Rd (H : Hp) (a : Addr) (u : HO) : Prop := H a = some u ∨ ∃ o, H a = some (.frz o u)
theorem Rd.of {H : Hp} {a : Addr} {u : HO} (h : H a = some u) : Rd H a u := .inl h
theorem Rd.ok {P : Program} {w : World} {H : Hp} {h : Heap} {a : Addr} {u : HO} (r : Rd H a u) (x : HOk P w H h) : ObjOk P w H h a u := by
  rcases r with r | ⟨o, r⟩
  · exact x a u r
  · obtain ⟨_, q⟩ := x a _ r
    exact q
def Mut : Option HO → Prop
  | some (.lst _) => True
  | some (.dK _) => True
  | some (.dT _) => True
  | some (.set _ _) => True
  | some (.ins _ _ _) => True
  | some (.ext _) => True
  | _ => False
section
variable {P : Program} {w : World} {H : Hp} {h h' : Heap} {x e : Addr} {o' : HO}
theorem HOk.write (ok : HOk P w H h) (mu : Mut (H x)) (he : e = x ∨ H e = some (.own x)) (k : ∀ b u, b ≠ e → h.get? b = some u → h'.get? b = some u) (heo : ∃ u, h'.get? e = some u)
    (new : ObjOk P w (upd H x o') h' x o') : HOk P w (upd H x o') h' := fun b u q => by
  have nown : ∀ c y, H c = some (.own y) → c ≠ x := fun c y r z => by subst z; rw [r] at mu; exact mu
  have ntup : ∀ c xs, H c = some (.tup xs) → c ≠ x := fun c xs r z => by subst z; rw [r] at mu; exact mu
  by_cases hb : b = x
  · subst hb; rw [upd_same] at q; cases q; exact new
  · rw [upd_ne hb] at q
    by_cases hbe : b = e
    · have q' : H b = some (.own x) := by
        rcases he with z | z
        · exact absurd (hbe.trans z) hb
        · rw [hbe]; exact z
      rw [q] at q'; cases q'
      obtain ⟨v, hv⟩ := heo
      exact ⟨v, by rw [hbe]; exact hv⟩
    · refine (ok b u q).stay (fun c v hc r => k c v ?_ r) (fun c r => by rw [upd_ne (nown c b r)]; exact r) fun c xs r => by rw [upd_ne (ntup c xs r)]; exact r
      rcases hc with rfl | hc
      · exact hbe
      · rintro rfl
        rcases he with z | z
        · exact nown c b hc z
        · rw [hc] at z; cases z; exact hb rfl
end
structure Un (fs ex : List Addr) (H H' : Hp) (h h' : Heap) : Prop where
  keep : ∀ b o, h.get? b = some o → H b = none → b ∉ fs → b ∉ ex → h'.get? b = some o
  slot : ∀ b o, h.get? b = some o → H b = none → b ∈ fs → b ∉ ex → ∃ sl, h'.get? b = some { o with slots := sl }
  free : ∀ b o, h.get? b = some o → H b = none → b ∉ ex → H' b = none
  there : ∀ b o, h.get? b = some o → b ∉ ex → ∃ o', h'.get? b = some o'
  tups : ∀ b xs, H b = some (.tup xs) → H' b = some (.tup xs)
  frzs : ∀ b o u, H b = some (.frz o u) → H' b = some (.frz o u)
  tbls : ∀ b ps, H b = some (.tbl ps) → ∃ more, H' b = some (.tbl (ps ++ more))
section
variable {fs fs' ex ex' : List Addr} {H H1 H2 : Hp} {h h1 h2 h' : Heap} {a x e : Addr} {o : HO}
theorem Un.any (u : Un fs ex H H1 h h1) {b : Addr} {ob : Obj} (q : h.get? b = some ob) (n : H b = none) (hx : b ∉ ex) : ∃ sl, h1.get? b = some { ob with slots := sl } := by
  by_cases hb : b ∈ fs
  · exact u.slot b ob q n hb hx
  · exact ⟨ob.slots, u.keep b ob q n hb hx⟩
theorem Un.trans (a : Un fs ex H H1 h h1) (b : Un fs ex H1 H2 h1 h2) : Un fs ex H H2 h h2 where
  keep := fun c ob q n hc hx => b.keep c ob (a.keep c ob q n hc hx) (a.free c ob q n hx) hc hx
  slot := fun c ob q n hc hx => by
    obtain ⟨sl, e1⟩ := a.slot c ob q n hc hx
    obtain ⟨sl', e2⟩ := b.slot c _ e1 (a.free c ob q n hx) hc hx
    exact ⟨sl', e2⟩
  free := fun c ob q n hx => by
    obtain ⟨o', e1⟩ := a.there c ob q hx
    exact b.free c o' e1 (a.free c ob q n hx) hx
  there := fun c ob q hx => by
    obtain ⟨o', e1⟩ := a.there c ob q hx
    exact b.there c o' e1 hx
  tups := fun c xs q => b.tups c xs (a.tups c xs q)
  frzs := fun c ob xs q => b.frzs c ob xs (a.frzs c ob xs q)
  tbls := fun c ps q => by
    obtain ⟨m1, e1⟩ := a.tbls c ps q
    obtain ⟨m2, e2⟩ := b.tbls c _ e1
    exact ⟨m1 ++ m2, by rw [e2, Array.append_assoc]⟩
theorem Un.kept (k : ∀ b u, h.get? b = some u → h'.get? b = some u) : Un fs ex H H h h' :=
  ⟨fun b ob q _ _ _ => k b ob q, fun b ob q _ _ _ => ⟨ob.slots, k b ob q⟩, fun _ _ _ n _ => n, fun b ob q _ => ⟨ob, k b ob q⟩, fun _ _ q => q, fun _ _ _ q => q, fun _ ps q => ⟨#[], by rw [q]; simp⟩⟩
theorem Un.refl : Un fs ex H H h h := Un.kept fun _ _ q => q
theorem Un.laid (k : ∀ b u, h.get? b = some u → h'.get? b = some u) (hp : h.objs.size ≤ a) (hn : H a = none) : Un fs ex H (upd H a o) h h' where
  keep := fun b u q _ _ _ => k b u q
  slot := fun b u q _ _ _ => ⟨u.slots, k b u q⟩
  free := fun b u q n _ => by rw [upd_ne (Nat.ne_of_lt (Nat.lt_of_lt_of_le (Heap.lt_size q) hp))]; exact n
  there := fun b u q _ => ⟨u, k b u q⟩
  tups := fun b xs q => by rw [upd_ne (ne_of_none q hn)]; exact q
  frzs := fun b u xs q => by rw [upd_ne (ne_of_none q hn)]; exact q
  tbls := fun b ps q => ⟨#[], by rw [upd_ne (ne_of_none q hn), q]; simp⟩
theorem Un.write (mu : Mut (H x)) (he : e = x ∨ H e = some (.own x)) (k : ∀ b u, b ≠ e → h.get? b = some u → h'.get? b = some u) (heo : ∃ u, h'.get? e = some u) : Un fs ex H (upd H x o) h h' := by
  have hx : ∀ b, H b = none → b ≠ x := fun b n z => by subst z; rw [n] at mu; exact mu
  have hb : ∀ b, H b = none → b ≠ e := fun b n z => by
    subst z
    rcases he with r | r
    · exact hx b n r
    · rw [n] at r; cases r
  have hm : ∀ b u, H b = some u → ¬ Mut (some u) → b ≠ x := fun b u q nm z => by subst z; rw [q] at mu; exact nm mu
  refine ⟨fun b u q n _ _ => k b u (hb b n) q, fun b u q n _ _ => ⟨u.slots, k b u (hb b n) q⟩, fun b u q n _ => by rw [upd_ne (hx b n)]; exact n, fun b u q _ => ?_,
    fun b xs q => by rw [upd_ne (hm b _ q fun z => z)]; exact q, fun b u xs q => by rw [upd_ne (hm b _ q fun z => z)]; exact q, fun b ps q => ⟨#[], by rw [upd_ne (hm b _ q fun z => z), q]; simp⟩⟩
  by_cases hbe : b = e
  · subst hbe; exact heo
  · exact ⟨u, k b u hbe q⟩
theorem Un.mono (u : Un fs ex H H1 h h1) (hs : ∀ b ∈ fs, b ∈ fs') (hx : ∀ b ∈ ex, b ∈ ex') : Un fs' ex' H H1 h h1 :=
  ⟨fun b ob q n hb he => u.keep b ob q n (fun z => hb (hs b z)) fun z => he (hx b z), fun _ _ q n _ he => u.any q n fun z => he (hx _ z), fun b ob q n he => u.free b ob q n fun z => he (hx b z), fun b ob q he => u.there b ob q fun z => he (hx b z), u.tups, u.frzs, u.tbls⟩
end
def trk (h : Heap) (H : Hp) : List Addr := (List.range h.objs.size).filter fun a => (H a).isSome
def hidT (h : Heap) (H : Hp) : Heap := PySem.W.hideAll h (trk h H)
theorem hidT_size (h : Heap) (H : Hp) : (hidT h H).objs.size = h.objs.size := PySem.W.hideAll_size _ _
theorem hidT_get {h : Heap} {H : Hp} {b : Addr} {o : Obj} (e : h.get? b = some o) (n : H b = none) : (hidT h H).get? b = some o :=
  PySem.W.hideAll_get _ e fun hm => by
    have q : (H b).isSome = true := (List.mem_filter.mp hm).2
    rw [n] at q; simp at q
theorem of_hidT {h : Heap} {H : Hp} {b : Addr} {o : Obj} (e : (hidT h H).get? b = some o) : h.get? b = some o ∧ H b = none := by
  have e' : h.get? b = some o := PySem.W.of_hideAll (trk h H) e
  refine ⟨e', ?_⟩
  cases q : H b with
  | none => rfl
  | some x =>
    have hm : b ∈ trk h H := List.mem_filter.mpr ⟨List.mem_range.mpr (Heap.lt_size e'), by simp [q]⟩
    have z : (hidT h H).get? b = none := PySem.W.hideAll_none (trk h H) hm
    rw [z] at e; cases e
def allNews (g h : Heap) (L : Addr) : List (Addr × Obj) := (List.range h.objs.size).filterMap fun a => if a = L ∨ (g.get? a).isSome = true then none else (h.get? a).map fun o => (a, o)
theorem mem_allNews {g h : Heap} {L a : Addr} {o : Obj} (h1 : a ≠ L) (h2 : g.get? a = none) (h3 : h.get? a = some o) : (a, o) ∈ allNews g h L :=
  List.mem_filterMap.mpr ⟨a, List.mem_range.mpr (Heap.lt_size h3), by simp [h1, h2, h3]⟩
theorem of_mem_allNews {g h : Heap} {L : Addr} {p : Addr × Obj} (hp : p ∈ allNews g h L) : p.1 ≠ L ∧ g.get? p.1 = none ∧ h.get? p.1 = some p.2 := by
  obtain ⟨b, _, e⟩ := List.mem_filterMap.mp hp
  split at e
  · cases e
  · rename_i hn
    cases q : h.get? b with
    | none => rw [q] at e; simp at e
    | some u =>
      rw [q] at e
      simp only [Option.map_some, Option.some.injEq] at e
      subst e
      refine ⟨fun z => hn (.inl z), ?_, q⟩
      show g.get? b = none
      cases r : g.get? b with
      | none => rfl
      | some v => exact (hn (.inr (by simp [r]))).elim
def rest (g h : Heap) (L d : Addr) : List (Addr × Obj) := (allNews g h L).filter fun p => decide (p.1 ≠ d)
theorem news_all {g h : Heap} {L : Addr} : News g L h (allNews g h L) := fun p hp => let ⟨a, b, c⟩ := of_mem_allNews hp; ⟨c, a, b⟩
end L2
namespace L2
open PySem PySem.Spec PyProof.Rows
structure Mod (K : PySem.W.Frag) (mg : Str → Option Value) (base : Heap) : Prop where
  kin : K.In base
  glob : base.Ns mainGlobals mg
  blt : ∃ mb, base.Ns builtinsNs mb ∧ ∀ x : Str, x ≠ "__name__" → mb x = bootBuiltins x
  nolimit : base.NoLimit
structure Cx where
  prog : Program
  w : World
  K : PySem.W.Frag
  mg : Str → Option Value
  base : Heap
  A : Around
  N : List Str
  s₀ : Shared
  H₀ : Hp
  env : Env
  outer : List Env
  stack : List Env
  ex : List Addr
  fn : Str → Bool
  calm : Bool
  pn : List (Addr × Obj)
  xe : Value → Shared → Prop
def frs (l : List Env) : List Addr := l.filterMap (·.frame)
abbrev Cx.fs (X : Cx) : List Addr := frs X.outer
def Vis (sc : Scope) (x : Str) : Prop := sc.names.lookup x = some .local ∨ sc.names.lookup x = some .cell ∨ sc.names.lookup x = some .free
def Loc (sc : Scope) (x : Str) : Prop := sc.names.lookup x = some .local ∨ sc.names.lookup x = some .cell
def Look (env : Env) (h : Heap) (m : Str → Option Value) (x : Str) (u : Value) : Prop :=
  (env.kindOf x = some .local ∧ m x = some u) ∨ ((env.kindOf x = some .cell ∨ env.kindOf x = some .free) ∧ ∃ c, env.cells.lookup x = some c ∧ h.IsCell c (some u))
structure Cx.Ok (X : Cx) : Prop where
  mod : Mod X.K X.mg X.base
  kind : X.env.scope.kind = .function
  glob : X.env.globals = mainGlobals
  blt : X.env.builtins = builtinsNs
  above : X.s₀.heap.objs.size ≤ X.env.locals
  inj : ∀ x y c, X.env.cells.lookup x = some c → X.env.cells.lookup y = some c → x = y
  has : ∀ x, (X.env.kindOf x = some .cell ∨ X.env.kindOf x = some .free) → ∃ c, X.env.cells.lookup x = some c
  cab : ∀ x c, X.fn x = true → X.env.cells.lookup x = some c → X.s₀.heap.objs.size ≤ c
  hd : X.calm = true → X.A.handled = none
  frames : X.A.frames = some X.stack
  stk : X.stack = X.outer ∨ (X.stack = X.env :: X.outer ∧ X.env.frame = some X.env.locals)
  exf : ∀ b ∈ X.ex, b ≠ X.env.locals ∧ ∀ x c, X.env.cells.lookup x = some c → c ≠ b
  bs : ∀ b o, X.base.get? b = some o → X.s₀.heap.get? b = some o ∧ X.H₀ b = none
  bsz : X.base.objs.size ≤ X.s₀.heap.objs.size
  noex : ∀ b o, X.base.get? b = some o → b ∉ X.ex
  exfs : ∀ b ∈ X.ex, b ∉ X.fs
  funs : X.s₀.heap.FunFrames X.base X.outer
  frf : ∀ b ∈ X.fs, X.H₀ b = none
structure Inv (X : Cx) (pins : List (Addr × Obj)) (σ : List (Option V)) (H : Hp) (s : Shared) : Prop where
  ok : X.Ok
  os : s.os = X.s₀.os
  bare : AllBare s.gens
  base : Un X.fs X.ex X.H₀ H X.s₀.heap s.heap
  loc : ∃ m, s.heap.Ns X.env.locals m ∧ ∀ (i : Nat) (x : Str) (v : V), X.N[i]? = some x → σ[i]? = some (some v) → Vis X.env.scope x → ∃ u, RelV v u ∧ Look X.env s.heap m x u
  cell : ∀ x c, X.env.cells.lookup x = some c → ∃ v, s.heap.IsCell c v
  free : H X.env.locals = none
  freeC : ∀ x c, X.env.cells.lookup x = some c → H c = none
  pin : ∀ p ∈ X.pn ++ pins, s.heap.get? p.1 = some p.2 ∧ H p.1 = none ∧ p.1 ≠ X.env.locals ∧ p.1 ∉ X.fs ∧ ∀ v, p.2.data ≠ .cell v
  hok : HOk X.prog X.w H s.heap
  len : σ.length = X.N.length
section
variable {X : Cx} {pins : List (Addr × Obj)} {σ : List (Option V)} {H H' : Hp} {s : Shared} {h' : Heap}
theorem Cx.Ok.nofr (ok : X.Ok) {b : Addr} {o : Obj} (e : X.base.get? b = some o) : b ∉ X.fs := fun hb => by
  have := (ok.funs.mem hb).1
  rw [e] at this; cases this
theorem Inv.bs (I : Inv X pins σ H s) : ∀ b o, X.base.get? b = some o → s.heap.get? b = some o ∧ H b = none := fun b o e =>
  ⟨I.base.keep b o (I.ok.bs b o e).1 (I.ok.bs b o e).2 (I.ok.nofr e) (I.ok.noex b o e), I.base.free b o (I.ok.bs b o e).1 (I.ok.bs b o e).2 (I.ok.noex b o e)⟩
theorem Inv.bk (I : Inv X pins σ H s) : ∀ b o, X.base.get? b = some o → s.heap.get? b = some o := fun b o e => (I.bs b o e).1
theorem Inv.mod (I : Inv X pins σ H s) : Mod X.K X.mg X.base := I.ok.mod
theorem Inv.kIn (I : Inv X pins σ H s) : X.K.In s.heap := I.ok.mod.kin.keeps I.bk
theorem Inv.nolimit (I : Inv X pins σ H s) : s.heap.NoLimit := I.ok.mod.nolimit.keeps I.bk
theorem Inv.fr (I : Inv X pins σ H s) : ∃ m, Fr X.base X.env.locals s.heap m :=
  let ⟨m, hn, _⟩ := I.loc
  ⟨m, hn, I.bk, Nat.le_trans I.ok.bsz I.ok.above⟩
theorem Inv.lt (I : Inv X pins σ H s) : X.env.locals < s.heap.objs.size := let ⟨_, hn, _⟩ := I.loc; hn.lt
theorem Inv.sz (I : Inv X pins σ H s) : X.s₀.heap.objs.size ≤ s.heap.objs.size := Nat.le_trans I.ok.above (Nat.le_of_lt I.lt)
theorem Inv.nofs (I : Inv X pins σ H s) {a : Addr} (h : s.heap.objs.size ≤ a) : a ∉ X.fs := fun hb => by
  obtain ⟨_, o, ho, _⟩ := I.ok.funs.mem hb
  exact absurd (Nat.lt_of_lt_of_le (Heap.lt_size ho) (Nat.le_trans I.sz h)) (Nat.lt_irrefl _)
theorem Inv.cne (I : Inv X pins σ H s) : ∀ x c, X.env.cells.lookup x = some c → c ≠ X.env.locals := fun x c e z => by
  obtain ⟨v, o, ho, hd⟩ := I.cell x c e
  obtain ⟨m, ⟨o', es, ep, ho', hd', _⟩, _⟩ := I.loc
  rw [z, ho'] at ho; cases ho; rw [hd'] at hd; cases hd
theorem Inv.funs (I : Inv X pins σ H s) : s.heap.FunFrames X.base X.outer := by
  have all : ∀ (l : List Env), (∀ b ∈ frs l, b ∈ X.fs) → X.s₀.heap.FunFrames X.base l → s.heap.FunFrames X.base l := by
    intro l
    induction l with
    | nil => intro _ _; trivial
    | cons env r ih =>
      intro hs hl
      obtain ⟨hk, ⟨L, o, hf, hn, ho, hd⟩, hr⟩ := hl
      have hL : L ∈ X.fs := hs L (by unfold frs; rw [List.filterMap_cons, hf]; exact List.mem_cons_self)
      obtain ⟨sl, e⟩ := I.base.slot L o ho (I.ok.frf L hL) hL fun z => I.ok.exfs L z hL
      exact ⟨hk, ⟨L, _, hf, hn, e, hd⟩, ih (fun b hb => hs b (by unfold frs; rw [List.filterMap_cons, hf]; exact List.mem_cons_of_mem _ hb)) hr⟩
  exact all X.outer (fun _ hb => hb) I.ok.funs
theorem Inv.stack (I : Inv X pins σ H s) : s.heap.FunFrames X.base X.stack := by
  rcases I.ok.stk with e | ⟨e, hf⟩
  · rw [e]; exact I.funs
  · rw [e]
    obtain ⟨m, hn, _⟩ := I.loc
    refine .cons (by rw [I.ok.kind]; decide) hf hn ?_ I.funs
    exact Heap.get?_none_of_le (Nat.le_trans I.ok.bsz I.ok.above)
theorem Inv.stkSub (I : Inv X pins σ H s) : ∀ b ∈ frs X.stack, b ∈ X.env.locals :: X.fs := fun b hb => by
  rcases I.ok.stk with e | ⟨e, hf⟩
  · rw [e] at hb; exact List.mem_cons_of_mem _ hb
  · rw [e] at hb
    unfold frs at hb
    rw [List.filterMap_cons, hf] at hb
    exact hb
theorem Inv.stkFree (I : Inv X pins σ H s) : ∀ b ∈ frs X.stack, H b = none := fun b hb => by
  rcases List.mem_cons.mp (I.stkSub b hb) with e | hb
  · rw [e]; exact I.free
  · obtain ⟨_, o, ho, _⟩ := I.ok.funs.mem hb
    exact I.base.free b o ho (I.ok.frf b hb) fun z => I.ok.exfs b z hb
theorem Inv.step {g' : Array GenState} {t' : Nat} {d' : Drawn} {ch : List Addr} (I : Inv X pins σ H s)
    (hch : ∀ b ∈ ch, (b ∈ X.ex ∨ X.s₀.heap.objs.size ≤ b) ∧ b ≠ X.env.locals ∧ (∀ x c, X.env.cells.lookup x = some c → c ≠ b) ∧ ∀ p ∈ X.pn ++ pins, p.1 ≠ b)
    (keep : ∀ b o, b ≠ X.env.locals → b ∉ X.fs → b ∉ ch → s.heap.get? b = some o → H b = none → h'.get? b = some o)
    (slot : ∀ b o, b ≠ X.env.locals → b ∈ X.fs → b ∉ ch → s.heap.get? b = some o → H b = none → ∃ sl, h'.get? b = some { o with slots := sl }) (free : ∀ b o, b ∉ ch → s.heap.get? b = some o → H b = none → H' b = none)
    (there : ∀ b o, b ∉ ch → s.heap.get? b = some o → ∃ o', h'.get? b = some o')
    (tups : ∀ b xs, H b = some (.tup xs) → H' b = some (.tup xs)) (frzs : ∀ b o u, H b = some (.frz o u) → H' b = some (.frz o u)) (tbls : ∀ b ps, H b = some (.tbl ps) → ∃ more, H' b = some (.tbl (ps ++ more)))
    (ns : ∀ m, s.heap.Ns X.env.locals m → h'.Ns X.env.locals m) (hok : HOk X.prog X.w H' h') (hg : AllBare g') :
    Inv X pins σ H' { s with heap := h', gens := g', drawn := d', toks := t' } := by
  have neL : ∀ b o, X.s₀.heap.get? b = some o → b ≠ X.env.locals := fun b o e => Nat.ne_of_lt (Nat.lt_of_lt_of_le (Heap.lt_size e) I.ok.above)
  have neC : ∀ b o, X.s₀.heap.get? b = some o → b ∉ X.ex → b ∉ ch := fun b o e hx hb => by
    rcases (hch b hb).1 with z | z
    · exact hx z
    · exact absurd (Nat.lt_of_lt_of_le (Heap.lt_size e) z) (Nat.lt_irrefl _)
  have cellK : ∀ x c, X.env.cells.lookup x = some c → ∀ v, s.heap.IsCell c v → h'.IsCell c v := fun x c e v ⟨o, ho, hd⟩ => by
    have nch : c ∉ ch := fun z => (hch c z).2.2.1 x c e rfl
    by_cases hc : c ∈ X.fs
    · obtain ⟨sl, q⟩ := slot c o (I.cne x c e) hc nch ho (I.freeC x c e)
      exact ⟨_, q, hd⟩
    · exact ⟨o, keep c o (I.cne x c e) hc nch ho (I.freeC x c e), hd⟩
  refine ⟨I.ok, I.os, hg, ⟨fun b o e n hb hx => ?_, fun b o e n hb hx => ?_, fun b o e n hx => ?_, fun b o e hx => ?_, fun b xs e => tups b xs (I.base.tups b xs e), fun b o xs e => frzs b o xs (I.base.frzs b o xs e), fun b ps e => ?_⟩, ?_, fun x c e => ?_, ?_, fun x c e => ?_, fun p hp => ?_, hok, I.len⟩
  · exact keep b o (neL b o e) hb (neC b o e hx) (I.base.keep b o e n hb hx) (I.base.free b o e n hx)
  · obtain ⟨sl, e1⟩ := I.base.slot b o e n hb hx
    obtain ⟨sl', e2⟩ := slot b _ (neL b o e) hb (neC b o e hx) e1 (I.base.free b o e n hx)
    exact ⟨sl', e2⟩
  · obtain ⟨o', e1⟩ := I.base.there b o e hx
    exact free b o' (neC b o e hx) e1 (I.base.free b o e n hx)
  · obtain ⟨o', e1⟩ := I.base.there b o e hx
    exact there b o' (neC b o e hx) e1
  · obtain ⟨m1, e1⟩ := I.base.tbls b ps e
    obtain ⟨m2, e2⟩ := tbls b _ e1
    exact ⟨m1 ++ m2, by rw [e2, Array.append_assoc]⟩
  · obtain ⟨m, hn, hl⟩ := I.loc
    refine ⟨m, ns m hn, fun i x v e1 e2 e3 => ?_⟩
    obtain ⟨u, r, l⟩ := hl i x v e1 e2 e3
    refine ⟨u, r, ?_⟩
    rcases l with l | ⟨k, c, e, z⟩
    · exact .inl l
    · exact .inr ⟨k, c, e, cellK x c e _ z⟩
  · obtain ⟨v, z⟩ := I.cell x c e
    exact ⟨v, cellK x c e v z⟩
  · obtain ⟨m, ⟨o, _, _, ho, _⟩, _⟩ := I.loc
    exact free _ o (fun z => (hch _ z).2.1 rfl) ho I.free
  · obtain ⟨v, o, ho, hd⟩ := I.cell x c e
    exact free c o (fun z => (hch c z).2.2.1 x c e rfl) ho (I.freeC x c e)
  · obtain ⟨e, n, ne, nf, d⟩ := I.pin p hp
    have nch : p.1 ∉ ch := fun z => (hch p.1 z).2.2.2 p hp rfl
    exact ⟨keep p.1 p.2 ne nf nch e n, free p.1 p.2 nch e n, ne, nf, d⟩
theorem Inv.un {t' : Nat} (I : Inv X pins σ H s) (u : Un X.fs [] H H' s.heap h') (hok : HOk X.prog X.w H' h') : Inv X pins σ H' { s with heap := h', toks := t' } := by
  obtain ⟨m, ⟨o, es, ep, ho, r⟩, _⟩ := id I.loc
  obtain ⟨sl, hL⟩ := u.any ho I.free (by simp)
  exact I.step (g' := s.gens) (d' := s.drawn) (ch := []) (fun _ z => nomatch z) (fun b o _ hb _ e n => u.keep b o e n hb (by simp)) (fun b o _ hb _ e n => u.slot b o e n hb (by simp)) (fun b o _ e n => u.free b o e n (by simp)) (fun b o _ e => u.there b o e (by simp)) u.tups u.frzs u.tbls (fun m' hm => by
    obtain ⟨o', es', ep', ho', r'⟩ := hm
    rw [ho] at ho'; cases ho'
    exact ⟨_, es', ep', hL, r'⟩) hok I.bare
theorem Inv.call {g' : Array GenState} {t' : Nat} {d' : Drawn} {ch : List Addr} (I : Inv X pins σ H s) (u : Un (frs X.stack) ch H H' s.heap h') (hok : HOk X.prog X.w H' h') (hg : AllBare g')
    (hch : ∀ b ∈ ch, (b ∈ X.ex ∨ X.s₀.heap.objs.size ≤ b) ∧ b ≠ X.env.locals ∧ (∀ x c, X.env.cells.lookup x = some c → c ≠ b) ∧ ∀ p ∈ X.pn ++ pins, p.1 ≠ b) :
    Inv X pins σ H' { s with heap := h', gens := g', drawn := d', toks := t' } := by
  obtain ⟨m, ⟨o, es, ep, ho, r⟩, _⟩ := id I.loc
  obtain ⟨sl, hL⟩ := u.any ho I.free fun z => (hch _ z).2.1 rfl
  exact I.step (ch := ch) hch (fun b o hL hb hc e n => u.keep b o e n (fun z => (List.mem_cons.mp (I.stkSub b z)).elim hL hb) hc) (fun b o _ _ hc e n => u.any e n hc) (fun b o hc e n => u.free b o e n hc) (fun b o hc e => u.there b o e hc) u.tups u.frzs u.tbls (fun m' hm => by
    obtain ⟨o', es', ep', ho', r'⟩ := hm
    rw [ho] at ho'; cases ho'
    exact ⟨_, es', ep', hL, r'⟩) hok hg
theorem Inv.turned {t' : Nat} {it : Addr} (I : Inv X pins σ H s) (k : ∀ b o, b ≠ it → s.heap.get? b = some o → h'.get? b = some o) (hn : H it = none) (hL : it ≠ X.env.locals)
    (h1 : it ∈ X.ex ∨ X.s₀.heap.objs.size ≤ it) (h2 : ∀ x c, X.env.cells.lookup x = some c → c ≠ it) (h3 : ∀ p ∈ X.pn ++ pins, p.1 ≠ it) : Inv X pins σ H { s with heap := h', toks := t' } := by
  have nit : ∀ b u, H b = some u → b ≠ it := fun b u e z => by rw [z, hn] at e; cases e
  refine I.step (g' := s.gens) (d' := s.drawn) (ch := [it]) (fun b hb => ?_) (fun b o _ _ hc e _ => k b o (fun z => hc (by simp [z])) e) (fun b o _ _ hc e _ => ⟨o.slots, k b o (fun z => hc (by simp [z])) e⟩) (fun _ _ _ _ n => n)
    (fun b o hc e => ⟨o, k b o (fun z => hc (by simp [z])) e⟩) (fun _ _ e => e) (fun _ _ _ e => e) (fun b ps e => ⟨#[], by rw [e]; simp⟩) (fun m hm => ?_) (fun b u e => ?_) I.bare
  · have e : b = it := by simpa using hb
    subst e
    exact ⟨h1, hL, h2, h3⟩
  · obtain ⟨o, es, ep, ho, r⟩ := hm
    exact ⟨o, es, ep, k _ o (Ne.symm hL) ho, r⟩
  · refine (I.hok b u e).stay (fun c v hc q => k c v ?_ q) (fun _ q => q) fun _ _ q => q
    rcases hc with z | z
    · rw [z]; exact nit b u e
    · exact nit c _ z
theorem Inv.tok (I : Inv X pins σ H s) (t : Nat) : Inv X pins σ H { s with toks := t } := I.un (h' := s.heap) (t' := t) Un.refl I.hok
theorem Inv.kept {t' : Nat} (I : Inv X pins σ H s) (k : ∀ b u, s.heap.get? b = some u → h'.get? b = some u) : Inv X pins σ H { s with heap := h', toks := t' } := I.un (Un.kept k) (I.hok.kept k)
theorem Inv.laid {a : Addr} {o : HO} {t' : Nat} (I : Inv X pins σ H s) (k : ∀ b u, s.heap.get? b = some u → h'.get? b = some u) (hp : s.heap.objs.size ≤ a) (new : ObjOk X.prog X.w (upd H a o) h' a o) :
    Inv X pins σ (upd H a o) { s with heap := h', toks := t' } := I.un (Un.laid k hp (I.hok.fresh hp)) (I.hok.laid k hp new)
theorem Inv.write {x e : Addr} {o : HO} {t' : Nat} (I : Inv X pins σ H s) (mu : Mut (H x)) (he : e = x ∨ H e = some (.own x)) (k : ∀ b u, b ≠ e → s.heap.get? b = some u → h'.get? b = some u) (heo : ∃ u, h'.get? e = some u)
    (new : ObjOk X.prog X.w (upd H x o) h' x o) : Inv X pins σ (upd H x o) { s with heap := h', toks := t' } := I.un (Un.write mu he k heo) (I.hok.write mu he k heo new)
theorem Inv.pins_of {pins' : List (Addr × Obj)} (I : Inv X pins σ H s) (h : ∀ p ∈ pins', s.heap.get? p.1 = some p.2 ∧ H p.1 = none ∧ p.1 ≠ X.env.locals ∧ p.1 ∉ X.fs ∧ ∀ v, p.2.data ≠ .cell v) : Inv X pins' σ H s :=
  ⟨I.ok, I.os, I.bare, I.base, I.loc, I.cell, I.free, I.freeC, fun p hp => (List.mem_append.mp hp).elim (fun z => I.pin p (List.mem_append_left _ z)) (h p), I.hok, I.len⟩
theorem nodup_ix {N : List Str} (hN : N.Nodup) {i j : Nat} {x : Str} (a : N[i]? = some x) (b : N[j]? = some x) : i = j := by
  obtain ⟨h1, e1⟩ := List.getElem?_eq_some_iff.mp a
  obtain ⟨h2, e2⟩ := List.getElem?_eq_some_iff.mp b
  exact (List.getElem_inj hN).mp (e1.trans e2.symm)
theorem store_ok2 {M : Model} {A : Around} {E : Value → Shared → Prop} {i : Nat} {x : Str} {v : V} {u : Value} {Q : Unit → Shared → Prop} (I : Inv X pins σ H s) (hN : X.N.Nodup) (hi : X.N[i]? = some x) (hx : Loc X.env.scope x) (r : RelV v u)
    (h : ∀ s', Inv X pins (σ.set i (some v)) H s' → (∃ a, Heap.SameBut a s.heap s'.heap ∧ (a = X.env.locals ∨ X.env.cells.lookup x = some a)) → Q () s') (hf : X.fn x = true ∨ X.env.scope.names.lookup x = some .local := by first | exact .inl rfl | exact .inr rfl | assumption) : wpAny M A (storeName X.env x u) Q E s := by
  obtain ⟨m, hn, hl⟩ := id I.loc
  have hcls : (X.env.scope.kind == .class || (X.env.scope.kind == .module && X.env.locals != X.env.globals)) = false := by rw [I.ok.kind]; rfl
  have hiσ : i < σ.length := by rw [I.len]; exact (List.getElem?_eq_some_iff.mp hi).1
  have cne := I.cne
  have tracked : ∀ {a : Addr} {h' : Heap}, (∃ o, s.heap.get? a = some o ∧ H a = none) → Heap.SameBut a s.heap h' → HOk X.prog X.w H h' := fun {a h'} ha hs b ob e => by
    obtain ⟨_, _, hfree⟩ := ha
    refine (I.hok b ob e).stay (fun c w' hc q => (hs.2 c ?_).trans q) (fun _ q => q) fun _ _ q => q
    rintro rfl
    rcases hc with rfl | hc
    · rw [hfree] at e; cases e
    · rw [hfree] at hc; cases hc
  rcases hx with hk | hk
  · refine wpAny_storeName_local hk hn (fun h' hn' hs => ?_) hcls
    obtain ⟨oL, _, _, hoL, _⟩ := id hn
    refine h _ ⟨I.ok, I.os, I.bare, ⟨fun b o e n hb hx => ?_, fun b o e n hb hx => ?_, I.base.free, fun b o e hx => ?_, I.base.tups, I.base.frzs, I.base.tbls⟩, ⟨_, hn', fun j y v' e1 e2 e3 => ?_⟩, fun y c e => ?_, I.free, I.freeC, fun p hp => ?_, tracked ⟨oL, hoL, I.free⟩ hs, by simpa using I.len⟩ ⟨_, hs, .inl rfl⟩
    · exact (hs.2 b (Nat.ne_of_lt (Nat.lt_of_lt_of_le (Heap.lt_size e) I.ok.above))).trans (I.base.keep b o e n hb hx)
    · obtain ⟨sl, e1⟩ := I.base.slot b o e n hb hx
      exact ⟨sl, (hs.2 b (Nat.ne_of_lt (Nat.lt_of_lt_of_le (Heap.lt_size e) I.ok.above))).trans e1⟩
    · obtain ⟨o', e1⟩ := I.base.there b o e hx
      exact ⟨o', (hs.2 b (Nat.ne_of_lt (Nat.lt_of_lt_of_le (Heap.lt_size e) I.ok.above))).trans e1⟩
    · by_cases hj : j = i
      · subst hj
        rw [hi] at e1; cases e1
        rw [List.getElem?_set_self hiσ] at e2
        cases e2
        exact ⟨u, r, .inl ⟨hk, by simp⟩⟩
      · rw [List.getElem?_set_ne (Ne.symm hj)] at e2
        obtain ⟨u', r', q⟩ := hl j y v' e1 e2 e3
        refine ⟨u', r', ?_⟩
        rcases q with ⟨k, e⟩ | ⟨k, c, e, z⟩
        · refine .inl ⟨k, ?_⟩
          have : y ≠ x := fun e => hj (nodup_ix hN e1 (e ▸ hi))
          simp [this, e]
        · exact .inr ⟨k, c, e, z.sameBut hs (cne y c e)⟩
    · obtain ⟨w', z⟩ := I.cell y c e
      exact ⟨w', z.sameBut hs (cne y c e)⟩
    · obtain ⟨e, n, ne, nf, d⟩ := I.pin p hp
      exact ⟨(hs.2 p.1 ne).trans e, n, ne, nf, d⟩
  · have hfn : X.fn x = true := by
      rcases hf with z | z
      · exact z
      · rw [z] at hk; cases hk
    obtain ⟨c, hc⟩ := I.ok.has x (.inl hk)
    obtain ⟨w', z⟩ := I.cell x c hc
    refine wpAny_storeName_cell I.ok.kind hk hc z (fun h' hc' hs => ?_)
    obtain ⟨oc, hoc, hocd⟩ := id z
    refine h { s with heap := h' } ⟨I.ok, I.os, I.bare, ⟨fun b o e n hb hx => ?_, fun b o e n hb hx => ?_, I.base.free, fun b o e hx => ?_, I.base.tups, I.base.frzs, I.base.tbls⟩, ⟨m, hn.sameBut hs (Ne.symm (cne x c hc)), fun j y v' e1 e2 e3 => ?_⟩, fun y c' e => ?_, I.free, I.freeC, fun p hp => ?_, tracked ⟨oc, hoc, I.freeC x c hc⟩ hs, by simpa using I.len⟩ ⟨c, hs, .inr hc⟩
    · exact (hs.2 b (Nat.ne_of_lt (Nat.lt_of_lt_of_le (Heap.lt_size e) (I.ok.cab x c hfn hc)))).trans (I.base.keep b o e n hb hx)
    · obtain ⟨sl, e1⟩ := I.base.slot b o e n hb hx
      exact ⟨sl, (hs.2 b (Nat.ne_of_lt (Nat.lt_of_lt_of_le (Heap.lt_size e) (I.ok.cab x c hfn hc)))).trans e1⟩
    · obtain ⟨o', e1⟩ := I.base.there b o e hx
      exact ⟨o', (hs.2 b (Nat.ne_of_lt (Nat.lt_of_lt_of_le (Heap.lt_size e) (I.ok.cab x c hfn hc)))).trans e1⟩
    · by_cases hj : j = i
      · subst hj
        rw [hi] at e1; cases e1
        rw [List.getElem?_set_self hiσ] at e2
        cases e2
        exact ⟨u, r, .inr ⟨.inl hk, c, hc, hc'⟩⟩
      · rw [List.getElem?_set_ne (Ne.symm hj)] at e2
        obtain ⟨u', r', q⟩ := hl j y v' e1 e2 e3
        refine ⟨u', r', ?_⟩
        rcases q with q | ⟨k, c', e, z'⟩
        · exact .inl q
        · refine .inr ⟨k, c', e, z'.sameBut hs ?_⟩
          rintro rfl
          exact hj (nodup_ix hN e1 (I.ok.inj _ _ _ e hc ▸ hi))
    · by_cases hcc : c' = c
      · subst hcc; exact ⟨_, hc'⟩
      · obtain ⟨w2, z2⟩ := I.cell y c' e
        exact ⟨w2, z2.sameBut hs hcc⟩
    · obtain ⟨e, n, ne, nf, d⟩ := I.pin p hp
      refine ⟨(hs.2 p.1 ?_).trans e, n, ne, nf, d⟩
      intro q
      rw [q, hoc] at e
      have q' : oc = p.2 := Option.some.inj e
      exact d w' (by rw [← q']; exact hocd)
theorem store_ok {M : Model} {A : Around} {E : Value → Shared → Prop} {i : Nat} {x : Str} {v : V} {u : Value} {Q : Unit → Shared → Prop} (I : Inv X pins σ H s) (hN : X.N.Nodup) (hi : X.N[i]? = some x) (hx : Loc X.env.scope x) (r : RelV v u)
    (h : ∀ s', Inv X pins (σ.set i (some v)) H s' → Q () s') (hf : X.fn x = true ∨ X.env.scope.names.lookup x = some .local := by first | exact .inl rfl | exact .inr rfl | assumption) : wpAny M A (storeName X.env x u) Q E s :=
  store_ok2 I hN hi hx r (fun s' I' _ => h s' I') hf
theorem Inv.call' {s' : Shared} {ch : List Addr} (I : Inv X pins σ H s) (ho : s'.os = s.os) (u : Un (frs X.stack) ch H H' s.heap s'.heap) (hok : HOk X.prog X.w H' s'.heap) (hg : AllBare s'.gens)
    (hch : ∀ b ∈ ch, (b ∈ X.ex ∨ X.s₀.heap.objs.size ≤ b) ∧ b ≠ X.env.locals ∧ (∀ x c, X.env.cells.lookup x = some c → c ≠ b) ∧ ∀ p ∈ X.pn ++ pins, p.1 ≠ b) : Inv X pins σ H' s' := by
  obtain ⟨h', g', d', t', o'⟩ := s'
  have e : o' = s.os := ho
  subst e
  exact I.call (g' := g') (t' := t') (d' := d') u hok hg hch
end
abbrev XK := Value → Option Addr → Hp → Prop
abbrev St := List (Option V)
abbrev VK := V → Hp → Prop
abbrev TE := St → Hp → VK → Prop
abbrev TT := St → Hp → (Bool → Hp → Prop) → Prop
abbrev TA := St → Hp → (List V → Hp → Prop) → Prop
structure Ends where
  nx : St → Hp → Prop
  rt : VK
  bk : St → Hp → Prop := fun _ _ => False
  ct : St → Hp → Prop := fun _ _ => False
abbrev TS := Ends → St → Hp → Prop
def EP (X : Cx) (pins : List (Addr × Obj)) (σ : St) (Q : VK) (u : Value) (s' : Shared) : Prop := ∃ v H', Inv X pins σ H' s' ∧ RelV v u ∧ Q v H'
def TP (X : Cx) (pins : List (Addr × Obj)) (σ : St) (Q : Bool → Hp → Prop) (b : Bool) (s' : Shared) : Prop := ∃ H', Inv X pins σ H' s' ∧ Q b H'
def AP (X : Cx) (pins : List (Addr × Obj)) (σ : St) (Q : List V → Hp → Prop) (us : List Value) (s' : Shared) : Prop := ∃ vs H', Inv X pins σ H' s' ∧ Vals vs us ∧ Q vs H'
def SP (X : Cx) (pins : List (Addr × Obj)) (D : Ends) (f : Flow) (s' : Shared) : Prop :=
  match f with
  | .next => ∃ σ' H', Inv X pins σ' H' s' ∧ D.nx σ' H'
  | .brk => ∃ σ' H', Inv X pins σ' H' s' ∧ D.bk σ' H'
  | .cont => ∃ σ' H', Inv X pins σ' H' s' ∧ D.ct σ' H'
  | .ret u => ∃ v σ' H', Inv X pins σ' H' s' ∧ RelV v u ∧ D.rt v H'
def PE (X : Cx) (e : Expr) (t : TE) : Prop :=
  ∀ (pins : List (Addr × Obj)) (s : Shared) (σ : St) (H : Hp) (Q : VK), Inv X pins σ H s → t σ H Q → wpAny (model X.prog X.w) X.A (eval e X.env) (EP X pins σ Q) X.xe s
def PT (X : Cx) (e : Expr) (t : TT) : Prop :=
  ∀ (pins : List (Addr × Obj)) (s : Shared) (σ : St) (H : Hp) (Q : Bool → Hp → Prop), Inv X pins σ H s → t σ H Q → wpAny (model X.prog X.w) X.A (isTrue e X.env (eval e X.env)) (TP X pins σ Q) X.xe s
def PW (X : Cx) (e : Expr) (t : TT) : Prop :=
  ∀ (whole : Sem Value) (pins : List (Addr × Obj)) (s : Shared) (σ : St) (H : Hp) (Q : Bool → Hp → Prop), Inv X pins σ H s → t σ H Q → wpAny (model X.prog X.w) X.A (isTrue e X.env whole) (TP X pins σ Q) X.xe s
theorem PW.pt {X : Cx} {e : Expr} {t : TT} (h : PW X e t) : PT X e t := h _
def PA (X : Cx) (es : List Expr) (t : TA) : Prop :=
  ∀ (pos : Pos) (pins : List (Addr × Obj)) (s : Shared) (σ : St) (H : Hp) (Q : List V → Hp → Prop), Inv X pins σ H s → t σ H Q → wpAny (model X.prog X.w) X.A (spliced (backTo pos (starEach es X.env))) (AP X pins σ Q) X.xe s
def PS (X : Cx) (st : Stmt) (t : TS) : Prop :=
  ∀ (pins : List (Addr × Obj)) (s : Shared) (σ : St) (H : Hp) (D : Ends), Inv X pins σ H s → t D σ H → wpAny (model X.prog X.w) X.A (exec st X.env) (SP X pins D) X.xe s
def PSs (X : Cx) (st : List Stmt) (t : TS) : Prop :=
  ∀ (pins : List (Addr × Obj)) (s : Shared) (σ : St) (H : Hp) (D : Ends), Inv X pins σ H s → t D σ H → wpAny (model X.prog X.w) X.A (execs st X.env) (SP X pins D) X.xe s
theorem thn {α : Type} {t : Sem α} {Q Q' : α → Shared → Prop} {M : Model} {A : Around} {E : Value → Shared → Prop} {s : Shared} (h : wpAny M A t Q E s) (hQ : ∀ a s, Q a s → Q' a s) : wpAny M A t Q' E s := wpAny_mono h hQ fun _ _ x => x
end L2
namespace L2
open PySem PySem.Spec PyProof.Rows
section
variable {X : Cx}
theorem bin {a b : Expr} {ta tb : TE} (ha : PE X a ta) (hb : PE X b tb) {pins : List (Addr × Obj)} {s : Shared} {σ : St} {H : Hp} {R : V → V → Hp → Prop} (I : Inv X pins σ H s) (h : ta σ H fun x H1 => tb σ H1 fun y H2 => R x y H2)
    {α : Type} {Q : α → Shared → Prop} {f : Value → Value → Sem α}
    (hf : ∀ v u s2 x y H2, Inv X pins σ H2 s2 → RelV x v → RelV y u → R x y H2 → wpAny (model X.prog X.w) X.A (f v u) Q X.xe s2) :
    wpAny (model X.prog X.w) X.A (eval a X.env) (fun v s₁ => wpAny (model X.prog X.w) X.A (eval b X.env) (fun u s₂ => wpAny (model X.prog X.w) X.A (f v u) Q X.xe s₂) X.xe s₁) X.xe s := by
  refine thn (ha pins s σ H _ I h) fun v s1 ⟨x, H1, I1, r1, q1⟩ => ?_
  refine thn (hb pins s1 σ H1 _ I1 q1) fun u s2 ⟨y, H2, I2, r2, q2⟩ => ?_
  exact hf v u s2 x y H2 I2 r1 r2 q2
def tVar (i : Nat) : TE := fun σ H Q => ∃ v, σ[i]? = some (some v) ∧ Q v H
def tC (v : V) : TE := fun _ H Q => Q v H
theorem pe_var {i : Nat} {x : Str} {pos : Pos} (hN : X.N[i]? = some x) (hv : Vis X.env.scope x) (hd : (x == ("__debug__" : Str)) = false := by decide) (hcd : (x == ("__classdict__" : Str)) = false := by decide) : PE X (.Name x pos) (tVar i) := by
  intro pins s σ H Q I h
  obtain ⟨v, e, h⟩ := h
  obtain ⟨m, hn, hl⟩ := I.loc
  obtain ⟨u, r, l⟩ := hl i x v hN e hv
  have fin : EP X pins σ Q u s := ⟨v, H, I, r, h⟩
  rcases l with ⟨hk, hm⟩ | ⟨hk, c, hc, hcell⟩
  · exact wpAny_Name (wpAny_loadName_local I.ok.kind hk hn hm fin) hd
  · rcases hk with hk | hk
    · exact wpAny_Name (wpAny_loadName_cell I.ok.kind hk hc hcell fin) hd
    · exact wpAny_Name (wpAny_loadName_free I.ok.kind hk hc hcell fin hcd) hd
theorem pe_int {i j pos} : PE X (.Constant (.int i) j pos) (tC (.int i)) := fun _ _ _ H _ I h => wpAny_Constant_int ⟨.int i, H, I.tok _, ⟨_, rfl⟩, h⟩
theorem pe_bl {b j pos} : PE X (.Constant (.bool b) j pos) (tC (.bl b)) := fun _ _ _ H _ I h => Constant_bool ⟨.bl b, H, I, rfl, h⟩
def Gl (X : Cx) (x : Str) : Prop := X.env.kindOf x = some .globalImplicit
theorem ld_glob {E : Value → Shared → Prop} {pins : List (Addr × Obj)} {s : Shared} {σ : St} {H : Hp} {x : Str} {u : Value} {pos : Pos} {Q : Value → Shared → Prop} (I : Inv X pins σ H s) (hg : Gl X x) (hm : X.mg x = some u) (h : Q u s)
    (hd : (x == ("__debug__" : Str)) = false := by decide) : wpAny (model X.prog X.w) X.A (eval (.Name x pos) X.env) Q E s :=
  Calls.Name_function_global I.ok.kind hg (Calls.loadGlobal_global (by rw [I.ok.glob]; exact I.mod.glob.keeps I.bk) hm h) hd
theorem ld_blt {E : Value → Shared → Prop} {pins : List (Addr × Obj)} {s : Shared} {σ : St} {H : Hp} {x : Str} {u : Value} {pos : Pos} {Q : Value → Shared → Prop} (I : Inv X pins σ H s) (hg : Gl X x) (hm : X.mg x = none) (hv : bootBuiltins x = some u) (h : Q u s)
    (hn : x ≠ "__name__" := by decide) (hd : (x == ("__debug__" : Str)) = false := by decide) : wpAny (model X.prog X.w) X.A (eval (.Name x pos) X.env) Q E s := by
  obtain ⟨mb, h1, h2⟩ := I.mod.blt
  exact Calls.Name_function_global I.ok.kind hg (Calls.loadGlobal_builtin (by rw [I.ok.glob]; exact I.mod.glob.keeps I.bk) hm (by rw [I.ok.blt]; exact h1.keeps I.bk) ((h2 x hn).trans hv) h) hd
theorem pe_glob {x : Str} {v : V} {u : Value} {pos : Pos} (hg : Gl X x) (hm : X.mg x = some u) (r : RelV v u) (hd : (x == ("__debug__" : Str)) = false := by decide) : PE X (.Name x pos) (tC v) :=
  fun _ _ _ H _ I h => ld_glob I hg hm ⟨v, H, I, r, h⟩ hd
theorem pe_bltn {x : Str} {v : V} {u : Value} {pos : Pos} (hg : Gl X x) (hm : X.mg x = none) (hv : bootBuiltins x = some u) (r : RelV v u) (hn : x ≠ "__name__" := by decide) (hd : (x == ("__debug__" : Str)) = false := by decide) : PE X (.Name x pos) (tC v) :=
  fun _ _ _ H _ I h => ld_blt I hg hm hv ⟨v, H, I, r, h⟩ hn hd
variable {a b : Expr} {ta tb : TE} {pos : Pos}
def PC (X : Cx) (op : CmpOp) (a b : Expr) (t : TE) : Prop :=
  ∀ (pins : List (Addr × Obj)) (s : Shared) (σ : St) (H : Hp) (Q : VK), Inv X pins σ H s → t σ H Q →
    wpAny (model X.prog X.w) X.A (eval a X.env) (fun v s₁ => wpAny (model X.prog X.w) X.A (eval b X.env) (fun u s₂ => wpAny (model X.prog X.w) X.A (compareOp op v u) (EP X pins σ Q) X.xe s₂) X.xe s₁) X.xe s
theorem nobehind (b : Expr) {op : CmpOp} (h : op ≠ .In) (h2 : op ≠ .NotIn) : behindInMarks op b = false := by
  have e1 : (op == CmpOp.In) = false := by cases op <;> first | rfl | exact absurd rfl h
  have e2 : (op == CmpOp.NotIn) = false := by cases op <;> first | rfl | exact absurd rfl h2
  cases b <;> simp [behindInMarks, e1, e2]
def tB (t : TE) : TT := fun σ H Q => t σ H fun x H1 => ∃ c, x = .bl c ∧ Q c H1
theorem pt_cmp {op : CmpOp} {t : TE} (h : PC X op a b t) (h1 : behindInMarks op b = false := by first | exact nobehind _ (by decide) (by decide) | rfl) : PT X (.Compare a [op] [b] pos) (tB t) := by
  intro pins s σ H Q I hw
  refine wpAny_isTrue_Compare1 (thn (h pins s σ H _ I hw) fun v s1 h1 => thn h1 fun u s2 h2 => thn h2 fun c s3 ⟨x, H1, I1, r1, q1⟩ => ?_) h1
  obtain ⟨d, rfl, q⟩ := q1
  cases r1
  exact wpAny_truthy_bool ⟨H1, I1, q⟩
theorem pt_val {e : Expr} {t : TE} (h : PE X e t) (he : ∀ whole, isTrue e X.env whole = (do let v ← whole; standAt e.pos; holding [v] (truthy v)) := by intro _; rfl) : PT X e (tB t) := by
  intro pins s σ H Q I hw
  refine isTrue_plain (thn (h pins s σ H _ I hw) fun v s1 ⟨x, H1, I1, r1, q1⟩ => ?_) (he _)
  obtain ⟨d, rfl, q⟩ := q1
  cases r1
  exact wpAny_truthy_bool ⟨H1, I1, q⟩
variable {tA tB' : TT} {rest : List Expr}
def tAnd (t u : TT) : TT := fun σ H Q => t σ H fun c H1 => if c = true then u σ H1 Q else Q false H1
def tOr (t u : TT) : TT := fun σ H Q => t σ H fun c H1 => if c = true then Q true H1 else u σ H1 Q
def tNot (t : TT) : TT := fun σ H Q => t σ H fun c H1 => Q (!c) H1
theorem pw_and1 (ha : PT X a tA) : PW X (.BoolOp .And [a] pos) tA := by
  intro wh pins s σ H Q I h
  refine isTrue_and (thn (ha pins s σ H Q I h) fun c s1 e => ?_)
  cases c with
  | true => exact isTrue_and_nil e
  | false => exact e
theorem pw_or1 (ha : PT X a tA) : PW X (.BoolOp .Or [a] pos) tA := by
  intro wh pins s σ H Q I h
  refine isTrue_or (thn (ha pins s σ H Q I h) fun c s1 e => ?_)
  cases c with
  | false => exact isTrue_or_nil e
  | true => exact e
theorem pw_and (ha : PT X a tA) (hb : PW X (.BoolOp .And (b :: rest) pos) tB') : PW X (.BoolOp .And (a :: b :: rest) pos) (tAnd tA tB') := by
  intro wh pins s σ H Q I h
  refine isTrue_and (thn (ha pins s σ H _ I h) fun c s1 ⟨H1, I1, q1⟩ => ?_)
  cases c with
  | true => exact hb wh pins s1 σ H1 Q I1 q1
  | false => exact ⟨H1, I1, q1⟩
theorem pw_or (ha : PT X a tA) (hb : PW X (.BoolOp .Or (b :: rest) pos) tB') : PW X (.BoolOp .Or (a :: b :: rest) pos) (tOr tA tB') := by
  intro wh pins s σ H Q I h
  refine isTrue_or (thn (ha pins s σ H _ I h) fun c s1 ⟨H1, I1, q1⟩ => ?_)
  cases c with
  | true => exact ⟨H1, I1, q1⟩
  | false => exact hb wh pins s1 σ H1 Q I1 q1
theorem pt_not (ha : PT X a tA) : PT X (.UnaryOp .Not a pos) (tNot tA) := by
  intro pins s σ H Q I h
  exact isTrue_not (ha pins s σ H (fun c H1 => Q (!c) H1) I h)
def tAndV (ta tb : TE) : TE := fun σ H Q => ta σ H fun x H1 => ∃ c, x = .bl c ∧ if c = true then tb σ H1 Q else Q (.bl false) H1
def tNotV (ta : TE) : TE := fun σ H Q => ta σ H fun x H1 => ∃ c, x = .bl c ∧ Q (.bl (!c)) H1
theorem pe_one {op} {t : TE} (h : PE X a t) : PE X (.BoolOp op [a] pos) t := fun pins s σ H Q I hw => BoolOp_one (h pins s σ H Q I hw)
theorem pe_and (ha : PE X a ta) (hb : PE X (.BoolOp .And (b :: rest) pos) tb) : PE X (.BoolOp .And (a :: b :: rest) pos) (tAndV ta tb) := by
  intro pins s σ H Q I h
  refine BoolOp_and (thn (ha pins s σ H _ I h) fun v s1 ⟨x, H1, I1, r1, q1⟩ => ?_)
  obtain ⟨c, rfl, q1⟩ := q1
  cases r1
  refine wpAny_truthy_bool ?_
  cases c with
  | true => exact hb pins s1 σ H1 Q I1 q1
  | false => exact ⟨.bl false, H1, I1, rfl, q1⟩
theorem pe_not (ha : PE X a ta) : PE X (.UnaryOp .Not a pos) (tNotV ta) := by
  intro pins s σ H Q I h
  refine UnaryOp_ (thn (ha pins s σ H _ I h) fun v s1 ⟨x, H1, I1, r1, q1⟩ => ?_)
  obtain ⟨c, rfl, q1⟩ := q1
  cases r1
  exact not_of (wpAny_truthy_bool ⟨.bl (!c), H1, I1, rfl, q1⟩)
end
end L2
namespace L2
open PySem PySem.Spec PyProof.Rows
def SqL (K : PySem.W.Frag) (H : Hp) (a : Addr) (xs : List V) : Prop :=
  Rd H a (.lst xs) ∨
    ∃ (o : Obj) (its : Array Value) (n : Nat), K.lookup a = some o ∧ o.cls = .type "list" ∧ o.dict = none ∧ o.data = .seq its n ∧ its.size ≤ sizeLine ∧ Vals xs its.toList
def SqT (K : PySem.W.Frag) (H : Hp) (a : Addr) (xs : List V) : Prop :=
  Rd H a (.tup xs) ∨
    ∃ (o : Obj) (its : Array Value) (n : Nat), K.lookup a = some o ∧ o.cls = .type "tuple" ∧ o.data = .seq its n ∧ its.size ≤ sizeLine ∧ Vals xs its.toList
def absV : Value → Option V
  | .none => some .non
  | .bool b => some (.bl b)
  | .int i _ => some (.int i)
  | .str x _ => some (.str x)
  | .bytes b _ => some (.byt b)
  | .float b _ => some (.flt b)
  | .ref a => some (.ref a)
  | .type n => some (.ty n)
  | _ => none
theorem RelV.abs {x : V} {u : Value} (r : RelV x u) : absV u = some x := by
  cases x with
  | non => cases r; rfl
  | bl _ => cases r; rfl
  | int _ => obtain ⟨t, rfl⟩ := r; rfl
  | str _ => obtain ⟨t, rfl⟩ := r; rfl
  | byt _ => obtain ⟨t, rfl⟩ := r; rfl
  | flt _ => obtain ⟨t, rfl⟩ := r; rfl
  | ref _ => cases r; rfl
  | ty _ => cases r; rfl
theorem RelV.inj {x y : V} {u : Value} (r : RelV x u) (q : RelV y u) : x = y := Option.some.inj (r.abs.symm.trans q.abs)
theorem Vals.inj : ∀ {xs ys : List V} {us : List Value}, Vals xs us → Vals ys us → xs = ys
  | _, _, _, .nil, .nil => rfl
  | _, _, _, .cons r t, .cons r' t' => by rw [r.inj r', Vals.inj t t']
section
variable {X : Cx} {pins : List (Addr × Obj)} {σ : St} {H : Hp} {s : Shared} {a : Addr} {xs ys : List V}
theorem SqL.of {K : PySem.W.Frag} (h : H a = some (.lst xs)) : SqL K H a xs := .inl (.inl h)
theorem SqT.of {K : PySem.W.Frag} (h : H a = some (.tup xs)) : SqT K H a xs := .inl (.inl h)
theorem Inv.list (I : Inv X pins σ H s) (h : SqL X.K H a xs) : ∃ its : List Value, Vals xs its ∧ PlainL s.heap a its.toArray ∧ xs.length ≤ sizeLine := by
  rcases h with h | ⟨o, its, n, hk, hc, hd, hs, hz, r⟩
  · obtain ⟨z, its, n, r, e⟩ := h.ok I.hok
    exact ⟨its, r, ⟨_, n, e, rfl, rfl, rfl⟩, z⟩
  · refine ⟨its.toList, r, ⟨o, n, I.kIn a o hk, hc, hd, by simpa using hs⟩, ?_⟩
    have e := r.length
    simp only [Array.length_toList] at e
    omega
theorem Inv.tuple (I : Inv X pins σ H s) (h : SqT X.K H a xs) : ∃ its : List Value, Vals xs its ∧ IsTup s.heap a its.toArray ∧ xs.length ≤ sizeLine := by
  rcases h with h | ⟨o, its, n, hk, hc, hs, hz, r⟩
  · obtain ⟨z, its, r, p⟩ := h.ok I.hok
    exact ⟨its, r, p, z⟩
  · refine ⟨its.toList, r, ⟨o, I.kIn a o hk, hc, n, by simpa using hs⟩, ?_⟩
    have e := r.length
    simp only [Array.length_toList] at e
    omega
theorem Inv.list_inj (I : Inv X pins σ H s) (h : SqL X.K H a xs) (h' : SqL X.K H a ys) : xs = ys := by
  obtain ⟨its, r, ⟨o, n, e, _, _, d⟩, _⟩ := I.list h
  obtain ⟨its', r', ⟨o', n', e', _, _, d'⟩, _⟩ := I.list h'
  rw [e] at e'; cases e'
  rw [d] at d'
  injection d' with d1 _
  have : its = its' := by simpa using congrArg Array.toList d1
  subst this
  exact r.inj r'
theorem Inv.tuple_inj (I : Inv X pins σ H s) (h : SqT X.K H a xs) (h' : SqT X.K H a ys) : xs = ys := by
  obtain ⟨its, r, ⟨o, e, _, n, d⟩, _⟩ := I.tuple h
  obtain ⟨its', r', ⟨o', e', _, n', d'⟩, _⟩ := I.tuple h'
  rw [e] at e'; cases e'
  rw [d] at d'
  injection d' with d1 _
  have : its = its' := by simpa using congrArg Array.toList d1
  subst this
  exact r.inj r'
end
abbrev Cx.wish (X : Cx) (E : Value → Shared → Prop) : Cx := { X with xe := E }
abbrev Cx.nox (X : Cx) : Cx := X.wish fun _ _ => False
theorem Cx.Ok.wish {X : Cx} (ok : X.Ok) (E : Value → Shared → Prop) : (X.wish E).Ok :=
  ⟨ok.mod, ok.kind, ok.glob, ok.blt, ok.above, ok.inj, ok.has, ok.cab, ok.hd, ok.frames, ok.stk, ok.exf, ok.bs, ok.bsz, ok.noex, ok.exfs, ok.funs, ok.frf⟩
theorem Cx.Ok.unwish {X : Cx} {E : Value → Shared → Prop} (ok : (X.wish E).Ok) : X.Ok :=
  ⟨ok.mod, ok.kind, ok.glob, ok.blt, ok.above, ok.inj, ok.has, ok.cab, ok.hd, ok.frames, ok.stk, ok.exf, ok.bs, ok.bsz, ok.noex, ok.exfs, ok.funs, ok.frf⟩
section
variable {X : Cx} {pins : List (Addr × Obj)} {σ : St} {H : Hp} {s : Shared} {E : Value → Shared → Prop}
theorem Inv.wish (I : Inv X pins σ H s) (E : Value → Shared → Prop) : Inv (X.wish E) pins σ H s := ⟨I.ok.wish E, I.os, I.bare, I.base, I.loc, I.cell, I.free, I.freeC, I.pin, I.hok, I.len⟩
theorem Inv.unwish (I : Inv (X.wish E) pins σ H s) : Inv X pins σ H s := ⟨I.ok.unwish, I.os, I.bare, I.base, I.loc, I.cell, I.free, I.freeC, I.pin, I.hok, I.len⟩
theorem SP.unwish {D : Ends} {f : Flow} {s' : Shared} (h : SP (X.wish E) pins D f s') : SP X pins D f s' := by
  cases f with
  | next => obtain ⟨σ', H', I, q⟩ := h; exact ⟨σ', H', I.unwish, q⟩
  | brk => obtain ⟨σ', H', I, q⟩ := h; exact ⟨σ', H', I.unwish, q⟩
  | cont => obtain ⟨σ', H', I, q⟩ := h; exact ⟨σ', H', I.unwish, q⟩
  | ret u => obtain ⟨v, σ', H', I, r, q⟩ := h; exact ⟨v, σ', H', I.unwish, r, q⟩
theorem PE.nox {e : Expr} {t : TE} (h : PE X.nox e t) : PE X e t := fun pins s σ H Q I hw =>
  wpAny_mono (h pins s σ H Q (I.wish _) hw) (fun _ _ ⟨v, H', I', r, q⟩ => ⟨v, H', I'.unwish, r, q⟩) fun _ _ z => False.elim z
theorem PT.nox {e : Expr} {t : TT} (h : PT X.nox e t) : PT X e t := fun pins s σ H Q I hw =>
  wpAny_mono (h pins s σ H Q (I.wish _) hw) (fun _ _ ⟨H', I', q⟩ => ⟨H', I'.unwish, q⟩) fun _ _ z => False.elim z
theorem PSs.nox {st : List Stmt} {t : TS} (h : PSs X.nox st t) : PSs X st t := fun pins s σ H D I hw =>
  wpAny_mono (h pins s σ H D (I.wish _) hw) (fun _ _ q => q.unwish) fun _ _ z => False.elim z
end
section
variable {X : Cx} {st : Stmt} {rest : List Stmt} {t u : TS} {e : Expr} {te : TE} {pos : Pos}
def tNext : TS := fun D σ H => D.nx σ H
def tSeq (t u : TS) : TS := fun D σ H => t { D with nx := u D } σ H
theorem pss_nil : PSs X [] tNext := fun _ _ σ H _ I h => wpAny_execs_nil ⟨σ, H, I, h⟩
theorem pss_cons (h1 : PS X st t) (h2 : PSs X rest u) : PSs X (st :: rest) (tSeq t u) := by
  intro pins s σ H D I h
  refine wpAny_execs_cons (thn (h1 pins s σ H { D with nx := u D } I h) fun f s1 q => ?_)
  cases f with
  | next =>
    obtain ⟨σ', H', I', q⟩ := q
    exact h2 pins s1 σ' H' D I' q
  | ret v => exact q
  | brk => exact q
  | cont => exact q
theorem pss_one (h1 : PS X st t) : PSs X [st] t := by
  intro pins s σ H D I h
  refine wpAny_execs_cons (thn (h1 pins s σ H D I h) fun f s1 q => ?_)
  cases f with
  | next => exact wpAny_execs_nil q
  | ret v => exact q
  | brk => exact q
  | cont => exact q
theorem Inv.quiet {pins : List (Addr × Obj)} {σ : St} {H : Hp} {s : Shared} (I : Inv X pins σ H s) : interactive X.env = false := by simp [interactive, I.ok.kind]
def tDrop (te : TE) : TS := fun D σ H => te σ H fun _ H1 => D.nx σ H1
theorem ps_expr (he : PE X e te) (hs : swapsWith e none pos.line X.env = pure false := by rfl) : PS X (.Expr e pos) (tDrop te) := by
  intro pins s σ H D I h
  exact wpAny_Expr_any (thn (he pins s σ H _ I h) fun v s1 ⟨x, H1, I1, r1, q1⟩ => ⟨σ, H1, I1, q1⟩) I.quiet hs
def tRet (te : TE) : TS := fun D σ H => te σ H D.rt
theorem ps_ret (he : PE X e te) : PS X (.Return (some e) pos) (tRet te) := by
  intro pins s σ H D I h
  exact wpAny_Return_some (thn (he pins s σ H _ I h) fun v s1 ⟨x, H1, I1, r1, q1⟩ => ⟨x, σ, H1, I1, r1, q1⟩)
def tIfS (c : TT) (t u : TS) : TS := fun D σ H => c σ H fun b H1 => if b = true then t D σ H1 else u D σ H1
theorem ps_if {c : Expr} {a b : List Stmt} {tc : TT} (hc : PT X c tc) (ha : PSs X a t) (hb : PSs X b u) : PS X (.If c a b pos) (tIfS tc t u) := by
  intro pins s σ H D I h
  refine wpAny_If (thn (hc pins s σ H _ I h) fun d s1 ⟨H1, I1, q1⟩ => ?_)
  cases d with
  | true => exact ha pins s1 σ H1 D I1 q1
  | false => exact hb pins s1 σ H1 D I1 q1
def tNever : TS := fun _ _ _ => False
theorem pss_never {sts : List Stmt} : PSs X sts tNever := fun _ _ _ _ _ _ h => h.elim
end
abbrev TG := V → St → Hp → (St → Hp → Prop) → Prop
abbrev TGs := List V → St → Hp → (St → Hp → Prop) → Prop
def PG (X : Cx) (target : Expr) (t : TG) : Prop :=
  ∀ (pins : List (Addr × Obj)) (s : Shared) (σ : St) (H : Hp) (v : V) (u : Value) (Q : St → Hp → Prop), Inv X pins σ H s → RelV v u → t v σ H Q →
    wpAny (model X.prog X.w) X.A (assign target X.env u) (fun _ s' => ∃ σ' H', Inv X pins σ' H' s' ∧ Q σ' H') X.xe s
def PGs (X : Cx) (ts : List Expr) (t : TGs) : Prop :=
  ∀ (pins : List (Addr × Obj)) (s : Shared) (σ : St) (H : Hp) (vs : List V) (us : List Value) (Q : St → Hp → Prop), Inv X pins σ H s → Vals vs us → t vs σ H Q →
    wpAny (model X.prog X.w) X.A (assignInOrder ((assignEach ts X.env).map (·.2)) us) (fun _ s' => ∃ σ' H', Inv X pins σ' H' s' ∧ Q σ' H') X.xe s
section
variable {X : Cx} {pos : Pos}
def gName (i : Nat) : TG := fun v σ H Q => Q (σ.set i (some v)) H
theorem pg_name {i : Nat} {x : Str} (hN : X.N.Nodup) (hi : X.N[i]? = some x) (hx : Loc X.env.scope x) (hf : X.fn x = true ∨ X.env.scope.names.lookup x = some .local := by first | exact .inl rfl | exact .inr rfl | assumption) : PG X (.Name x pos) (gName i) := by
  intro pins s σ H v u Q I r h
  exact wpAny_assign_Name (store_ok I hN hi hx r (fun s' I' => ⟨_, H, I', h⟩) hf)
def gNil : TGs := fun vs σ H Q => vs = [] ∧ Q σ H
def gCons (t : TG) (u : TGs) : TGs := fun vs σ H Q => ∃ v r, vs = v :: r ∧ t v σ H fun σ' H' => u r σ' H' Q
theorem pgs_nil : PGs X [] gNil := by
  intro pins s σ H vs us Q I r h
  obtain ⟨e, h⟩ := h
  subst e
  cases r
  exact assignInOrder_nil ⟨σ, H, I, h⟩
theorem pgs_cons {e : Expr} {es : List Expr} {t : TG} {u : TGs} (h1 : PG X e t) (h2 : PGs X es u)
    (hs : (assignEach (e :: es) X.env).map (·.2) = assign e X.env :: (assignEach es X.env).map (·.2) := by rfl) : PGs X (e :: es) (gCons t u) := by
  intro pins s σ H vs us Q I r h
  obtain ⟨v, vr, e1, h⟩ := h
  subst e1
  cases r with
  | cons r rr =>
    rw [hs]
    refine assignInOrder_cons (thn (h1 pins s σ H _ _ _ I r h) fun _ s1 ⟨σ1, H1, I1, q1⟩ => ?_)
    exact h2 pins s1 σ1 H1 _ _ Q I1 rr q1
def gTup (K : PySem.W.Frag) (n : Nat) (t : TGs) : TG := fun v σ H Q => ∃ a xs, v = .ref a ∧ SqT K H a xs ∧ xs.length = n ∧ t xs σ H Q
theorem pg_tup {es : List Expr} {k : Nat} {t : TGs} {n : Nat} (hc : X.calm = true) (h : PGs X es t)
    (hn : (assignEach es X.env).length = n := by rfl) (hst : (assignEach es X.env).findIdx? (·.1) = none := by rfl) : PG X (.Tuple es k pos) (gTup X.K n t) := by
  intro pins s σ H v u Q I r hw
  obtain ⟨a, xs, e1, hq, hl, hw⟩ := hw
  subst e1
  cases r
  obtain ⟨its, rv, ht, hz⟩ := I.tuple hq
  refine assign_Tuple_tuple (I.ok.hd hc) ht (by simp [hn, ← hl, rv.length]) hst fun h' hx => ?_
  have I1 : Inv X pins σ H { s with heap := h' } := I.kept (t' := s.toks) fun b o e => hx b o (Nat.ne_of_lt (Heap.lt_size e)) e
  exact h pins _ σ H xs _ Q I1 (by simpa using rv) hw
def tAsg (te : TE) (g : TG) : TS := fun D σ H => te σ H fun x H1 => g x σ H1 D.nx
theorem ps_asg {tg e : Expr} {te : TE} {g : TG} (he : PE X e te) (hg : PG X tg g) (hs : swapsWithSole [tg] e pos.line X.env = pure false := by rfl) (hw : swappedStores [tg] e X.env = pure none := by rfl)
    (h1 : (assignEach [tg] X.env).map (·.2) = [assign tg X.env] := by rfl) : PS X (.Assign [tg] e pos) (tAsg te g) := by
  intro pins s σ H D I h
  refine wpAny_Assign_stores (thn (he pins s σ H _ I h) fun v s1 ⟨x, H1, I1, r1, q1⟩ => ?_) hs hw
  rw [h1]
  exact thn (hg pins s1 σ H1 x v _ I1 r1 q1) fun _ s2 q => q
theorem ps_set {i : Nat} {x : Str} {e : Expr} {te : TE} {pos' : Pos} (hN : X.N.Nodup) (hi : X.N[i]? = some x) (hx : Loc X.env.scope x) (he : PE X e te) (hs : swapsWith e (some (.Name x pos')) pos.line X.env = pure false := by rfl) (hf : X.fn x = true ∨ X.env.scope.names.lookup x = some .local := by first | exact .inl rfl | exact .inr rfl | assumption) :
    PS X (.Assign [.Name x pos'] e pos) (tAsg te (gName i)) := by
  intro pins s σ H D I h
  refine wpAny_Assign_Name (thn (he pins s σ H _ I h) fun v s1 ⟨y, H1, I1, r1, q1⟩ => ?_) hs
  exact store_ok I1 hN hi hx r1 (fun s2 I2 => ⟨_, H1, I2, q1⟩) hf
def tPar (i j : Nat) (ta : TA) : TS := fun D σ H => ta σ H fun vs H1 => ∃ v w, vs = [v, w] ∧ D.nx ((σ.set i (some v)).set j (some w)) H1
theorem ps_par {i j : Nat} {x y : Str} {a b : Expr} {ta : TA} {px py pt : Pos} {kt k2 pt2} (hc : X.calm = true) (hN : X.N.Nodup) (hi : X.N[i]? = some x) (hj : X.N[j]? = some y) (hij : i ≠ j)
    (hx : X.env.scope.names.lookup x = some .local) (hy : X.env.scope.names.lookup y = some .local) (ha : PA X [a, b] ta)
    (hw : swappedStores [.Tuple [.Name x px, .Name y py] kt pt] (.Tuple [a, b] k2 pt2) X.env = pure (some [x, y]))
    (hs : swapsWithSole [.Tuple [.Name x px, .Name y py] kt pt] (.Tuple [a, b] k2 pt2) pos.line X.env = pure false := by rfl) :
    PS X (.Assign [.Tuple [.Name x px, .Name y py] kt pt] (.Tuple [a, b] k2 pt2) pos) (tPar i j ta) := by
  intro pins s σ H D I h
  rw [exec_Assign_arm]
  refine wpAny_bind (wpAny_standAt ?_)
  rw [hs]
  refine wpAny_bind (wpAny_pure ?_)
  rw [if_neg (by decide)]
  refine wpAny_bind (Tuple_ (thn (ha _ pins s σ H _ I h) fun us s1 ⟨vs, H1, I1, r1, q1⟩ => ?_))
  obtain ⟨v, w, e1, q1⟩ := q1
  subst e1
  obtain ⟨u1, u2, rfl, rv, rw'⟩ : ∃ u1 u2, us = [u1, u2] ∧ RelV v u1 ∧ RelV w u2 := by
    cases r1 with
    | cons p q =>
      cases q with
      | cons p' q' =>
        cases q'
        exact ⟨_, _, rfl, p, p'⟩
  refine wpAny_newObj_type ?_ (by show 2 ≤ sizeLine; decide)
  have I2 : Inv X pins σ H1 { s1 with heap := s1.heap.push { cls := .type "tuple", data := .seq [u1, u2].toArray } } := I1.kept (t' := s1.toks) fun b o e => Heap.get?_push_of_some _ e
  rw [hw]
  refine wpAny_bind (wpAny_pure ?_)
  show wpAny (model X.prog X.w) X.A (do rule "assign.swapped-stores"; let items ← unpackItems (.ref s1.heap.objs.size) 2 none; assignInOrder [fun v => bindName X.env y v, fun v => bindName X.env x v] items.reverse; pure Flow.next) _ _ _
  refine wpAny_bind (wpAny_rule (wpAny_bind (unpackItems_tuple (items := #[u1, u2]) (I.ok.hd hc) (IsTup.new s1.heap _) fun h' hx' => ?_)))
  have I3 := I2.kept (h' := h') (t' := s1.toks) fun b o e => hx' b o (Nat.ne_of_lt (Heap.lt_size e)) e
  show wpAny _ _ (assignInOrder [fun v => bindName X.env y v, fun v => bindName X.env x v] [u2, u1] >>= fun _ => pure Flow.next) _ _ _
  refine wpAny_bind (assignInOrder_cons (wpAny_bindName (store_ok I3 hN hj (.inl hy) rw' (fun s2 I4 => ?_) (.inr hy))))
  refine assignInOrder_cons (wpAny_bindName (store_ok I4 hN hi (.inl hx) rv (fun s3 I5 => assignInOrder_nil (wpAny_pure ?_)) (.inr hx)))
  rw [List.set_comm _ _ (Ne.symm hij)] at I5
  exact ⟨_, H1, I5, q1⟩
end
section
variable {X : Cx} {pos : Pos}
def tWhile (c : TT) (tb : TS) : TS := fun D σ H => ∃ W : Nat → St → Hp → Prop, (∃ m, W m σ H) ∧ ∀ m σ H, W m σ H →
  c σ H fun b H1 => if b = true then ∃ N : St → Hp → Prop, (∀ σ' H', N σ' H' → ∃ m', m' < m ∧ W m' σ' H') ∧ tb { D with nx := N, ct := N, bk := D.nx } σ H1 else D.nx σ H1
theorem ps_while {c : Expr} {body : List Stmt} {tc : TT} {tb : TS} (hp : PassesOwn (model X.prog X.w) X.A X.env X.xe) (hc : PT X c tc) (hb : PSs X body tb) : PS X (.While c body [] pos) (tWhile tc tb) := by
  intro pins s σ H D I h
  obtain ⟨W, ⟨m0, w0⟩, turn⟩ := h
  refine wpAny_While (codeAny_whileLoop (fun n s' => ∃ σ' H', Inv X pins σ' H' s' ∧ W n σ' H') ?_ m0 ⟨σ, H, I, w0⟩)
  rintro n s1 ⟨σ1, H1, I1, w1⟩
  refine wpAny_passesOwn hp (thn (hc pins s1 σ1 H1 _ I1 (turn n σ1 H1 w1)) fun b s2 ⟨H2, I2, q2⟩ => ?_)
  cases b with
  | true =>
    obtain ⟨N, hN, q2⟩ := q2
    rw [if_pos rfl]
    refine wpAny_passesOwn hp (thn (hb pins s2 σ1 H2 _ I2 q2) fun f s3 q3 => ?_)
    cases f with
    | next =>
      obtain ⟨σ3, H3, I3, n3⟩ := q3
      obtain ⟨m', hm, w3⟩ := hN σ3 H3 n3
      exact ⟨m', hm, σ3, H3, I3, w3⟩
    | cont =>
      obtain ⟨σ3, H3, I3, n3⟩ := q3
      obtain ⟨m', hm, w3⟩ := hN σ3 H3 n3
      exact ⟨m', hm, σ3, H3, I3, w3⟩
    | brk => exact q3
    | ret v => exact q3
  | false =>
    rw [if_neg Bool.false_ne_true]
    exact wpAny_execs_nil ⟨σ1, H2, I2, q2⟩
end
structure It where
  go : Nat → Hp → Prop
  yld : Nat → Hp → V → Hp → Prop
  stop : Nat → Hp → Prop
def FpOk (X : Cx) (pins : List (Addr × Obj)) (H : Hp) (b : Addr) : Prop :=
  H b = none ∧ b ≠ X.env.locals ∧ b ∉ X.fs ∧ (b ∈ X.ex ∨ X.s₀.heap.objs.size ≤ b) ∧ (∀ x c, X.env.cells.lookup x = some c → c ≠ b) ∧ ∀ p ∈ X.pn ++ pins, p.1 ≠ b
theorem Inv.fpOk {X : Cx} {pins : List (Addr × Obj)} {σ : St} {H H' : Hp} {s : Shared} {b : Addr} (I : Inv X pins σ H s) (hb : s.heap.objs.size ≤ b) (hn : H' b = none) : FpOk X pins H' b := by
  refine ⟨hn, Nat.ne_of_gt (Nat.lt_of_lt_of_le I.lt hb), I.nofs hb, .inr (Nat.le_trans I.sz hb), fun x c e z => ?_, fun p hp z => ?_⟩
  · obtain ⟨v, q⟩ := I.cell x c e
    exact absurd (Nat.lt_of_lt_of_le q.lt (by rw [z]; exact hb)) (Nat.lt_irrefl _)
  · exact absurd (Nat.lt_of_lt_of_le (Heap.lt_size (I.pin p hp).1) (by rw [z]; exact hb)) (Nat.lt_irrefl _)
structure Turn (P : Program) (w : World) (K : PySem.W.Frag) (tg : Expr) (J : It) (fp : List Addr) (it : Addr) (tn : Nat → Heap → Prop) : Prop where
  mem : it ∈ fp
  obj : ∀ i h, tn i h → ∀ b ∈ fp, ∃ o, h.get? b = some o ∧ ∀ v, o.data ≠ .cell v
  keep : ∀ i h h', tn i h → (∀ b ∈ fp, ∀ o, h.get? b = some o → h'.get? b = some o) → tn i h'
  item : ∀ (X : Cx), X.prog = P → X.w = w → X.K = K → X.calm = true → ∀ (i : Nat) (pins : List (Addr × Obj)) (s : Shared) (σ : St) (H : Hp) (E : Value → Shared → Prop), Inv X pins σ H s → (∀ b ∈ fp, FpOk X pins H b) → tn i s.heap → J.go i H →
    wpAny (model P w) X.A (pyNext (.ref it)) (fun r s1 => ∃ u, r = some u ∧
      wpAny (model P w) X.A (letOwnedTupleGo tg (.ref it) u) (fun _ s2 => ∃ x H', Inv X pins σ H' s2 ∧ RelV x u ∧ J.yld i H x H' ∧ tn (i + 1) s2.heap ∧ ∀ b ∈ fp, H' b = none) E s1) E s
  done : ∀ (X : Cx), X.prog = P → X.w = w → X.K = K → X.calm = true → ∀ (i : Nat) (pins : List (Addr × Obj)) (s : Shared) (σ : St) (H : Hp) (E : Value → Shared → Prop), Inv X pins σ H s → (∀ b ∈ fp, FpOk X pins H b) → tn i s.heap → J.stop i H →
    wpAny (model P w) X.A (pyNext (.ref it)) (fun r s1 => r = none ∧ Inv X pins σ H s1) E s
  self : ∀ (A : Around) (i : Nat) (s : Shared) (Q : Value → Shared → Prop) (E : Value → Shared → Prop), tn i s.heap → Q (.ref it) s → wpAny (model P w) A (pyIter (.ref it)) Q E s
abbrev TI := St → Hp → (It → Hp → Prop) → Prop
def PIE (X : Cx) (pins : List (Addr × Obj)) (σ : St) (tg : Expr) (R : It → Hp → Prop) (itv : Value) (s2 : Shared) : Prop :=
  ∃ (it : Addr) (fp : List Addr) (tn : Nat → Heap → Prop) (J : It) (H' : Hp), itv = .ref it ∧ Inv X pins σ H' s2 ∧ Turn X.prog X.w X.K tg J fp it tn ∧ tn 0 s2.heap ∧ (∀ b ∈ fp, FpOk X pins H' b) ∧ R J H'
def PI (X : Cx) (tg iter : Expr) (wi : TI) : Prop :=
  ∀ (pins : List (Addr × Obj)) (s : Shared) (σ : St) (H : Hp) (R : It → Hp → Prop), Inv X pins σ H s → wi σ H R →
    wpAny (model X.prog X.w) X.A (eval iter X.env) (fun v s1 => wpAny (model X.prog X.w) X.A (pyIter v) (PIE X pins σ tg R) X.xe s1) X.xe s
theorem go_of {M : Model} {A : Around} {E : Value → Shared → Prop} {s : Shared} {tg : Expr} {it : Addr} {u : Value} {o : Obj} {n : String} {vs : Array Value} {Q : Unit → Shared → Prop} (ho : s.heap.get? it = some o) (hc : o.cls = .type n) (hd : o.data = .fields vs)
    (hn : ["enumerate", "zip", "dict_itemiterator", "dict_reverseitemiterator", "odict_iterator", "itertools.zip_longest", "itertools.pairwise"].contains n = false) (hQ : Q () s) : wpAny M A (letOwnedTupleGo tg (.ref it) u) Q E s := by
  unfold letOwnedTupleGo
  cases tg <;> first
    | exact wpAny_pure hQ
    | (cases u <;> first
        | exact wpAny_pure hQ
        | (refine wpAny_bind (wpAny_load ho ?_)
           rw [hc, hd]
           show wpAny M A (if (["enumerate", "zip", "dict_itemiterator", "dict_reverseitemiterator", "odict_iterator", "itertools.zip_longest", "itertools.pairwise"].contains n && vs[0]? == some (rawInt _)) = true then _ else _) Q E s
           rw [if_neg (by intro h; rw [hn, Bool.false_and] at h; cases h)]
           exact wpAny_pure hQ))
def Itl (K : PySem.W.Frag) (a : Addr) : It :=
  ⟨fun i H => ∃ xs x, SqL K H a xs ∧ xs[i]? = some x, fun i H x H' => H' = H ∧ ∀ xs, SqL K H a xs → xs[i]? = some x, fun i H => ∃ xs, SqL K H a xs ∧ xs.length ≤ i⟩
def Itt (K : PySem.W.Frag) (a : Addr) : It :=
  ⟨fun i H => ∃ xs x, SqT K H a xs ∧ xs[i]? = some x, fun i H x H' => H' = H ∧ ∀ xs, SqT K H a xs → xs[i]? = some x, fun i H => ∃ xs, SqT K H a xs ∧ xs.length ≤ i⟩
def Itr (lo : Int) (n : Nat) : It := ⟨fun i _ => i < n, fun i H x H' => H' = H ∧ x = .int (lo + i), fun i _ => n ≤ i⟩
theorem turn_list {P : Program} {w : World} {K : PySem.W.Frag} {tg : Expr} (a it : Addr) : Turn P w K tg (Itl K a) [it] it (fun i h => h.IsListIter it a i) where
  mem := by simp
  obj := fun i h st b hb => by
    have e : b = it := by simpa using hb
    subst e
    obtain ⟨o, e, c, d⟩ := st
    exact ⟨o, e, fun v z => by rw [d] at z; cases z⟩
  keep := fun i h h' st k => st.at fun o e => k it (by simp) o e
  item := by
    intro X hP hw hK hc i pins s σ H E I hf st hg
    subst hP hw hK
    obtain ⟨xs, x, hq, hx⟩ := hg
    obtain ⟨its, rv, p, hz⟩ := I.list hq
    obtain ⟨u, hu, ru⟩ := rv.get hx
    obtain ⟨f0, f1, f2, f3, f4, f5⟩ := hf it (by simp)
    refine wpAny_pyNext_list_item st p.isList (x := u) (by simpa using hu) fun h' st' sb => ?_
    have I1 : Inv X pins σ H { s with heap := h' } := I.turned (t' := s.toks) (fun b o hb e => (sb.2 b hb).trans e) f0 f1 f3 f4 f5
    obtain ⟨o, e, c, d⟩ := id st'
    exact ⟨u, rfl, go_of (s := { s with heap := h' }) e c d (by decide) ⟨x, H, I1, ru, ⟨rfl, fun ys hy => by rw [I.list_inj hy hq]; exact hx⟩, st', fun b hb => (hf b hb).1⟩⟩
  done := by
    intro X hP hw hK hc i pins s σ H E I hf st hg
    subst hP hw hK
    obtain ⟨xs, hq, hx⟩ := hg
    obtain ⟨its, rv, p, hz⟩ := I.list hq
    obtain ⟨f0, f1, f2, f3, f4, f5⟩ := hf it (by simp)
    have hl := rv.length
    exact wpAny_pyNext_list_end (I.ok.hd hc) st p.isList (by simp; omega) fun h' eb => ⟨rfl, I.turned (t' := s.toks) (fun b o hb e => eb b o hb e) f0 f1 f3 f4 f5⟩
  self := fun _ _ _ _ _ st h => wpAny_pyIter_listiter st h
theorem turn_tuple {P : Program} {w : World} {K : PySem.W.Frag} {tg : Expr} (a it : Addr) : Turn P w K tg (Itt K a) [it] it (fun i h => h.IsTupleIter it a i) where
  mem := by simp
  obj := fun i h st b hb => by
    have e : b = it := by simpa using hb
    subst e
    obtain ⟨o, e, c, d⟩ := st
    exact ⟨o, e, fun v z => by rw [d] at z; cases z⟩
  keep := fun i h h' st k => st.at fun o e => k it (by simp) o e
  item := by
    intro X hP hw hK hc i pins s σ H E I hf st hg
    subst hP hw hK
    obtain ⟨xs, x, hq, hx⟩ := hg
    obtain ⟨its, rv, p, hz⟩ := I.tuple hq
    obtain ⟨u, hu, ru⟩ := rv.get hx
    obtain ⟨f0, f1, f2, f3, f4, f5⟩ := hf it (by simp)
    refine wpAny_pyNext_tuple_item st (show s.heap.IsTuple a its.toArray from p) (x := u) (by simpa using hu) fun h' st' sb => ?_
    have I1 : Inv X pins σ H { s with heap := h' } := I.turned (t' := s.toks) (fun b o hb e => (sb.2 b hb).trans e) f0 f1 f3 f4 f5
    obtain ⟨o, e, c, d⟩ := id st'
    exact ⟨u, rfl, go_of (s := { s with heap := h' }) e c d (by decide) ⟨x, H, I1, ru, ⟨rfl, fun ys hy => by rw [I.tuple_inj hy hq]; exact hx⟩, st', fun b hb => (hf b hb).1⟩⟩
  done := by
    intro X hP hw hK hc i pins s σ H E I hf st hg
    subst hP hw hK
    obtain ⟨xs, hq, hx⟩ := hg
    obtain ⟨its, rv, p, hz⟩ := I.tuple hq
    obtain ⟨f0, f1, f2, f3, f4, f5⟩ := hf it (by simp)
    have hl := rv.length
    exact wpAny_pyNext_tuple_end (I.ok.hd hc) st (show s.heap.IsTuple a its.toArray from p) (by simp; omega) fun h' eb => ⟨rfl, I.turned (t' := s.toks) (fun b o hb e => eb b o hb e) f0 f1 f3 f4 f5⟩
  self := fun _ _ _ _ _ st h => wpAny_pyIter_tupleiter st h
theorem turn_range {P : Program} {w : World} {K : PySem.W.Frag} {tg : Expr} (it : Addr) (lo : Int) (n : Nat) : Turn P w K tg (Itr lo n) [it] it (fun i h => IsRangeIter h it (lo + (i : Nat) * 1) ((n : Int) - (i : Nat)) 1) where
  mem := by simp
  obj := fun i h st b hb => by
    have e : b = it := by simpa using hb
    subst e
    exact ⟨_, st, fun v z => by
      have z' : Data.fields _ = Data.cell v := z
      cases z'⟩
  keep := fun i h h' st k => k it (by simp) _ st
  item := by
    intro X hP hw hK hc i pins s σ H E I hf st hg
    subst hP hw hK
    obtain ⟨f0, f1, f2, f3, f4, f5⟩ := hf it (by simp)
    have W := Walks.range (prog := X.prog) (w := X.w) (I.ok.hd hc) it lo 1 n
    refine W.item i s _ _ hg st fun v h' tk hv st' kk => ?_
    obtain ⟨t, rfl⟩ := hv
    have I1 : Inv X pins σ H { s with heap := h', toks := tk } := I.turned (fun b o hb e => kk b o (by simpa using hb) e) f0 f1 f3 f4 f5
    refine ⟨_, rfl, go_of (s := { s with heap := h', toks := tk }) (n := "range_iterator") st' rfl rfl (by decide) ⟨.int (lo + i), H, I1, ⟨t, ?_⟩, ⟨rfl, rfl⟩, st', fun b hb => (hf b hb).1⟩⟩
    rw [Int.mul_one]
  done := by
    intro X hP hw hK hc i pins s σ H E I hf st hg
    subst hP hw hK
    obtain ⟨f0, f1, f2, f3, f4, f5⟩ := hf it (by simp)
    exact wpAny_pyNext_range_end (I.ok.hd hc) st (by have : n ≤ i := hg; omega) fun h' eb => ⟨rfl, I.turned (t' := s.toks) (fun b o hb e => eb b o hb e) f0 f1 f3 f4 f5⟩
  self := fun _ _ _ _ _ st h => wpAny_pyIter_rangeiter st h
end L2
namespace L2
open PySem PySem.Spec PyProof.Rows
section
variable {X : Cx} {tg : Expr}
def iList (K : PySem.W.Frag) (tl : TE) : TI := fun σ H R => tl σ H fun x H1 => ∃ a, x = .ref a ∧ (∃ xs, SqL K H1 a xs) ∧ R (Itl K a) H1
def iTup (K : PySem.W.Frag) (tl : TE) : TI := fun σ H R => tl σ H fun x H1 => ∃ a, x = .ref a ∧ (∃ xs, SqT K H1 a xs) ∧ R (Itt K a) H1
theorem pi_list {l : Expr} {tl : TE} (hl : PE X l tl) : PI X tg l (iList X.K tl) := by
  intro pins s σ H R I h
  refine thn (hl pins s σ H _ I h) fun v s1 ⟨x, H1, I1, r1, q1⟩ => ?_
  obtain ⟨a, e, ⟨xs, hq⟩, q⟩ := q1
  subst e
  cases r1
  obtain ⟨its, rv, p, hz⟩ := I1.list hq
  refine wpAny_pyIter_list p.isList ?_
  refine ⟨s1.heap.objs.size, [s1.heap.objs.size], _, _, H1, rfl, I1.kept (t' := s1.toks) fun b o e => Heap.get?_push_of_some _ e, turn_list a _, ⟨_, Heap.get?_push_size _ rfl, rfl, rfl⟩, fun b hb => ?_, q⟩
  have e : b = s1.heap.objs.size := by simpa using hb
  subst e
  exact I1.fpOk (Nat.le_refl _) (I1.hok.fresh (Nat.le_refl _))
theorem pi_tup {l : Expr} {tl : TE} (hl : PE X l tl) : PI X tg l (iTup X.K tl) := by
  intro pins s σ H R I h
  refine thn (hl pins s σ H _ I h) fun v s1 ⟨x, H1, I1, r1, q1⟩ => ?_
  obtain ⟨a, e, ⟨xs, hq⟩, q⟩ := q1
  subst e
  cases r1
  obtain ⟨its, rv, p, hz⟩ := I1.tuple hq
  refine wpAny_pyIter_tuple (show s1.heap.IsTuple a its.toArray from p) ?_
  refine ⟨s1.heap.objs.size, [s1.heap.objs.size], _, _, H1, rfl, I1.kept (t' := s1.toks) fun b o e => Heap.get?_push_of_some _ e, turn_tuple a _, ⟨_, Heap.get?_push_size _ rfl, rfl, rfl⟩, fun b hb => ?_, q⟩
  have e : b = s1.heap.objs.size := by simpa using hb
  subst e
  exact I1.fpOk (Nat.le_refl _) (I1.hok.fresh (Nat.le_refl _))
theorem range_it {pins : List (Addr × Obj)} {σ : St} {H : Hp} {s : Shared} {R : It → Hp → Prop} {E : Value → Shared → Prop} {lo hi : Int} {t u v : Tok} {tk : Nat} (I : Inv X pins σ H s) (h1 : -(2 ^ 62) ≤ lo) (h2 : lo < 2 ^ 62) (h3 : -(2 ^ 62) ≤ hi) (h4 : hi < 2 ^ 62)
    (q : R (Itr lo (hi - lo).toNat) H) : wpAny (model X.prog X.w) X.A (pyIter (.ref s.heap.objs.size)) (PIE X pins σ tg R) E { s with heap := s.heap.push { cls := .type "range", data := .fields #[.int lo t, .int hi u, .int 1 v] }, toks := tk } := by
  refine wpAny_pyIter_range (IsRange.new ..) (small_one h1 h2 h3 h4) ?_
  have I1 : Inv X pins σ H { s with heap := s.heap.push { cls := .type "range", data := .fields #[.int lo t, .int hi u, .int 1 v] }, toks := tk } := I.kept fun b o e => Heap.get?_push_of_some _ e
  refine ⟨(s.heap.push { cls := .type "range", data := .fields #[.int lo t, .int hi u, .int 1 v] }).objs.size, [(s.heap.push { cls := .type "range", data := .fields #[.int lo t, .int hi u, .int 1 v] }).objs.size], _, _, H, rfl,
    I1.kept (t' := tk) fun b o e => Heap.get?_push_of_some _ e, turn_range _ lo (hi - lo).toNat, ?_, fun b hb => ?_, q⟩
  · have e1 : lo + ((0 : Nat) : Int) * 1 = lo := by simp
    have e2 : (((hi - lo).toNat : Nat) : Int) - ((0 : Nat) : Int) = Builtin.Range.rangeSize lo hi 1 := by rw [rangeSize_one]; split <;> omega
    show IsRangeIter _ _ (lo + ((0 : Nat) : Int) * 1) ((((hi - lo).toNat : Nat) : Int) - ((0 : Nat) : Int)) 1
    rw [e1, e2]
    exact Heap.get?_push_size _ rfl
  · have e : b = (s.heap.push { cls := .type "range", data := .fields #[.int lo t, .int hi u, .int 1 v] }).objs.size := by simpa using hb
    subst e
    exact I1.fpOk (Nat.le_refl _) (I1.hok.fresh (Nat.le_refl _))
def iRng1 (ta : TA) : TI := fun σ H R => ta σ H fun vs H1 => ∃ j : Int, vs = [.int j] ∧ -(2 ^ 62) ≤ j ∧ j < 2 ^ 62 ∧ R (Itr 0 j.toNat) H1
theorem pi_range1 {a : Expr} {ta : TA} {p pos : Pos} (hg : Gl X "range") (hm : X.mg "range" = none) (ha : PA X [a] ta) (hs : starEach [a] X.env = [(false, eval a X.env)] := by rfl) : PI X tg (.Call (.Name "range" p) [a] [] pos) (iRng1 ta) := by
  intro pins s σ H R I h
  refine Call_ (ld_blt I hg hm boot_range (PyProof.Rows.callWith_type1 (thn (ha pos pins s σ H _ I h) fun us s1 ⟨vs, H1, I1, r1, q1⟩ => ?_) hs rfl))
  obtain ⟨j, e, q1, q2, q⟩ := q1
  subst e
  cases r1 with
  | cons r rr =>
    cases rr
    obtain ⟨t, rfl⟩ := r
    exact call_range_1 (range_it I1 (by omega) (by omega) q1 q2 (by simpa using q))
def tFor (wi : TI) (g : TG) (tb : TS) : TS := fun D σ H => wi σ H fun J H1 => ∃ W : Nat → Nat → St → Hp → Prop, (∃ m, W 0 m σ H1) ∧ ∀ i m σ H, W i m σ H →
  (J.stop i H ∧ D.nx σ H) ∨ (J.go i H ∧ ∃ N : St → Hp → Prop, (∀ σ' H', N σ' H' → ∃ m', m' < m ∧ W (i + 1) m' σ' H') ∧ ∀ x H', J.yld i H x H' → g x σ H' fun σ2 H2 => tb { D with nx := N, ct := N, bk := D.nx } σ2 H2)
def pinsAt (fp : List Addr) (h : Heap) : List (Addr × Obj) := fp.filterMap fun b => (h.get? b).map fun o => (b, o)
theorem mem_pinsAt {fp : List Addr} {h : Heap} {b : Addr} {o : Obj} (hb : b ∈ fp) (e : h.get? b = some o) : (b, o) ∈ pinsAt fp h := List.mem_filterMap.mpr ⟨b, hb, by rw [e]; rfl⟩
theorem of_pinsAt {fp : List Addr} {h : Heap} {p : Addr × Obj} (hp : p ∈ pinsAt fp h) : p.1 ∈ fp ∧ h.get? p.1 = some p.2 := by
  obtain ⟨b, hb, e⟩ := List.mem_filterMap.mp hp
  cases q : h.get? b with
  | none => rw [q] at e; cases e
  | some o =>
    rw [q] at e
    have e' : (b, o) = p := Option.some.inj e
    subst e'
    exact ⟨hb, q⟩
theorem Inv.pinned {pins : List (Addr × Obj)} {σ : St} {H : Hp} {s : Shared} {fp : List Addr} (I : Inv X pins σ H s) (hf : ∀ b ∈ fp, FpOk X pins H b) (ho : ∀ b ∈ fp, ∃ o, s.heap.get? b = some o ∧ ∀ v, o.data ≠ .cell v) : Inv X (pins ++ pinsAt fp s.heap) σ H s :=
  I.pins_of fun p hp => (List.mem_append.mp hp).elim (fun z => I.pin p (List.mem_append_right _ z)) fun z => by
    obtain ⟨hb, e⟩ := of_pinsAt z
    obtain ⟨f0, f1, f2, _⟩ := hf p.1 hb
    obtain ⟨o, e', d⟩ := ho p.1 hb
    rw [e] at e'; cases e'
    exact ⟨e, f0, f1, f2, d⟩
theorem Inv.unpinned {pins pl : List (Addr × Obj)} {σ : St} {H : Hp} {s : Shared} (I : Inv X (pins ++ pl) σ H s) : Inv X pins σ H s := I.pins_of fun p hp => I.pin p (List.mem_append_right _ (List.mem_append_left _ hp))
theorem ps_for {iter : Expr} {body : List Stmt} {wi : TI} {g : TG} {tb : TS} {pos : Pos} (hp : PassesOwn (model X.prog X.w) X.A X.env X.xe) (hc : X.calm = true) (hi : PI X tg iter wi) (hg : PG X tg g) (hb : PSs X body tb)
    (hs : ∀ x, foldedSetIterable iter X.env x = pure x := by intro _; rfl) : PS X (.For tg iter body [] pos) (tFor wi g tb) := by
  intro pins s σ H D I h
  refine wpAny_For (thn (hi pins s σ H _ I h) fun v s1 h1 => thn h1 fun itv s2 h2 => ?_) hs
  obtain ⟨it, fp, tn, J, H2, e, I2, T, st2, f2, W, ⟨m0, w0⟩, turn⟩ := h2
  subst e
  -- what stays true of the iterator's objects through the loop
  have stat : ∀ {H' : Hp}, (∀ b ∈ fp, H' b = none) → ∀ b ∈ fp, FpOk X pins H' b := fun hn b hb => ⟨hn b hb, (f2 b hb).2⟩
  refine codeAny_forLoop_any (fun n s' => ∃ i σ' H', Inv X pins σ' H' s' ∧ tn i s'.heap ∧ (∀ b ∈ fp, H' b = none) ∧ W i n σ' H') ?_ m0 ⟨0, σ, H2, I2, st2, fun b hb => (f2 b hb).1, w0⟩
  rintro n s3 ⟨i, σ3, H3, I3, st3, fr3, w3⟩
  rcases turn i n σ3 H3 w3 with ⟨stop, qn⟩ | ⟨go, N, hN, step⟩
  · refine wpAny_passesOwn hp (thn (T.done X rfl rfl rfl hc i pins s3 σ3 H3 X.xe I3 (stat fr3) st3 stop) fun r s4 ⟨hr, I4⟩ => ?_)
    subst hr
    exact wpAny_execs_nil ⟨σ3, H3, I4, qn⟩
  · refine wpAny_passesOwn hp (thn (T.item X rfl rfl rfl hc i pins s3 σ3 H3 X.xe I3 (stat fr3) st3 go) fun r s4 ⟨u, hr, h4⟩ => ?_)
    subst hr
    refine wpAny_passesOwn hp (thn h4 fun _ s5 ⟨x, H5, I5, r5, y5, st5, fr5⟩ => ?_)
    have I5' := I5.pinned (stat fr5) (T.obj _ _ st5)
    refine wpAny_passesOwn hp (thn (hg _ s5 σ3 H5 x u _ I5' r5 (step x H5 y5)) fun _ s6 ⟨σ6, H6, I6, q6⟩ => ?_)
    refine wpAny_passesOwn hp (thn (hb _ s6 σ6 H6 _ I6 q6) fun f s7 q7 => ?_)
    have again : ∀ {σ7 : St} {H7 : Hp}, Inv X (pins ++ pinsAt fp s5.heap) σ7 H7 s7 → N σ7 H7 → ∃ m, m < n ∧ ∃ i σ' H', Inv X pins σ' H' s7 ∧ tn i s7.heap ∧ (∀ b ∈ fp, H' b = none) ∧ W i m σ' H' := fun {σ7 H7} I7 n7 => by
      obtain ⟨m', hm, w7⟩ := hN σ7 H7 n7
      refine ⟨m', hm, i + 1, σ7, H7, I7.unpinned, T.keep _ _ _ st5 fun b hb o e => (I7.pin (b, o) (List.mem_append_right _ (List.mem_append_right _ (mem_pinsAt hb e)))).1, fun b hb => ?_, w7⟩
      obtain ⟨o, e, d⟩ := T.obj _ _ st5 b hb
      exact (I7.pin (b, o) (List.mem_append_right _ (List.mem_append_right _ (mem_pinsAt hb e)))).2.1
    cases f with
    | next => obtain ⟨σ7, H7, I7, n7⟩ := q7; exact again I7 n7
    | cont => obtain ⟨σ7, H7, I7, n7⟩ := q7; exact again I7 n7
    | brk => obtain ⟨σ7, H7, I7, q7⟩ := q7; exact ⟨σ7, H7, I7.unpinned, q7⟩
    | ret v => obtain ⟨x7, σ7, H7, I7, r7, q7⟩ := q7; exact ⟨x7, σ7, H7, I7.unpinned, r7, q7⟩
end
theorem for_list {K : PySem.W.Frag} {a : Addr} {xs : List V} {g : TG} {tb : TS} {D : Ends} {σ : St} {H : Hp} (Pv : Nat → St → Hp → Prop) (h0 : Pv 0 σ H) (hl : ∀ i σ H, i ≤ xs.length → Pv i σ H → SqL K H a xs)
    (hs : ∀ i x σ H, xs[i]? = some x → Pv i σ H → g x σ H fun σ2 H2 => tb { D with nx := Pv (i + 1), ct := Pv (i + 1), bk := D.nx } σ2 H2) (hd : ∀ σ H, Pv xs.length σ H → D.nx σ H) :
    ∃ W : Nat → Nat → St → Hp → Prop, (∃ m, W 0 m σ H) ∧ ∀ i m σ H, W i m σ H →
      ((Itl K a).stop i H ∧ D.nx σ H) ∨ ((Itl K a).go i H ∧ ∃ N : St → Hp → Prop, (∀ σ' H', N σ' H' → ∃ m', m' < m ∧ W (i + 1) m' σ' H') ∧ ∀ x H', (Itl K a).yld i H x H' → g x σ H' fun σ2 H2 => tb { D with nx := N, ct := N, bk := D.nx } σ2 H2) := by
  refine ⟨fun i m σ H => m = xs.length - i ∧ i ≤ xs.length ∧ Pv i σ H, ⟨xs.length, by simp, Nat.zero_le _, h0⟩, ?_⟩
  rintro i m σ H ⟨rfl, hi, p⟩
  have q := hl i σ H hi p
  by_cases hlt : i < xs.length
  · refine .inr ⟨⟨xs, xs[i], q, by simp [hlt]⟩, Pv (i + 1), fun σ' H' p' => ⟨xs.length - (i + 1), by omega, rfl, hlt, p'⟩, fun x H' y => ?_⟩
    obtain ⟨e, y⟩ := y
    subst e
    exact hs i x σ _ (y xs q) p
  · have e : i = xs.length := by omega
    subst e
    exact .inl ⟨⟨xs, q, Nat.le_refl _⟩, hd σ H p⟩
theorem for_range {lo : Int} {n : Nat} {g : TG} {tb : TS} {D : Ends} {σ : St} {H : Hp} (Pv : Nat → St → Hp → Prop) (h0 : Pv 0 σ H)
    (hs : ∀ i σ H, i < n → Pv i σ H → g (.int (lo + i)) σ H fun σ2 H2 => tb { D with nx := Pv (i + 1), ct := Pv (i + 1), bk := D.nx } σ2 H2) (hd : ∀ σ H, Pv n σ H → D.nx σ H) :
    ∃ W : Nat → Nat → St → Hp → Prop, (∃ m, W 0 m σ H) ∧ ∀ i m σ H, W i m σ H →
      ((Itr lo n).stop i H ∧ D.nx σ H) ∨ ((Itr lo n).go i H ∧ ∃ N : St → Hp → Prop, (∀ σ' H', N σ' H' → ∃ m', m' < m ∧ W (i + 1) m' σ' H') ∧ ∀ x H', (Itr lo n).yld i H x H' → g x σ H' fun σ2 H2 => tb { D with nx := N, ct := N, bk := D.nx } σ2 H2) := by
  refine ⟨fun i m σ H => m = n - i ∧ i ≤ n ∧ Pv i σ H, ⟨n, by simp, Nat.zero_le _, h0⟩, ?_⟩
  rintro i m σ H ⟨rfl, hi, p⟩
  by_cases hlt : i < n
  · refine .inr ⟨hlt, Pv (i + 1), fun σ' H' p' => ⟨n - (i + 1), by omega, rfl, hlt, p'⟩, fun x H' y => ?_⟩
    obtain ⟨e, y⟩ := y
    subst e y
    exact hs i σ _ hlt p
  · have e : i = n := by omega
    subst e
    exact .inl ⟨Nat.le_refl _, hd σ H p⟩
end L2
namespace L2
open PySem PySem.Spec PyProof.Rows
abbrev R2 := V → V → Hp → VK → Prop
def OpR (X : Cx) (f : Value → Value → Sem Value) (r : R2) : Prop :=
  ∀ (pins : List (Addr × Obj)) (s : Shared) (σ : St) (H : Hp) (x y : V) (v u : Value) (Q : VK), Inv X pins σ H s → RelV x v → RelV y u → r x y H Q →
    wpAny (model X.prog X.w) X.A (f v u) (EP X pins σ Q) X.xe s
def UnR (X : Cx) (f : Value → Sem Value) (r : V → Hp → VK → Prop) : Prop :=
  ∀ (pins : List (Addr × Obj)) (s : Shared) (σ : St) (H : Hp) (x : V) (v : Value) (Q : VK), Inv X pins σ H s → RelV x v → r x H Q →
    wpAny (model X.prog X.w) X.A (f v) (EP X pins σ Q) X.xe s
def CallR (X : Cx) (f : Value) (r : List V → Hp → VK → Prop) : Prop :=
  ∀ (pins : List (Addr × Obj)) (s : Shared) (σ : St) (H : Hp) (xs : List V) (us : List Value) (Q : VK), Inv X pins σ H s → Vals xs us → r xs H Q →
    wpAny (model X.prog X.w) X.A (call f us) (EP X pins σ Q) X.xe s
def tOp (r : R2) (ta tb : TE) : TE := fun σ H Q => ta σ H fun x H1 => tb σ H1 fun y H2 => r x y H2 Q
def tUn (r : V → Hp → VK → Prop) (ta : TE) : TE := fun σ H Q => ta σ H fun x H1 => r x H1 Q
def rI (C : Int → Int → Prop) (g : Int → Int → V) : R2 := fun x y H Q => ∃ i j, x = .int i ∧ y = .int j ∧ C i j ∧ Q (g i j) H
def rI0 (g : Int → Int → V) : R2 := fun x y H Q => ∃ i j, x = .int i ∧ y = .int j ∧ Q (g i j) H
def rU (g : Int → V) : V → Hp → VK → Prop := fun x H Q => ∃ i, x = .int i ∧ Q (g i) H
section
variable {X : Cx} {a b c : Expr} {ta tb tc : TE} {pos : Pos}
theorem binT (ha : PE X a ta) (hb : PE X b tb) {pins : List (Addr × Obj)} {s : Shared} {σ : St} {H : Hp} {R : V → V → Hp → Prop} (I : Inv X pins σ H s)
    (h : ta σ H fun x H1 => tb σ H1 fun y H2 => R x y H2) {Q : Value → Shared → Prop} {f : Value → Value → Sem Value}
    (hf : ∀ v u s2 x y H2, Inv X pins σ H2 s2 → RelV x v → RelV y u → R x y H2 → wpAny (model X.prog X.w) X.A (f v u) Q X.xe s2) :
    wpAny (model X.prog X.w) X.A (eval a X.env) (fun v s₁ => wpAny (model X.prog X.w) X.A (eval b X.env) (fun u s₂ => wpAny (model X.prog X.w) X.A (f v u) Q X.xe s₂) X.xe s₁) X.xe s := by
  refine thn (ha pins s σ H _ I h) fun v s1 ⟨x, H1, I1, r1, q1⟩ => ?_
  refine thn (hb pins s1 σ H1 _ I1 q1) fun u s2 ⟨y, H2, I2, r2, q2⟩ => ?_
  exact hf v u s2 x y H2 I2 r1 r2 q2
theorem pe_op {op : Operator} {r : R2} (ho : OpR X (binaryOp op) r) (ha : PE X a ta) (hb : PE X b tb) : PE X (.BinOp a op b pos) (tOp r ta tb) := by
  intro pins s σ H Q I h
  exact wpAny_BinOp (binT ha hb I h fun v u s2 x y H2 I2 rx ry q => ho pins s2 σ H2 x y v u Q I2 rx ry q)
theorem pe_un {op : UnaryOp} {r : V → Hp → VK → Prop} (ho : UnR X (unaryOp op) r) (ha : PE X a ta) : PE X (.UnaryOp op a pos) (tUn r ta) := by
  intro pins s σ H Q I h
  exact UnaryOp_ (thn (ha pins s σ H _ I h) fun v s1 ⟨x, H1, I1, r1, q1⟩ => ho pins s1 σ H1 x v Q I1 r1 q1)
theorem opI {f : Value → Value → Sem Value} {C : Int → Int → Prop} {g : Int → Int → Int}
    (rule : ∀ (i j : Int) (t u : Tok) (s : Shared) (Q : Value → Shared → Prop) (E : Value → Shared → Prop), C i j → Q (.int (g i j) s.toks) { s with toks := s.toks + 1 } → wpAny (model X.prog X.w) X.A (f (.int i t) (.int j u)) Q E s) :
    OpR X f (rI C fun i j => .int (g i j)) := by
  intro pins s σ H x y v u Q I rx ry h
  obtain ⟨i, j, rfl, rfl, hc, q⟩ := h
  obtain ⟨t, rfl⟩ := rx
  obtain ⟨t', rfl⟩ := ry
  exact rule i j t t' s _ _ hc ⟨.int (g i j), H, I.tok _, ⟨_, rfl⟩, q⟩
theorem opI0 {f : Value → Value → Sem Value} {g : Int → Int → Int}
    (rule : ∀ (i j : Int) (t u : Tok) (s : Shared) (Q : Value → Shared → Prop) (E : Value → Shared → Prop), Q (.int (g i j) s.toks) { s with toks := s.toks + 1 } → wpAny (model X.prog X.w) X.A (f (.int i t) (.int j u)) Q E s) :
    OpR X f (rI0 fun i j => .int (g i j)) := by
  intro pins s σ H x y v u Q I rx ry h
  obtain ⟨i, j, rfl, rfl, q⟩ := h
  obtain ⟨t, rfl⟩ := rx
  obtain ⟨t', rfl⟩ := ry
  exact rule i j t t' s _ _ ⟨.int (g i j), H, I.tok _, ⟨_, rfl⟩, q⟩
theorem opB0 {f : Value → Value → Sem Value} {g : Int → Int → Bool}
    (rule : ∀ (i j : Int) (t u : Tok) (s : Shared) (Q : Value → Shared → Prop) (E : Value → Shared → Prop), Q (.bool (g i j)) s → wpAny (model X.prog X.w) X.A (f (.int i t) (.int j u)) Q E s) :
    OpR X f (rI0 fun i j => .bl (g i j)) := by
  intro pins s σ H x y v u Q I rx ry h
  obtain ⟨i, j, rfl, rfl, q⟩ := h
  obtain ⟨t, rfl⟩ := rx
  obtain ⟨t', rfl⟩ := ry
  exact rule i j t t' s _ _ ⟨.bl (g i j), H, I, rfl, q⟩
def CDiv (i j : Int) : Prop := 0 < j ∧ j < 1073741824
def CPow (i j : Int) : Prop := 0 ≤ j ∧ j ≤ 1000000 ∧ i.natAbs < 2 ^ 64
def CMul (i j : Int) : Prop := (-(2 ^ 64) < i ∧ i < 2 ^ 64) ∨ (-(2 ^ 64) < j ∧ j < 2 ^ 64)
theorem CMul.ok {i j : Int} (h : CMul i j) : IntMulOk i j := by
  rcases h with ⟨h1, h2⟩ | ⟨h1, h2⟩
  · exact .of_left (intBits_le_64 h1 h2)
  · exact .of_right (intBits_le_64 h1 h2)
theorem op_add : OpR X (binaryOp .Add) (rI0 fun i j => .int (i + j)) := opI0 fun _ _ _ _ _ _ _ q => add_int q
theorem op_sub : OpR X (binaryOp .Sub) (rI0 fun i j => .int (i - j)) := opI0 fun _ _ _ _ _ _ _ q => sub_int q
theorem op_mul : OpR X (binaryOp .Mult) (rI CMul fun i j => .int (i * j)) := opI fun _ _ _ _ _ _ _ hc q => mul_int q hc.ok
theorem op_fdiv : OpR X (binaryOp .FloorDiv) (rI CDiv fun i j => .int (i / j)) := opI fun i j _ _ _ _ _ hc q => by
  have h1 : (0 : Int) < j := hc.1
  have h2 : j < 1073741824 := hc.2
  exact floordiv_int (by omega) (by rw [Int.fdiv_eq_ediv_of_nonneg i (by omega)]; exact q) (.inl (PyProof.noPylong_small (by omega)))
theorem op_mod : OpR X (binaryOp .Mod) (rI (fun _ j => 0 < j) fun i j => .int (i % j)) := opI fun i j _ _ _ _ _ hc q => by
  have h1 : (0 : Int) < j := hc
  exact mod_int' (by omega) (by rw [Int.fmod_eq_emod_of_nonneg i (by omega)]; exact q)
theorem op_pow : OpR X (binaryOp .Pow) (rI CPow fun i j => .int (i ^ j.toNat)) := opI fun _ _ _ _ _ _ _ hc q => pow_int_small hc.1 hc.2.1 hc.2.2 q
theorem unI {f : Value → Sem Value} {g : Int → Int}
    (rule : ∀ (i : Int) (t : Tok) (s : Shared) (Q : Value → Shared → Prop) (E : Value → Shared → Prop), Q (.int (g i) s.toks) { s with toks := s.toks + 1 } → wpAny (model X.prog X.w) X.A (f (.int i t)) Q E s) :
    UnR X f (rU fun i => .int (g i)) := by
  intro pins s σ H x v Q I rx h
  obtain ⟨i, rfl, q⟩ := h
  obtain ⟨t, rfl⟩ := rx
  exact rule i t s _ _ ⟨.int (g i), H, I.tok _, ⟨_, rfl⟩, q⟩
theorem un_neg : UnR X (unaryOp .USub) (rU fun i => .int (-i)) := unI fun _ _ _ _ _ q => neg_int q
end
def scal : V → V → Bool
  | .non, .non => true | .non, .int _ => true | .int _, .non => true | .non, .bl _ => true | .bl _, .non => true | .non, .str _ => true | .str _, .non => true
  | .int _, .int _ => true | .bl _, .bl _ => true | .str _, .str _ => true | .byt _, .byt _ => true
  | .int _, .str _ => true | .str _, .int _ => true | .bl _, .str _ => true | .str _, .bl _ => true
  | _, _ => false
def rEq : R2 := fun x y H Q => scal x y = true ∧ Q (.bl (decide (x = y))) H
def rNe : R2 := fun x y H Q => scal x y = true ∧ Q (.bl (!decide (x = y))) H
theorem dec_int {i j : Int} : decide (V.int i = V.int j) = (i == j) := by
  rw [Bool.eq_iff_iff]
  simp
theorem dec_bl {i j : Bool} : decide (V.bl i = V.bl j) = (i == j) := by
  rw [Bool.eq_iff_iff]
  simp
theorem dec_str {i j : Str} : decide (V.str i = V.str j) = (i == j) := by
  rw [Bool.eq_iff_iff]
  simp
theorem dec_byt {i j : Array UInt8} : decide (V.byt i = V.byt j) = (i.toList == j.toList) := by
  rw [Bool.eq_iff_iff]
  cases i
  cases j
  simp
section
variable {X : Cx} {a b c : Expr} {ta tb tc : TE} {pos : Pos}
theorem fin_bl {pins : List (Addr × Obj)} {σ : St} {H : Hp} {s : Shared} {Q : VK} {k k' : Bool} (I : Inv X pins σ H s) (q : Q (.bl k) H) (e : k = k') : EP X pins σ Q (.bool k') s := by
  subst e
  exact ⟨.bl k, H, I, rfl, q⟩
theorem op_eq : OpR X (compareOp .Eq) rEq := by
  intro pins s σ H x y v u Q I rx ry h
  obtain ⟨hs, q⟩ := h
  cases x with
  | non =>
    cases rx
    cases y with
    | non => cases ry; exact PySem.EqNone.eq_none_none (fin_bl I q (by simp))
    | bl j => cases ry; exact PySem.EqNone.eq_none_bool (fin_bl I q (by simp))
    | int j => obtain ⟨t', rfl⟩ := ry; exact PySem.EqNone.eq_none_int (fin_bl I q (by simp))
    | str j => obtain ⟨t', rfl⟩ := ry; exact PySem.EqNone.eq_none_str (fin_bl I q (by simp))
    | _ => exact absurd (show false = true from hs) Bool.false_ne_true
  | bl i =>
    cases rx
    cases y with
    | non => cases ry; exact PySem.EqNone.eq_bool_none (fin_bl I q (by simp))
    | bl j => cases ry; exact eq_bool (fin_bl I q dec_bl)
    | str j => obtain ⟨t', rfl⟩ := ry; exact PySem.EqMixed.eq_bool_str (fin_bl I q (by simp))
    | _ => exact absurd (show false = true from hs) Bool.false_ne_true
  | int i =>
    obtain ⟨t, rfl⟩ := rx
    cases y with
    | non => cases ry; exact PySem.EqNone.eq_int_none (fin_bl I q (by simp))
    | int j => obtain ⟨t', rfl⟩ := ry; exact eq_int (fin_bl I q dec_int)
    | str j => obtain ⟨t', rfl⟩ := ry; exact PySem.EqMixed.eq_int_str (fin_bl I q (by simp))
    | _ => exact absurd (show false = true from hs) Bool.false_ne_true
  | str i =>
    obtain ⟨t, rfl⟩ := rx
    cases y with
    | non => cases ry; exact PySem.EqNone.eq_str_none (fin_bl I q (by simp))
    | bl j => cases ry; exact PySem.EqMixed.eq_str_bool (fin_bl I q (by simp))
    | int j => obtain ⟨t', rfl⟩ := ry; exact PySem.EqMixed.eq_str_int (fin_bl I q (by simp))
    | str j => obtain ⟨t', rfl⟩ := ry; exact eq_str (fin_bl I q dec_str)
    | _ => exact absurd (show false = true from hs) Bool.false_ne_true
  | byt i =>
    obtain ⟨t, rfl⟩ := rx
    cases y with
    | byt j => obtain ⟨t', rfl⟩ := ry; exact PySem.W.eq_bytes (fin_bl I q dec_byt)
    | _ => exact absurd (show false = true from hs) Bool.false_ne_true
  | _ => cases y <;> exact absurd (show false = true from hs) Bool.false_ne_true
theorem op_ne : OpR X (compareOp .NotEq) rNe := by
  intro pins s σ H x y v u Q I rx ry h
  obtain ⟨hs, q⟩ := h
  cases x with
  | non =>
    cases rx
    cases y with
    | non => cases ry; exact PySem.EqNone.ne_none_none (fin_bl I q (by simp))
    | bl j => cases ry; exact PySem.EqNone.ne_none_bool (fin_bl I q (by simp))
    | int j => obtain ⟨t', rfl⟩ := ry; exact PySem.EqNone.ne_none_int (fin_bl I q (by simp))
    | str j => obtain ⟨t', rfl⟩ := ry; exact PySem.EqNone.ne_none_str (fin_bl I q (by simp))
    | _ => exact absurd (show false = true from hs) Bool.false_ne_true
  | bl i =>
    cases rx
    cases y with
    | non => cases ry; exact PySem.EqNone.ne_bool_none (fin_bl I q (by simp))
    | bl j => cases ry; exact ne_bool (fin_bl I q (congrArg not dec_bl))
    | str j => obtain ⟨t', rfl⟩ := ry; exact PySem.EqMixed.ne_bool_str (fin_bl I q (by simp))
    | _ => exact absurd (show false = true from hs) Bool.false_ne_true
  | int i =>
    obtain ⟨t, rfl⟩ := rx
    cases y with
    | non => cases ry; exact PySem.EqNone.ne_int_none (fin_bl I q (by simp))
    | int j => obtain ⟨t', rfl⟩ := ry; exact ne_int (fin_bl I q (congrArg not dec_int))
    | str j => obtain ⟨t', rfl⟩ := ry; exact PySem.EqMixed.ne_int_str (fin_bl I q (by simp))
    | _ => exact absurd (show false = true from hs) Bool.false_ne_true
  | str i =>
    obtain ⟨t, rfl⟩ := rx
    cases y with
    | non => cases ry; exact PySem.EqNone.ne_str_none (fin_bl I q (by simp))
    | bl j => cases ry; exact PySem.EqMixed.ne_str_bool (fin_bl I q (by simp))
    | int j => obtain ⟨t', rfl⟩ := ry; exact PySem.EqMixed.ne_str_int (fin_bl I q (by simp))
    | str j => obtain ⟨t', rfl⟩ := ry; exact ne_str (fin_bl I q (congrArg not dec_str))
    | _ => exact absurd (show false = true from hs) Bool.false_ne_true
  | byt i =>
    obtain ⟨t, rfl⟩ := rx
    cases y with
    | byt j => obtain ⟨t', rfl⟩ := ry; exact PySem.W.ne_bytes (fin_bl I q (congrArg not dec_byt))
    | _ => exact absurd (show false = true from hs) Bool.false_ne_true
  | _ => cases y <;> exact absurd (show false = true from hs) Bool.false_ne_true
theorem op_lt : OpR X (compareOp .Lt) (rI0 fun i j => .bl (decide (i < j))) := opB0 fun _ _ _ _ _ _ _ q => lt_int q
theorem op_le : OpR X (compareOp .LtE) (rI0 fun i j => .bl (decide (i ≤ j))) := opB0 fun _ _ _ _ _ _ _ q => le_int q
theorem op_gt : OpR X (compareOp .Gt) (rI0 fun i j => .bl (decide (j < i))) := opB0 fun _ _ _ _ _ _ _ q => gt_int q
theorem op_ge : OpR X (compareOp .GtE) (rI0 fun i j => .bl (decide (j ≤ i))) := opB0 fun _ _ _ _ _ _ _ q => ge_int q
theorem nomark (b : Expr) {op : CmpOp} (h : op ≠ .In := by decide) (h2 : op ≠ .NotIn := by decide) : behindInMarks op b = false := by
  have e1 : (op == CmpOp.In) = false := by cases op <;> first | rfl | exact absurd rfl h
  have e2 : (op == CmpOp.NotIn) = false := by cases op <;> first | rfl | exact absurd rfl h2
  cases b <;> simp [behindInMarks, e1, e2]
theorem pe_cmpR {op : CmpOp} {r : R2} (ho : OpR X (compareOp op) r) (ha : PE X a ta) (hb : PE X b tb) (hm : behindInMarks op b = false) : PE X (.Compare a [op] [b] pos) (tOp r ta tb) := by
  intro pins s σ H Q I h
  exact wpAny_Compare1 (binT ha hb I h fun v u s2 x y H2 I2 rx ry q => ho pins s2 σ H2 x y v u Q I2 rx ry q) hm
def tTest (t : TE) : TT := fun σ H Q => t σ H fun x H' => ∃ k, x = .bl k ∧ Q k H'
theorem pt_cmpR {op : CmpOp} {r : R2} (ho : OpR X (compareOp op) r) (ha : PE X a ta) (hb : PE X b tb) (hm : behindInMarks op b = false) : PT X (.Compare a [op] [b] pos) (tTest (tOp r ta tb)) := by
  intro pins s σ H Q I h
  refine wpAny_isTrue_Compare1 (thn (ha pins s σ H _ I h) fun v s1 ⟨x, H1, I1, r1, q1⟩ => thn (hb pins s1 σ H1 _ I1 q1) fun u s2 ⟨y, H2, I2, r2, q2⟩ =>
    thn (ho pins s2 σ H2 x y v u _ I2 r1 r2 q2) fun c s3 ⟨z, H3, I3, r3, k, e, q3⟩ => ?_) hm
  subst e
  cases r3
  exact wpAny_truthy_bool ⟨H3, I3, q3⟩
theorem line63 : (sizeLine : Nat) < 2 ^ 63 := by rw [sizeLine_eq]; decide
theorem vals1 {x : V} {us : List Value} (r : Vals [x] us) : ∃ u, us = [u] ∧ RelV x u := by
  cases r with
  | cons r1 r2 => cases r2; exact ⟨_, rfl, r1⟩
theorem vals2 {x y : V} {us : List Value} (r : Vals [x, y] us) : ∃ u w', us = [u, w'] ∧ RelV x u ∧ RelV y w' := by
  cases r with
  | cons r1 r2 =>
    cases r2 with
    | cons r3 r4 => cases r4; exact ⟨_, _, rfl, r1, r3⟩
theorem call_abs : CallR X (.builtin "abs") (fun xs H Q => ∃ i, xs = [.int i] ∧ Q (.int (if i < 0 then -i else i)) H) := by
  intro pins s σ H xs us Q I r h
  obtain ⟨i, rfl, q⟩ := h
  obtain ⟨u, rfl, t, rfl⟩ := vals1 r
  exact call_abs_int fun u tk => ⟨.int (if i < 0 then -i else i), H, I.tok _, ⟨_, rfl⟩, q⟩
theorem call_min2 (hc : X.calm = true) : CallR X (.builtin "min") (fun xs H Q => ∃ i j, xs = [.int i, .int j] ∧ Q (.int (if j < i then j else i)) H) := by
  intro pins s σ H xs us Q I r h
  obtain ⟨i, j, rfl, q⟩ := h
  obtain ⟨u, w', rfl, ⟨t, rfl⟩, ⟨t', rfl⟩⟩ := vals2 r
  refine min_two_ints (I.ok.hd hc) fun h' tk k => ⟨_, H, I.kept k, ?_, q⟩
  by_cases hj : j < i
  · rw [if_pos hj, if_pos hj]; exact ⟨_, rfl⟩
  · rw [if_neg hj, if_neg hj]; exact ⟨_, rfl⟩
end
end L2
namespace L2
open PySem PySem.Spec PyProof.Rows
structure ObjM (h : Heap) (x dx C : Addr) (mA : Str → Option Value) : Prop where
  obj : h.get? x = some (PySem.W.instObj C dx)
  ns : h.Ns1 dx mA
  ne : dx ≠ x
section
variable {prog : Program} {w : World} {A : Around} {E : Value → Shared → Prop} {s : Shared} {K : PySem.W.Frag} {x dx C f : Addr} {mA : Str → Option Value} {name : Str} {v : Value}
end
def putF (f : Str) (v : V) : List (Str × V) → List (Str × V)
  | [] => [(f, v)]
  | (g, x) :: r => if g = f then (g, v) :: r else (g, x) :: putF f v r
section
variable {P : Program} {w : World} {H H' : Hp} {h h' : Heap} {a C dx : Addr} {fs fs' : List (Str × V)}
end
structure Cls (K : PySem.W.Frag) (C : Addr) : Prop where
  pg : PySem.W.plainGet K C Str.empty = true
  hd : PySem.W.hasDictIn K C = true
  po : PySem.W.plainOver K C = true
  sa : PySem.W.findIn K (.ref C) "__setattr__" = some (some (.builtin "object.__setattr__"))
theorem Cls.get {K : PySem.W.Frag} {C : Addr} (c : Cls K C) (f : Str) : PySem.W.plainGet K C f = true := c.pg
structure Con (K : PySem.W.Frag) (C : Addr) (f : Str) (v : V) (u : Value) : Prop where
  at_ : PySem.W.findIn K (.ref C) f = some (some u)
  rel : RelV v u
  get : PySem.W.specialIn K u "__get__" = some none
  cp : PySem.W.copiedNames.contains f = false
structure Meth (K : PySem.W.Frag) (C : Addr) (m : Str) (f : Addr) : Prop where
  at_ : PySem.W.findIn K (.ref C) m = some (some (.ref f))
  fn : PySem.W.isFn K (.ref f) = true
  kp : PySem.W.keepIn K (.ref f) = true
section
variable {X : Cx} {pins : List (Addr × Obj)} {σ : St} {H : Hp} {s : Shared} {a C dx : Addr} {fs : List (Str × V)} {f : Str} {v : V} {A : Around} {E : Value → Shared → Prop}
end
section
variable {X : Cx} {o e value : Expr} {f : Str} {pos pos' tpos : Pos} {ta tv : TE}
end
section
variable {X : Cx} {pins : List (Addr × Obj)} {σ : St} {H : Hp} {s : Shared} {A : Around} {E : Value → Shared → Prop} {Q : Value → Shared → Prop} {c : Value} {b : Bool}
inductive TyOf (K : PySem.W.Frag) (H : Hp) : V → Value → Prop where
  | non : TyOf K H .non (.type "NoneType")
  | bl (x : Bool) : TyOf K H (.bl x) (.type "bool")
  | int (i : Int) : TyOf K H (.int i) (.type "int")
  | str (x : Str) : TyOf K H (.str x) (.type "str")
  | flt (x : UInt64) : TyOf K H (.flt x) (.type "float")
  | lst {a : Addr} {xs : List V} (e : H a = some (.lst xs)) : TyOf K H (.ref a) (.type "list")
  | frz {a : Addr} {o : Obj} {xs : List V} (e : H a = some (.frz o (.lst xs))) : TyOf K H (.ref a) (.type "list")
  | tup {a : Addr} {xs : List V} (e : H a = some (.tup xs)) : TyOf K H (.ref a) (.type "tuple")
  | dK {a : Addr} {kvs : List (Key × V)} (e : H a = some (.dK kvs)) : TyOf K H (.ref a) (.type "dict")
  | dT {a : Addr} {kvs : List (List Key × V)} (e : H a = some (.dT kvs)) : TyOf K H (.ref a) (.type "dict")
  | ins {a C dx : Addr} {fs : List (Str × V)} (e : H a = some (.ins C dx fs)) (cl : Cls K C) (ha : PySem.W.findIn K (.ref C) "__class__" = some (some (.builtin "object.__class__")))
      (hn : PySem.W.specialIn K (.builtin "object.__class__") "__get__" = some (some (.builtin "getset_descriptor.__get__"))) (htk : PySem.W.takesIn K (.builtin "object.__class__") = some true)
      (hm : PySem.W.mroIn K C (.type "object") = some true) : TyOf K H (.ref a) (.ref C)
end
end L2
namespace L2
open PySem PySem.Spec PyProof.Rows
structure Room (k : Nat) (A : Around) : Prop where
  hd : A.handled = none
  dp : A.depth + 3 * k + 5 < recursionLimit
  un : A.units + 16 * k + 200 < cLine
theorem Room.mono {j k : Nat} {A : Around} (r : Room k A) (h : j ≤ k) : Room j A := ⟨r.hd, by have := r.dp; omega, by have := r.un; omega⟩
theorem Room.deeper {k : Nat} {A : Around} (r : Room (k + 1) A) (env : Env) : Room k (A.deeper env) :=
  ⟨r.hd, by have := r.dp; show A.depth + 1 + 3 * k + 5 < _; omega, by have := r.un; show A.units + 3 + 16 * k + 200 < _; omega⟩
theorem Room.in1 {k : Nat} {A : Around} (r : Room (k + 1) A) : Room k A.in1 :=
  ⟨r.hd, by have := r.dp; show A.depth + 3 * k + 5 < _; omega, by have := r.un; show A.units + 1 + 16 * k + 200 < _; omega⟩
theorem Room.depth {k : Nat} {A : Around} (r : Room k A) : A.depth < recursionLimit := by have := r.dp; omega
theorem Room.units {k : Nat} {A : Around} (r : Room k A) : A.units + 64 < cLine := by have := r.un; omega
def tNil : TA := fun _ H Q => Q [] H
def tCons (ta : TE) (tr : TA) : TA := fun σ H Q => ta σ H fun x H1 => tr σ H1 fun xs H2 => Q (x :: xs) H2
section
variable {X : Cx} {e : Expr} {es : List Expr} {te : TE} {t : TA} {pos : Pos}
theorem pa_nil : PA X [] tNil := fun _ _ _ _ H Q I h => Calls.spliced_nil ⟨[], H, I, .nil, h⟩
theorem pa_cons (ha : PE X e te) (hr : PA X es t) (hs : starEach (e :: es) X.env = (false, eval e X.env) :: starEach es X.env := by rfl) : PA X (e :: es) (tCons te t) := by
  intro pos pins s σ H Q I h
  rw [hs]
  show wpAny _ _ (spliced ((false, eval e X.env) :: backTo pos (starEach es X.env))) _ _ s
  refine Calls.spliced_cons (thn (ha pins s σ H _ I h) fun u s1 ⟨x, H1, I1, r1, q1⟩ => ?_)
  exact thn (hr pos pins s1 σ H1 _ I1 q1) fun us s2 ⟨xs, H2, I2, r2, q2⟩ => ⟨x :: xs, H2, I2, .cons r1 r2, q2⟩
def tTup (t : TA) : TE := fun σ H Q => t σ H fun xs H1 => xs.length ≤ sizeLine ∧ ∀ p, H1 p = none → Q (.ref p) (upd H1 p (.tup xs))
def tLst (t : TA) : TE := fun σ H Q => t σ H fun xs H1 => xs.length ≤ sizeLine ∧ ∀ p, H1 p = none → Q (.ref p) (upd H1 p (.lst xs))
theorem pe_tup {x1} (h : PA X es t) : PE X (.Tuple es x1 pos) (tTup t) := by
  intro pins s σ H Q I hq
  refine wpAny_Tuple_spliced (thn (h pos pins s σ H _ I hq) fun us s1 ⟨xs, H1, I1, r, z, q⟩ => ⟨by rw [← r.length]; exact z, ?_⟩)
  have hf : H1 s1.heap.objs.size = none := I1.hok.fresh (Nat.le_refl _)
  refine ⟨.ref s1.heap.objs.size, upd H1 s1.heap.objs.size (.tup xs), I1.laid (t' := s1.toks) (fun b u e => Heap.get?_push_of_some _ e) (Nat.le_refl _) ?_, rfl, q _ hf⟩
  exact ⟨z, us, r, ⟨_, Heap.get?_push_size _ rfl, rfl, _, rfl⟩⟩
theorem pe_lst (h : PA X es t) : PE X (.List es pos) (tLst t) := by
  intro pins s σ H Q I hq
  refine wpAny_List_spliced (thn (h pos pins s σ H _ I hq) fun us s1 ⟨xs, H1, I1, r, z, q⟩ => ⟨by rw [← r.length]; exact z, ?_⟩)
  have hf : H1 s1.heap.objs.size = none := I1.hok.fresh (Nat.le_refl _)
  refine ⟨.ref s1.heap.objs.size, upd H1 s1.heap.objs.size (.lst xs), I1.laid (t' := s1.toks) (fun b u e => Heap.get?_push_of_some _ e) (Nat.le_refl _) ?_, rfl, q _ hf⟩
  exact ⟨z, us, 0, r, Heap.get?_push_size _ rfl⟩
end
abbrev Sp := List V → Hp → VK → XK → Prop
abbrev CXT := List Env → Hp → Shared → XK → Value → Shared → Prop
structure Env0 (P : Program) (w : World) (K : PySem.W.Frag) (mg : Str → Option Value) (base : Heap) (A : Around) (outer : List Env) (s : Shared) (H : Hp) : Prop where
  frames : A.frames = some outer
  mod : Mod K mg base
  bs : ∀ b o, base.get? b = some o → s.heap.get? b = some o ∧ H b = none
  bsz : base.objs.size ≤ s.heap.objs.size
  funs : s.heap.FunFrames base outer
  frf : ∀ b ∈ frs outer, H b = none
  hok : HOk P w H s.heap
  bare : AllBare s.gens
def CE (outer : List Env) (P : Program) (w : World) (H : Hp) (s : Shared) (Q : VK) (u : Value) (s' : Shared) : Prop :=
  ∃ v H', s'.os = s.os ∧ AllBare s'.gens ∧ Un (frs outer) [] H H' s.heap s'.heap ∧ HOk P w H' s'.heap ∧ RelV v u ∧ Q v H'
def CR (CX : CXT) (outer : List Env) (P : Program) (w : World) (H : Hp) (s : Shared) (Q : VK) (E : XK) (r : Result) (s' : Shared) : Prop :=
  match r with
  | .ok (.ret u) => CE outer P w H s Q u s'
  | .ok _ => False
  | .error e => CX outer H s E e s'
structure FnOk (P : Program) (w : World) (K : PySem.W.Frag) (mg : Str → Option Value) (base : Heap) (CX : CXT) (k : Nat) (f : Addr) (fd : FuncData) (ps : List Str) (sp : Sp) : Prop where
  len : ∀ vs H Q E, sp vs H Q E → vs.length = ps.length
  run : ∀ (A : Around) (outer : List Env) (s : Shared) (H : Hp) (args : Args) (us : List Value) (vs : List V) (Q : VK) (E : XK), Room k A → Env0 P w K mg base A outer s H → BindsTo s fd args (ps.zip us) → Vals vs us → sp vs H Q E →
    codeAny (model P w) A (.call (.ref f) args) (CR CX outer P w H s Q E) s
theorem FnOk.mono {P : Program} {w : World} {K : PySem.W.Frag} {mg : Str → Option Value} {base : Heap} {CX : CXT} {j k : Nat} {f : Addr} {fd : FuncData} {ps : List Str} {sp : Sp} (F : FnOk P w K mg base CX j f fd ps sp) (h : j ≤ k) :
    FnOk P w K mg base CX k f fd ps sp := ⟨F.len, fun A outer s H args us vs Q E hr => F.run A outer s H args us vs Q E (hr.mono h)⟩
theorem Env0.in1 {P : Program} {w : World} {K : PySem.W.Frag} {mg : Str → Option Value} {base : Heap} {A : Around} {outer : List Env} {s : Shared} {H : Hp} (e : Env0 P w K mg base A outer s H) :
    Env0 P w K mg base A.in1 outer s H := ⟨e.frames, e.mod, e.bs, e.bsz, e.funs, e.frf, e.hok, e.bare⟩
section
variable {X : Cx} {pins : List (Addr × Obj)} {σ : St} {H : Hp} {s s' : Shared}
theorem Inv.env0 (I : Inv X pins σ H s) : Env0 X.prog X.w X.K X.mg X.base X.A X.stack s H :=
  ⟨I.ok.frames, I.ok.mod, I.bs, Nat.le_trans I.ok.bsz I.sz, I.stack, I.stkFree, I.hok, I.bare⟩
theorem Inv.after {Q : VK} {u : Value} (I : Inv X pins σ H s) (h : CE X.stack X.prog X.w H s Q u s') : EP X pins σ Q u s' := by
  obtain ⟨v, H', os, bare, un, hok, r, q⟩ := h
  obtain ⟨hh, g, d, t, os'⟩ := s'
  obtain rfl : os' = s.os := os
  exact ⟨v, H', I.call (h' := hh) (g' := g) (d' := d) (t' := t) (ch := []) un hok bare (fun b z => absurd z (by simp)), r, q⟩
end
def tCall (sp : Sp) (dvs : List V) (E : XK) (t : TA) : TE := fun σ H Q => t σ H fun vs H1 => sp (vs ++ dvs) H1 Q E
def Binds (K : PySem.W.Frag) (fd : FuncData) (ps : List Str) (ds : List Value) : Prop :=
  ∀ (s : Shared) (us : List Value), K.In s.heap → (us ++ ds).length = ps.length → BindsTo s fd ⟨us, []⟩ (ps.zip (us ++ ds))
theorem Binds.all {K : PySem.W.Frag} {fd : FuncData} {ps : List Str} (h : ∀ us : List Value, us.length = ps.length → bindArgs fd ⟨us, []⟩ = pure (ps.zip us)) : Binds K fd ps [] := fun s us _ hl => by
  rw [List.append_nil] at hl ⊢
  exact .of_eq (h us hl)
def Passes (CX : CXT) (X : Cx) (E : XK) : Prop := ∀ (pins : List (Addr × Obj)) (σ : St) (H : Hp) (s : Shared) (e : Value) (s' : Shared), Inv X pins σ H s → CX X.stack H s E e s' → X.xe e s'
section
variable {X : Cx} {CX : CXT} {k : Nat} {f C : Addr} {fd : FuncData} {ps : List Str} {sp : Sp} {dvs : List V} {ds : List Value} {E : XK} {x m : Str} {p pos apos : Pos} {e o : Expr} {es : List Expr} {ta : TE} {t : TA}
theorem run_fn {pins : List (Addr × Obj)} {σ : St} {H : Hp} {s : Shared} {Q : VK} {us : List Value} {vs : List V} (F : FnOk X.prog X.w X.K X.mg X.base CX k f fd ps sp) (hr : Room k X.A) (hb : Binds X.K fd ps ds) (hd : Vals dvs ds) (hx : Passes CX X E)
    (I : Inv X pins σ H s) (r : Vals vs us) (h : sp (vs ++ dvs) H Q E) : wpAny (model X.prog X.w) X.A (call (.ref f) us) (EP X pins σ Q) X.xe s := by
  have r2 : Vals (vs ++ dvs) (us ++ ds) := r.append hd
  have hl : (us ++ ds).length = ps.length := by rw [← r2.length]; exact F.len _ _ _ _ h
  refine wpAny_call (codeAny_mono (F.run X.A X.stack s H ⟨us, []⟩ (us ++ ds) (vs ++ dvs) Q E hr I.env0 (hb s us I.kIn hl) r2 h) fun r s' hq => ?_)
  cases r with
  | error e => exact hx pins σ H s e s' I hq
  | ok fl =>
    cases fl with
    | ret u => exact I.after hq
    | next => exact False.elim hq
    | brk => exact False.elim hq
    | cont => exact False.elim hq
theorem pe_call (F : FnOk X.prog X.w X.K X.mg X.base CX k f fd ps sp) (hr : Room k X.A) (hg : Gl X x) (hm : X.mg x = some (.ref f)) (hk : PySem.W.keepIn X.K (.ref f) = true) (hb : Binds X.K fd ps ds) (hd : Vals dvs ds) (hx : Passes CX X E)
    (ha : PA X (e :: es) t) (hdb : (x == ("__debug__" : Str)) = false := by decide) (he : starEach (e :: es) X.env = (false, eval e X.env) :: starEach es X.env := by rfl) (hpl : (backTo pos (starEach es X.env)).any (·.1) = false := by rfl) :
    PE X (.Call (.Name x p) (e :: es) [] pos) (tCall sp dvs E t) := by
  intro pins s σ H Q I h
  refine wpAny_Call_Name_kw (ld_glob I hg hm ?_ hdb)
  refine PySem.W.callWith_K (h₀ := X.base) I.ok.mod.kin hk (thn (ha pos pins s σ H _ I h) fun us s1 ⟨vs, H1, I1, r, q⟩ => ⟨I1.kIn, ?_⟩) he hpl
  exact run_fn F hr hb hd hx I1 r q
structure Mk (K : PySem.W.Frag) (C f : Addr) : Prop where
  makes : PySem.W.makesIn K C = true
  init : PySem.W.findIn K (.ref C) "__init__" = some (some (.ref f))
  fn : PySem.W.isFn K (.ref f) = true
  kp : PySem.W.keepIn K (.ref C) = true
end
section
variable {X : Cx} {CX : CXT} {k : Nat} {f C : Addr} {fd : FuncData} {ps ks : List Str} {sp : Sp} {E : XK} {x m : Str} {p pos apos kpos : Pos} {e o : Expr} {es : List Expr} {kws : List Keyword} {te ta : TE} {t tk : TA} {nm : Option Str}
structure KBinds (K : PySem.W.Frag) (fd : FuncData) (ps ks : List Str) (g : List Value → List Value → List Value) (gV : List V → List V → List V) : Prop where
  to : ∀ (s : Shared) (us ws : List Value), K.In s.heap → (g us ws).length = ps.length → BindsTo s fd ⟨us, ks.zip ws⟩ (ps.zip (g us ws))
  rel : ∀ {vs : List V} {us : List Value} {zs : List V} {ws : List Value}, Vals vs us → Vals zs ws → Vals (gV vs zs) (g us ws)
variable {g : List Value → List Value → List Value} {gV : List V → List V → List V}
end
structure FnScope (N P : List Str) (sc : Scope) : Prop where
  kind : sc.kind = .function
  co : sc.isCoroutine = false
  gen : sc.isGenerator = false
  nd : N.Nodup
  pre : N.take P.length = P
  par : ∀ x ∈ P, sc.names.lookup x = some .local ∨ sc.names.lookup x = some .cell
  nofree : ∀ y ∈ sc.names, y.2 ≠ .free
theorem bindL_out {kindOf : Str → Option NameKind} {x : Str} : ∀ {binds : List (Str × Value)} {m : Str → Option Value}, (∀ v, (x, v) ∉ binds) → bindL kindOf binds m x = m x
  | [], _, _ => rfl
  | (n, v) :: r, m, h => by
    unfold bindL
    rw [bindL_out fun w hw => h w (List.mem_cons_of_mem _ hw)]
    split
    · have : x ≠ n := by rintro rfl; exact h v List.mem_cons_self
      simp [this]
    · rfl
theorem bindC_out {kindOf : Str → Option NameKind} {x : Str} : ∀ {binds : List (Str × Value)} {m : Str → Option Value}, (∀ v, (x, v) ∉ binds) → bindC kindOf binds m x = m x
  | [], _, _ => rfl
  | (n, v) :: r, m, h => by
    unfold bindC
    rw [bindC_out fun w hw => h w (List.mem_cons_of_mem _ hw)]
    split
    · rfl
    · have : x ≠ n := by rintro rfl; exact h v List.mem_cons_self
      simp [this]
theorem bindL_get {kindOf : Str → Option NameKind} {x : Str} {v : Value} : ∀ {P : List Str} {vs : List Value} {i : Nat} {m : Str → Option Value}, P.Nodup → P[i]? = some x → vs[i]? = some v → kindOf x = some .local →
    bindL kindOf (P.zip vs) m x = some v
  | [], _, _, _, _, h, _, _ => by simp at h
  | _ :: _, [], _, _, _, _, h, _ => by simp at h
  | p :: P, w :: vs, 0, m, nd, h1, h2, hk => by
    simp at h1 h2; subst h1; subst h2
    show bindL kindOf ((p, w) :: P.zip vs) m p = _
    unfold bindL
    rw [bindL_out fun v hv => (List.nodup_cons.mp nd).1 (List.of_mem_zip hv).1, if_pos hk]
    simp
  | p :: P, w :: vs, i + 1, m, nd, h1, h2, hk => by
    show bindL kindOf ((p, w) :: P.zip vs) m x = _
    unfold bindL
    exact bindL_get (i := i) (List.nodup_cons.mp nd).2 (by simpa using h1) (by simpa using h2) hk
theorem bindC_get {kindOf : Str → Option NameKind} {x : Str} {v : Value} : ∀ {P : List Str} {vs : List Value} {i : Nat} {m : Str → Option Value}, P.Nodup → P[i]? = some x → vs[i]? = some v → kindOf x ≠ some .local →
    bindC kindOf (P.zip vs) m x = some v
  | [], _, _, _, _, h, _, _ => by simp at h
  | _ :: _, [], _, _, _, _, h, _ => by simp at h
  | p :: P, w :: vs, 0, m, nd, h1, h2, hk => by
    simp at h1 h2; subst h1; subst h2
    show bindC kindOf ((p, w) :: P.zip vs) m p = _
    unfold bindC
    rw [bindC_out fun v hv => (List.nodup_cons.mp nd).1 (List.of_mem_zip hv).1, if_neg hk]
    simp
  | p :: P, w :: vs, i + 1, m, nd, h1, h2, hk => by
    show bindC kindOf ((p, w) :: P.zip vs) m x = _
    unfold bindC
    exact bindC_get (i := i) (List.nodup_cons.mp nd).2 (by simpa using h1) (by simpa using h2) hk
def start (N : List Str) (vs : List V) : St := vs.map some ++ List.replicate (N.length - vs.length) none
def cxOf (CX : CXT) (P : Program) (w : World) (K : PySem.W.Frag) (mg : Str → Option Value) (base : Heap) (N : List Str) (qual : Str) (scope : Scope) (f : Addr) (cd : Value) (A : Around) (outer : List Env) (s : Shared) (H : Hp) (E : XK) : Cx where
  prog := P
  w := w
  K := K
  mg := mg
  base := base
  A := A.deeper (envOfC qual scope s.heap.objs.size f cd)
  N := N
  s₀ := s
  H₀ := H
  env := envOfC qual scope s.heap.objs.size f cd
  outer := outer
  stack := envOfC qual scope s.heap.objs.size f cd :: outer
  ex := []
  calm := true
  fn := fun _ => true
  pn := []
  xe := fun e s' => wpAny (model P w) (A.deeper (envOfC qual scope s.heap.objs.size f cd)) (leaving (envOfC qual scope s.heap.objs.size f cd) e) (fun _ s'' => CX outer H s E e s'') (fun e' s'' => CX outer H s E e' s'') s'
theorem cell_has {sc : Scope} {n : Nat} {x : Str} (h : sc.names.lookup x = some .cell) : ∃ c, (cellsFrom n sc.names []).lookup x = some c := by
  have q := PySem.W.cellsFrom_some sc.names n [] (.inl h)
  exact Option.isSome_iff_exists.mp q
theorem inv_start {CX : CXT} {P : Program} {w : World} {K : PySem.W.Frag} {mg : Str → Option Value} {base : Heap} {N ps : List Str} {qual : Str} {scope : Scope} {f : Addr} {cd : Value} {A : Around} {outer : List Env} {s s1 : Shared} {H : Hp} {E : XK} {us : List Value} {vs : List V}
    (S : FnScope N ps scope) (hd : A.handled = none) (e0 : Env0 P w K mg base A outer s H) (hl : vs.length = ps.length) (r : Vals vs us)
    (x : InCallC s s.heap.objs.size (bindL (envOfC qual scope s.heap.objs.size f cd).kindOf (ps.zip us) fun _ => none) (cellsFrom (s.heap.objs.size + 1) scope.names []) (bindC (envOfC qual scope s.heap.objs.size f cd).kindOf (ps.zip us) fun _ => none) s1) :
    Inv (cxOf CX P w K mg base N qual scope f cd A outer s H E) [] (start N vs) H s1 := by
  have hpl : ps.length ≤ N.length := by have := congrArg List.length S.pre; rw [List.length_take] at this; omega
  obtain ⟨h1, tk, rfl, hk⟩ := x.done
  have noA : ∀ b : Addr, b ∉ (cxOf CX P w K mg base N qual scope f cd A outer s H E).ex := fun b z => absurd (show b ∈ ([] : List Addr) from z) (by simp)
  refine ⟨⟨e0.mod, S.kind, rfl, rfl, Nat.le_refl _, fun y z c h1 h2 => ?_, fun y hy => ?_, fun y c _ h => ?_, fun _ => hd, Around.frames_deeper e0.frames, .inr ⟨rfl, rfl⟩, fun b z => absurd z (noA b), e0.bs, e0.bsz, fun b _ _ => noA b, fun b z => absurd z (noA b), e0.funs, e0.frf⟩,
    rfl, e0.bare, Un.kept hk, ⟨_, x.toInCall.ns, fun i y v h1 h2 h3 => ?_⟩, fun y c h => ⟨_, x.cell y c h⟩, e0.hok.fresh (Nat.le_refl _), fun y c h => ?_, fun p hp => absurd (show p ∈ ([] : List (Addr × Obj)) from hp) (by simp), e0.hok.kept hk, ?_⟩
  · exact name_of_addr x.apart (PySem.mem_of_lookup h1) (PySem.mem_of_lookup h2)
  · have hy : scope.names.lookup y = some .cell ∨ scope.names.lookup y = some .free := hy
    rcases hy with hy | hy
    · exact cell_has hy
    · exact absurd rfl (S.nofree _ (PySem.mem_of_lookup hy))
  · exact Nat.le_of_lt (x.above y c (PySem.mem_of_lookup h))
  · have hi : i < vs.length := by
      unfold start at h2
      by_cases hi : i < vs.length
      · exact hi
      · rw [List.getElem?_append_right (by simpa using hi)] at h2
        rw [List.getElem?_replicate] at h2
        split at h2 <;> cases h2
    have ha : vs[i]? = some v := by
      unfold start at h2
      rw [List.getElem?_append_left (by simpa using hi), List.getElem?_map] at h2
      cases e : vs[i]? with
      | none => rw [e] at h2; cases h2
      | some a => rw [e] at h2; cases h2; rfl
    obtain ⟨u, hu, rv⟩ := r.get ha
    have hp : ps[i]? = some y := by
      rw [← S.pre, List.getElem?_take_of_lt (by omega)]; exact h1
    have ndP : ps.Nodup := by rw [← S.pre]; exact S.nd.sublist (List.take_sublist _ _)
    refine ⟨u, rv, ?_⟩
    rcases S.par y (List.mem_of_getElem? hp) with k | k
    · exact .inl ⟨k, bindL_get ndP hp hu k⟩
    · obtain ⟨c, e⟩ := cell_has (n := s.heap.objs.size + 1) k
      refine .inr ⟨.inl k, c, e, ?_⟩
      have q := x.cell y c e
      rw [bindC_get ndP hp hu (by show scope.names.lookup y ≠ _; rw [k]; decide)] at q
      exact q
  · exact e0.hok.fresh (Nat.le_of_lt (x.above y c (PySem.mem_of_lookup h)))
  · unfold start
    show _ = N.length
    rw [List.length_append, List.length_map, List.length_replicate]
    omega
theorem fn_of {CX : CXT} {P : Program} {w : World} {K : PySem.W.Frag} {mg : Str → Option Value} {base : Heap} {k : Nat} {f : Addr} {name qual : Str} {params : Arguments} {body : List Stmt} {scope : Scope} {dV kV doc pm cdv ct oc : Value} {an od : Option Addr}
    {osl : Array (Option Value)} {N ps : List Str} {sp : Sp} (lk : K.lookup f = some ⟨oc, od, .func (PySem.W.fnOf name qual params body scope dV kV doc pm an cdv ct), osl⟩) (hcd : PySem.W.codeIn K cdv qual = true) (S : FnScope N ps scope)
    (len : ∀ vs H Q E, sp vs H Q E → vs.length = ps.length)
    (hbody : ∀ (A : Around) (outer : List Env) (s : Shared) (H : Hp) (vs : List V) (Q : VK) (E : XK), Room k (A.deeper (envOfC qual scope s.heap.objs.size f cdv)) → sp vs H Q E →
      ∃ t, PSs (cxOf CX P w K mg base N qual scope f cdv A outer s H E) body t ∧ t { nx := fun _ H' => Q .non H', rt := Q } (start N vs) H) :
    FnOk P w K mg base CX (k + 1) f (PySem.W.fnOf name qual params body scope dV kV doc pm an cdv ct) ps sp := by
  refine ⟨len, fun A outer s H args us vs Q E hr e0 hb r hsp => ?_⟩
  have hl := len _ _ _ _ hsp
  have KX : K.In s.heap := e0.mod.kin.keeps fun b o e => (e0.bs b o e).1
  have lim : s.heap.NoLimit := e0.mod.nolimit.keeps fun b o e => (e0.bs b o e).1
  have hkind : ∀ y ∈ ps.zip us, scope.names.lookup y.1 = some .local ∨ (scope.names.lookup y.1 = some .cell ∧ ((cellsFrom (s.heap.objs.size + 1) scope.names []).lookup y.1).isSome = true) := fun ⟨n, v⟩ hy => by
    rcases S.par n (List.of_mem_zip hy).1 with q | q
    · exact .inl q
    · exact .inr ⟨q, PySem.W.cellsFrom_some _ _ _ (.inl q)⟩
  refine codeAny_call_function hr.depth (KX _ _ lk) rfl S.co S.gen rfl (PySem.W.codeRec_of KX hcd) (hb _ _ _ _ ?_)
  refine wpAny_newFunctionEnv_cells S.kind hkind fun env he s1 x => ?_
  subst he
  refine ⟨lim.keeps x.toInCall.keep, codeAny_func ?_⟩
  obtain ⟨t, ht, hq⟩ := hbody A outer s H vs Q E (hr.deeper _) hsp
  have I : Inv (cxOf CX P w K mg base N qual scope f cdv A outer s H E) [] (start N vs) H s1 := inv_start S hr.hd e0 hl r x
  refine wpAny_mono (ht [] s1 (start N vs) H _ I hq) (fun fl s' hs => ?_) fun e s' hs => hs
  have fin : ∀ {σ' : St} {H' : Hp} {v : V} {u : Value}, Inv (cxOf CX P w K mg base N qual scope f cdv A outer s H E) [] σ' H' s' → RelV v u → Q v H' → CE outer P w H s Q u s' :=
    fun {σ' H' v u} J rv q => ⟨v, H', J.os, J.bare, J.base, J.hok, rv, q⟩
  cases fl with
  | ret u =>
    obtain ⟨v, σ', H', J, rv, q⟩ := hs
    exact fin J rv q
  | next =>
    obtain ⟨σ', H', J, q⟩ := hs
    exact fin (v := V.non) (u := Value.none) J rfl q
  | brk =>
    obtain ⟨_, _, _, q⟩ := hs
    exact False.elim q
  | cont =>
    obtain ⟨_, _, _, q⟩ := hs
    exact False.elim q
end L2
namespace L2
open PySem PySem.Spec PyProof.Rows
section
variable {X : Cx} {x : Str} {p pos : Pos} {e : Expr} {es : List Expr} {t : TA} {id T : String} {r : List V → Hp → VK → Prop}
def tCB (r : List V → Hp → VK → Prop) (t : TA) : TE := fun σ H Q => t σ H fun vs H1 => r vs H1 Q
theorem pe_callB (hc : CallR X (.builtin id) r) (hg : Gl X x) (hm : X.mg x = none) (hv : bootBuiltins x = some (.builtin id)) (ha : PA X (e :: es) t) (hn : x ≠ "__name__" := by decide) (hdb : (x == ("__debug__" : Str)) = false := by decide)
    (he : starEach (e :: es) X.env = (false, eval e X.env) :: starEach es X.env := by rfl) (hpl : (backTo pos (starEach es X.env)).any (·.1) = false := by rfl) : PE X (.Call (.Name x p) (e :: es) [] pos) (tCB r t) := by
  intro pins s σ H Q I h
  refine wpAny_Call_Name_kw (ld_blt I hg hm hv ?_ hn hdb)
  exact PyProof.Rows.callWith_builtin1 (thn (ha pos pins s σ H _ I h) fun us s1 ⟨vs, H1, I1, r1, q1⟩ => hc pins s1 σ H1 vs us Q I1 r1 q1) he hpl
theorem pe_callTy (hc : CallR X (.type T) r) (hg : Gl X x) (hm : X.mg x = none) (hv : bootBuiltins x = some (.type T)) (ha : PA X (e :: es) t) (hn : x ≠ "__name__" := by decide) (hdb : (x == ("__debug__" : Str)) = false := by decide)
    (he : starEach (e :: es) X.env = (false, eval e X.env) :: starEach es X.env := by rfl) (hpl : (backTo pos (starEach es X.env)).any (·.1) = false := by rfl) : PE X (.Call (.Name x p) (e :: es) [] pos) (tCB r t) := by
  intro pins s σ H Q I h
  refine wpAny_Call_Name_kw (ld_blt I hg hm hv ?_ hn hdb)
  exact PyProof.Rows.callWith_type1 (thn (ha pos pins s σ H _ I h) fun us s1 ⟨vs, H1, I1, r1, q1⟩ => hc pins s1 σ H1 vs us Q I1 r1 q1) he hpl
end
end L2
namespace HT
open PySem PyProof.Rows
section
open PySem.SeqAt
open PySem.AutoSeq1 (wpAny_loadPart')
open PySem.MeetsSeq PySem.MeetsSeq2 PySem.MeetsSeq3
end
section
variable {prog : Program} {w : World} {A : Around} {E : Value → Shared → Prop} {s : Shared}
def sIx (n d : Nat) : Option Int → Nat
  | none => d
  | some v => if v < 0 then (v + (n : Int)).toNat else min v.toNat n
theorem sIx_nat (n d k : Nat) : sIx n d (some (k : Int)) = min k n := by
  show (if (k : Int) < 0 then ((k : Int) + (n : Int)).toNat else min (k : Int).toNat n) = min k n
  rw [if_neg (by omega), Int.toNat_natCast]
theorem sIx_le (n d : Nat) (hd : d ≤ n) (o : Option Int) : sIx n d o ≤ n := by
  cases o with
  | none => exact hd
  | some v =>
    show (if v < 0 then (v + (n : Int)).toNat else min v.toNat n) ≤ n
    by_cases hv : v < 0
    · rw [if_pos hv]; omega
    · rw [if_neg hv]; exact Nat.min_le_right _ _
theorem clip_eq (v : Int) (n d : Nat) : (if v < 0 then max (v + (n : Int)) 0 else min v (n : Int)) = ((sIx n d (some v) : Nat) : Int) := by
  show (if v < 0 then max (v + (n : Int)) 0 else min v (n : Int)) = (((if v < 0 then (v + (n : Int)).toNat else min v.toNat n) : Nat) : Int)
  by_cases hv : v < 0
  · simp only [if_pos hv]; omega
  · simp only [if_neg hv]; omega
theorem adjust_gen (lo hi : Option Int) (n : Nat) : Builtin.Slice.sliceAdjust lo hi 1 (n : Int) = (((sIx n 0 lo : Nat) : Int), ((sIx n n hi : Nat) : Int)) := by
  have h1 : ¬ ((1 : Int) < 0) := by omega
  unfold Builtin.Slice.sliceAdjust
  simp only [h1, if_false]
  refine Prod.ext ?_ ?_
  · cases lo with
    | none => rfl
    | some v => exact clip_eq v n 0
  · cases hi with
    | none => rfl
    | some v => exact clip_eq v n n
theorem places_gen (i j : Nat) : Builtin.Slice.slicePlaces (i : Int) (j : Int) 1 = j - i := by
  unfold Builtin.Slice.slicePlaces
  have h1 : (1 : Int) > 0 := by omega
  simp only [h1, if_true, Int.ediv_one]
  split <;> omega
theorem slicePart_ {v : Value} {o : Option Int} {Q : Option Int → Shared → Prop} (p : IsPart v o) (h : Q o s) : wpAny (model prog w) A (Builtin.Slice.slicePartIndex v) Q E s := by
  cases p with
  | none => exact slicePart_none h
  | int i t => exact slicePart_int h
theorem sliceApplied_gen {sl : Addr} {vl vu : Value} {lo hi : Option Int} {n : Nat} {Q : Int × Int × Nat → Shared → Prop} (hs : s.heap.IsSliceOf sl vl vu .none) (pl : IsPart vl lo) (pu : IsPart vu hi)
    (h : Q (((sIx n 0 lo : Nat) : Int), 1, sIx n n hi - sIx n 0 lo) s) : wpAny (model prog w) A (Builtin.Slice.sliceApplied (.ref sl) (pure (n : Int))) Q E s := by
  obtain ⟨os, hos, hcs, hds⟩ := id hs
  unfold Builtin.Slice.sliceApplied Builtin.Slice.sliceFields
  refine wpAny_bind (wpAny_bind (wpAny_field hos hds (x := vl) rfl (wpAny_bind (wpAny_field hos hds (x := vu) rfl (wpAny_bind (wpAny_field hos hds (x := .none) rfl (wpAny_pure ?_)))))))
  refine wpAny_bind (slicePart_none ?_)
  show wpAny _ _ (if ((1 : Int) == 0) = true then _ else _) _ _ s
  rw [if_neg (by decide)]
  refine wpAny_bind (slicePart_ pl (wpAny_bind (slicePart_ pu (wpAny_bind (wpAny_pure ?_)))))
  show wpAny _ _ (match Builtin.Slice.sliceAdjust lo hi 1 (n : Int) with | (lo, hi) => pure (lo, (1 : Int), Builtin.Slice.slicePlaces lo hi 1)) _ _ s
  rw [adjust_gen lo hi n]
  show wpAny _ _ (pure (((sIx n 0 lo : Nat) : Int), (1 : Int), Builtin.Slice.slicePlaces ((sIx n 0 lo : Nat) : Int) ((sIx n n hi : Nat) : Int) 1)) _ _ s
  rw [places_gen]
  exact wpAny_pure h
theorem pick_gen (xs : Array Value) (i k : Nat) : ((List.range k).filterMap fun (m : Nat) => xs[((i : Int) + (m : Int) * 1).toNat]?).toArray = ((xs.toList.drop i).take k).toArray := by
  have e : (fun (m : Nat) => xs[((i : Int) + (m : Int) * 1).toNat]?) = fun m => xs[i + m]? := by
    funext m
    have : ((i : Int) + (m : Int) * 1).toNat = i + m := by omega
    rw [this]
  rw [e]
  have := pick_run xs i k
  rw [List.filterMap_map] at this
  have e2 : ((fun x => xs[x]?) ∘ fun x => i + x) = fun m => xs[i + m]? := rfl
  rw [e2] at this
  rw [this]
theorem getItem_tuple_cut {t sl : Addr} {items : Array Value} {vl vu : Value} {lo hi : Option Int} {Q : Value → Shared → Prop} (ht : IsTup s.heap t items) (hs : s.heap.IsSliceOf sl vl vu .none) (pl : IsPart vl lo) (pu : IsPart vu hi)
    (hw : ¬ (sIx items.size 0 lo = 0 ∧ sIx items.size items.size hi = items.size))
    (h : Q (.ref s.heap.objs.size) { s with heap := s.heap.push { cls := .type "tuple", data := .seq ((items.toList.drop (sIx items.size 0 lo)).take (sIx items.size items.size hi - sIx items.size 0 lo)).toArray } })
    (hsz : items.size ≤ sizeLine) : wpAny (model prog w) A (getItem (.ref t) (.ref sl)) Q E s := by
  have htake : sizeOk (.seq ((items.toList.drop (sIx items.size 0 lo)).take (sIx items.size items.size hi - sIx items.size 0 lo)).toArray) := by
    show ((items.toList.drop (sIx items.size 0 lo)).take (sIx items.size items.size hi - sIx items.size 0 lo)).toArray.size ≤ sizeLine
    rw [List.size_toArray, List.length_take, List.length_drop, Array.length_toList]
    omega
  have hj : sIx items.size items.size hi ≤ items.size := sIx_le _ _ (Nat.le_refl _) hi
  obtain ⟨os, hos, hcs, hds⟩ := id hs
  have hTs : s.TypeIs (.ref sl) "slice" := ⟨os, hos, hcs⟩
  unfold getItem
  try with_reducible refine wpAny_holding ?_
  first | refine wpAny_bind (wpAny_pure ?_) | skip
  refine wpAny_bind (wpAny_sequenceKey ht.typeIs (by decide) ?_)
  refine wpAny_bind (wpAny_callSpecial?_slot (name := Str.ofString "__getitem__") ht.typeIs PyProof.Rows.slot_tuple_getitem
    (wpAny_call_entry PyProof.Rows.slot_tuple_getitem ht.typeIs entry_tuple_getitem ?_ (args_tuple_getitem _ _)))
  show wpAny _ _ (Builtin.Tuple.tupleItemsOf (.ref t) >>= _) _ _ s
  refine wpAny_bind (tupleItemsOf_ ht ?_)
  refine wpAny_bind (wpAny_typeOf hTs ?_)
  rw [if_pos (by decide)]
  refine wpAny_bind (sliceApplied_gen hs pl pu ?_)
  have hno : ¬ ((((sIx items.size 0 lo : Nat) : Int) == 0 && (1 : Int) == 1 && (sIx items.size items.size hi - sIx items.size 0 lo) == items.size) = true) := by
    intro q
    rw [Bool.and_eq_true, Bool.and_eq_true] at q
    have q1 : ((sIx items.size 0 lo : Nat) : Int) = 0 := eq_of_beq q.1.1
    have q2 : sIx items.size items.size hi - sIx items.size 0 lo = items.size := eq_of_beq q.2
    exact hw ⟨by omega, by omega⟩
  show wpAny _ _ (if (((sIx items.size 0 lo : Nat) : Int) == 0 && (1 : Int) == 1 && (sIx items.size items.size hi - sIx items.size 0 lo) == items.size) = true then _ else _) _ _ s
  rw [if_neg hno, pick_gen]
  first
    | exact wpAny_bind (m := Builtin.Tuple.tupleExact _) (wpAny_newObj_type (wpAny_pure ⟨_, rfl, wpAny_pure h⟩) htake)
    | exact wpAny_bind (m := Builtin.Tuple.tupleExact _) (wpAny_newObj_type (wpAny_bind (wpAny_pure (wpAny_pure ⟨_, rfl, wpAny_pure h⟩))) htake)
    | exact wpAny_bind (wpAny_bind (m := Builtin.Tuple.tupleExact _) (wpAny_newObj_type (wpAny_pure (wpAny_pure ⟨_, rfl, wpAny_pure h⟩)) htake))
    | exact wpAny_bind (wpAny_bind (m := Builtin.Tuple.tupleExact _) (wpAny_newObj_type (wpAny_pure ⟨_, rfl, wpAny_pure h⟩) htake))
end
end HT
namespace L2
open PySem PySem.Spec PyProof.Rows
abbrev TO := St → Hp → (Option Int → Hp → Prop) → Prop
def PO (X : Cx) (e : Option Expr) (t : TO) : Prop :=
  ∀ (pins : List (Addr × Obj)) (s : Shared) (σ : St) (H : Hp) (Q : Option Int → Hp → Prop), Inv X pins σ H s → t σ H Q →
    wpAny (model X.prog X.w) X.A (evalPart e X.env) (fun u s' => ∃ o H', Inv X pins σ H' s' ∧ IsPart u o ∧ Q o H') X.xe s
def tNoPart : TO := fun _ H Q => Q none H
def tPart (t : TE) : TO := fun σ H Q => t σ H fun x H1 => ∃ i, x = .int i ∧ Q (some i) H1
section
variable {X : Cx} {e : Expr} {te : TE} {lo hi : Option Expr} {tl th : TO} {pos p2 : Pos}
theorem po_none : PO X none tNoPart := by
  intro pins s σ H Q I h
  rw [evalPart_none]
  exact wpAny_pure ⟨none, H, I, .none, h⟩
theorem po_some (h : PE X e te) : PO X (some e) (tPart te) := by
  intro pins s σ H Q I hw
  rw [evalPart_some]
  refine thn (h pins s σ H _ I hw) fun u s1 ⟨x, H1, I1, r1, q1⟩ => ?_
  obtain ⟨i, rfl, q⟩ := q1
  obtain ⟨t, rfl⟩ := r1
  exact ⟨some i, H1, I1, .int i t, q⟩
def SlR (X : Cx) (r : V → Option Int → Option Int → Hp → VK → Prop) : Prop :=
  ∀ (pins : List (Addr × Obj)) (s : Shared) (σ : St) (H : Hp) (x : V) (v vl vu : Value) (lo hi : Option Int) (sl : Addr) (Q : VK), Inv X pins σ H s → RelV x v → s.heap.IsSliceOf sl vl vu .none → IsPart vl lo → IsPart vu hi → r x lo hi H Q →
    ∃ T id, typeLookup (.type T) "__getitem__" = pure (some (.builtin id)) ∧ s.TypeIs v T ∧ wpAny (model X.prog X.w) X.A (getItem v (.ref sl)) (EP X pins σ Q) X.xe s
def tSl (r : V → Option Int → Option Int → Hp → VK → Prop) (te : TE) (tl th : TO) : TE := fun σ H Q => te σ H fun x H1 => tl σ H1 fun l H2 => th σ H2 fun u H3 => r x l u H3 Q
theorem pe_slice {r : V → Option Int → Option Int → Hp → VK → Prop} (hr : SlR X r) (he : PE X e te) (hl : PO X lo tl) (hu : PO X hi th) : PE X (.Subscript e (.Slice lo hi none p2) pos) (tSl r te tl th) := by
  intro pins s σ H Q I h
  refine Subscript_ (thn (he pins s σ H _ I h) fun v s1 ⟨x, H1, I1, r1, q1⟩ => ?_)
  refine wpAny_Slice (thn (hl pins s1 σ H1 _ I1 q1) fun vl s2 ⟨l, H2, I2, pl, q2⟩ => thn (hu pins s2 σ H2 _ I2 q2) fun vu s3 ⟨u, H3, I3, pu, q3⟩ => ?_)
  rw [evalPart_none]
  refine wpAny_pure ?_
  have I4 : Inv X pins σ H3 { s3 with heap := s3.heap.push { cls := .type "slice", data := .fields #[vl, vu, .none] } } := I3.kept (t' := s3.toks) fun b ob q => Heap.get?_push_of_some _ q
  obtain ⟨T, id, hT, ht, hg⟩ := hr pins { s3 with heap := s3.heap.push { cls := .type "slice", data := .fields #[vl, vu, .none] } } σ H3 x v vl vu l u s3.heap.objs.size Q I4 r1 (Heap.IsSliceOf.new ..) pl pu q3
  show wpAny (model X.prog X.w) X.A (subscriptTail e (.Slice lo hi none p2) v (.ref s3.heap.objs.size)) (EP X pins σ Q) X.xe { s3 with heap := s3.heap.push { cls := .type "slice", data := .fields #[vl, vu, .none] } }
  exact tail_any (ops := [.ref s3.heap.objs.size, v]) ht hT hg (by with_unfolding_all rfl)
def cutV (xs : List V) (lo hi : Option Int) : List V := (xs.drop (HT.sIx xs.length 0 lo)).take (HT.sIx xs.length xs.length hi - HT.sIx xs.length 0 lo)
theorem cutV_length (xs : List V) (lo hi : Option Int) : (cutV xs lo hi).length ≤ xs.length := by
  unfold cutV
  rw [List.length_take, List.length_drop]
  omega
def rSlT (K : PySem.W.Frag) : V → Option Int → Option Int → Hp → VK → Prop := fun x lo hi H Q => ∃ a xs, x = .ref a ∧ SqT K H a xs ∧
  ¬ (HT.sIx xs.length 0 lo = 0 ∧ HT.sIx xs.length xs.length hi = xs.length) ∧ ∀ p, H p = none → Q (.ref p) (upd H p (.tup (cutV xs lo hi)))
theorem sl_tup : SlR X (rSlT X.K) := by
  intro pins s σ H x v vl vu lo hi sl Q I rx hs pl pu h
  obtain ⟨a, xs, rfl, hx, hw, q⟩ := h
  cases rx
  obtain ⟨its, r, ht, hz⟩ := I.tuple hx
  have hlen : its.toArray.size = xs.length := by rw [List.size_toArray]; exact r.length.symm
  refine ⟨"tuple", _, PyProof.Rows.slot_tuple_getitem.lookup, ht.typeIs, ?_⟩
  refine HT.getItem_tuple_cut ht hs pl pu (by rw [hlen]; exact hw) ?_ (by rw [hlen]; exact hz)
  rw [hlen]
  refine ⟨.ref s.heap.objs.size, _, I.laid (t' := s.toks) (o := .tup (cutV xs lo hi)) (fun b ob q => Heap.get?_push_of_some _ q) (Nat.le_refl _) ?_, rfl, q _ (I.hok.fresh (Nat.le_refl _))⟩
  exact ⟨Nat.le_trans (cutV_length xs lo hi) hz, _, (r.drop (HT.sIx xs.length 0 lo)).take (HT.sIx xs.length xs.length hi - HT.sIx xs.length 0 lo), IsTup.new _ _⟩
end
end L2
namespace L2
open PySem PySem.Spec PyProof.Rows
def ixN (n : Nat) (i : Int) : Option Nat := if 0 ≤ i then (if i < n then some i.toNat else none) else if -(n : Int) ≤ i then some (i + n).toNat else none
def atI {α : Type} (xs : List α) (i : Int) : Option α := (ixN xs.length i).bind fun j => xs[j]?
theorem ixN_seq {n : Nat} {i : Int} {j : Nat} (h : ixN n i = some j) : seqIndex? i n = some j ∧ j < n ∧ -(n : Int) ≤ i ∧ i < n := by
  unfold ixN at h
  by_cases h0 : 0 ≤ i
  · rw [if_pos h0] at h
    by_cases h1 : i < n
    · rw [if_pos h1] at h
      have e : i.toNat = j := Option.some.inj h
      exact ⟨by rw [seqIndex_of h0 h1, e], by omega, by omega, h1⟩
    · rw [if_neg h1] at h; cases h
  · rw [if_neg h0] at h
    by_cases h1 : -(n : Int) ≤ i
    · rw [if_pos h1] at h
      have e : (i + n).toNat = j := Option.some.inj h
      exact ⟨by rw [seqIndex_neg (by omega) h1, e], by omega, h1, by omega⟩
    · rw [if_neg h1] at h; cases h
theorem atI_get {α : Type} {xs : List α} {i : Int} {v : α} (h : atI xs i = some v) : ∃ j, seqIndex? i xs.length = some j ∧ xs[j]? = some v ∧ j < xs.length ∧ -(xs.length : Int) ≤ i ∧ i < xs.length := by
  unfold atI at h
  cases e : ixN xs.length i with
  | none => rw [e] at h; cases h
  | some j =>
    rw [e] at h
    obtain ⟨h1, h2, h3, h4⟩ := ixN_seq e
    exact ⟨j, h1, h, h2, h3, h4⟩
theorem atI_nat {α : Type} {xs : List α} {j : Nat} {v : α} (h : xs[j]? = some v) : atI xs (j : Int) = some v := by
  have hj : j < xs.length := (List.getElem?_eq_some_iff.mp h).1
  have e : ixN xs.length (j : Int) = some j := by
    unfold ixN
    rw [if_pos (by omega), if_pos (by omega)]; simp
  unfold atI; rw [e]; exact h
def PlainIx (b : Expr) : Prop := ∀ o i, subscripted b false o i = operate [o, i] (getItem o i)
def IxR (X : Cx) (r : R2) : Prop :=
  ∀ (value slice : Expr) (pins : List (Addr × Obj)) (s : Shared) (σ : St) (H : Hp) (x y : V) (v u : Value) (Q : VK), Inv X pins σ H s → RelV x v → RelV y u → r x y H Q →
    subscripted slice false v u = operate [v, u] (getItem v u) → wpAny (model X.prog X.w) X.A (subscriptTail value slice v u) (EP X pins σ Q) X.xe s
def MtR (X : Cx) (id : String) (r : V → List V → Hp → VK → Prop) : Prop :=
  ∀ (pins : List (Addr × Obj)) (s : Shared) (σ : St) (H : Hp) (x : V) (xs : List V) (v : Value) (us : List Value) (Q : VK), Inv X pins σ H s → RelV x v → Vals xs us → r x xs H Q →
    wpAny (model X.prog X.w) X.A (call (.builtin id) (v :: us)) (EP X pins σ Q) X.xe s
section
variable {X : Cx} {a b : Expr} {ta tb : TE} {pos : Pos}
theorem pe_ix {r : R2} (hr : IxR X r) (ha : PE X a ta) (hb : PE X b tb) (hs : PlainIx b) : PE X (.Subscript a b pos) (tOp r ta tb) := by
  intro pins s σ H Q I h
  exact Subscript_ (binT ha hb I h fun v u s2 x y H2 I2 rx ry q => hr a b pins s2 σ H2 x y v u Q I2 rx ry q (hs _ _))
def rIxL (K : PySem.W.Frag) : R2 := fun x y H Q => ∃ p xs i v, x = .ref p ∧ y = .int i ∧ SqL K H p xs ∧ atI xs i = some v ∧ Q v H
def rIxT (K : PySem.W.Frag) : R2 := fun x y H Q => ∃ p xs i v, x = .ref p ∧ y = .int i ∧ SqT K H p xs ∧ atI xs i = some v ∧ Q v H
theorem ix_list : IxR X (rIxL X.K) := by
  intro value slice pins s σ H x y v u Q I rx ry h hs
  obtain ⟨p, xs, i, z, rfl, rfl, hq, he, q⟩ := h
  cases rx
  obtain ⟨t, rfl⟩ := ry
  obtain ⟨its, r, pl, hz⟩ := I.list hq
  obtain ⟨j, h1, h2, h3, h4, h5⟩ := atI_get he
  obtain ⟨w, ew, rw'⟩ := r.get h2
  have hl := r.length
  have hn := line63
  have fin : EP X pins σ Q w s := ⟨z, H, I, rw', q⟩
  by_cases h0 : 0 ≤ i
  · have hj : i.toNat = j := by
      rw [seqIndex_of h0 h5] at h1
      exact Option.some.inj h1
    exact item_listR pl.isList h0 (by omega) (by rw [hj]; simpa using ew) fin hs
  · have hj : (i + (its.toArray.size : Int)).toNat = j := by
      rw [seqIndex_neg (by omega) h4] at h1
      rw [List.size_toArray, ← hl]
      exact Option.some.inj h1
    exact subscriptTail_builtinR (x := w) pl.isList.typeIs slot_list_getitem.lookup
      (wpAny_getItem_list_neg (Q := fun r s' => r = w ∧ EP X pins σ Q r s') pl.isList (by omega) (by rw [List.size_toArray] <;> omega) (by omega) (by rw [hj]; simpa using ew) ⟨rfl, fin⟩) hs
theorem ix_tup : IxR X (rIxT X.K) := by
  intro value slice pins s σ H x y v u Q I rx ry h hs
  obtain ⟨p, xs, i, z, rfl, rfl, hq, he, q⟩ := h
  cases rx
  obtain ⟨t, rfl⟩ := ry
  obtain ⟨its, r, pl, hz⟩ := I.tuple hq
  obtain ⟨j, h1, h2, h3, h4, h5⟩ := atI_get he
  obtain ⟨w, ew, rw'⟩ := r.get h2
  have hl := r.length
  have hn := line63
  have fin : EP X pins σ Q w s := ⟨z, H, I, rw', q⟩
  exact subscriptTail_builtinR (x := w) pl.typeIs slot_tuple_getitem.lookup
    (getItem_tuple (j := j) (Q := fun r s' => r = w ∧ EP X pins σ Q r s') pl (by omega) (by omega) (by rw [List.size_toArray, ← hl]; exact h1) (by simpa using ew) ⟨rfl, fin⟩) hs
theorem Inv.lst {pins : List (Addr × Obj)} {σ : St} {H : Hp} {s : Shared} {p : Addr} {xs : List V} (I : Inv X pins σ H s) (h : H p = some (.lst xs)) :
    ∃ (its : List Value) (n : Nat), Vals xs its ∧ s.heap.get? p = some { cls := .type "list", data := .seq its.toArray n } ∧ xs.length ≤ sizeLine := by
  obtain ⟨z, its, n, r, e⟩ := I.hok p _ h
  exact ⟨its, n, r, e, z⟩
theorem slice_bounds (lo hi : Option Int) (n : Nat) : (sliceBounds lo hi none n).1 = ((HT.sIx n 0 lo : Nat) : Int) ∧ (sliceBounds lo hi none n).2.1 = ((HT.sIx n n hi : Nat) : Int) ∧ (sliceBounds lo hi none n).2.2 = 1 := by
  refine ⟨?_, ?_, rfl⟩
  · cases lo with
    | none => simp [sliceBounds, HT.sIx]
    | some i =>
      simp only [sliceBounds, HT.sIx, Option.getD_none, show (1 : Int) > 0 by decide, if_true]
      by_cases h : i < 0
      · simp only [h, if_true] <;> omega
      · simp only [h, if_false] <;> omega
  · cases hi with
    | none => simp [sliceBounds, HT.sIx]
    | some i =>
      simp only [sliceBounds, HT.sIx, Option.getD_none, show (1 : Int) > 0 by decide, if_true]
      by_cases h : i < 0
      · simp only [h, if_true] <;> omega
      · simp only [h, if_false] <;> omega
theorem slicePick_cut (its : List Value) (lo hi : Option Int) : slicePick its.toArray lo hi none = ((its.drop (HT.sIx its.length 0 lo)).take (HT.sIx its.length its.length hi - HT.sIx its.length 0 lo)).toArray := by
  obtain ⟨h1, h2, h3⟩ := slice_bounds lo hi its.toArray.size
  unfold slicePick
  rw [h1, h2, h3]
  simp only [sliceRange_one, pick_run, List.size_toArray] <;> rfl
def rSlL (K : PySem.W.Frag) : V → Option Int → Option Int → Hp → VK → Prop := fun x lo hi H Q => ∃ a xs, x = .ref a ∧ SqL K H a xs ∧ ∀ p, H p = none → Q (.ref p) (upd H p (.lst (cutV xs lo hi)))
theorem sl_list : SlR X (rSlL X.K) := by
  intro pins s σ H x v vl vu lo hi sl Q I rx hs pl pu h
  obtain ⟨a, xs, rfl, hx, q⟩ := h
  cases rx
  obtain ⟨its, r, ht, hz⟩ := I.list hx
  have hlen := r.length
  refine ⟨"list", _, slot_list_getitem.lookup, ht.isList.typeIs, ?_⟩
  refine wpAny_getItem_list_slice ht.isList hs pl pu .none (by simp) ?_ (by rw [List.size_toArray] <;> omega)
  rw [slicePick_cut, ← hlen]
  refine ⟨.ref s.heap.objs.size, _, I.laid (t' := s.toks) (o := .lst (cutV xs lo hi)) (fun b ob q => Heap.get?_push_of_some _ q) (Nat.le_refl _) ?_, rfl, q _ (I.hok.fresh (Nat.le_refl _))⟩
  exact ⟨Nat.le_trans (cutV_length xs lo hi) hz, _, 0, (r.drop (HT.sIx xs.length 0 lo)).take (HT.sIx xs.length xs.length hi - HT.sIx xs.length 0 lo), Heap.get?_push_size _ rfl⟩
theorem call_len_seq : CallR X (.builtin "len") (fun xs H Q => ∃ p ys, xs = [.ref p] ∧ (SqL X.K H p ys ∨ SqT X.K H p ys) ∧ Q (.int ys.length) H) := by
  intro pins s σ H xs us Q I r h
  obtain ⟨p, ys, rfl, hq, q⟩ := h
  obtain ⟨u, rfl, rx⟩ := vals1 r
  cases rx
  have hn := line63
  rcases hq with hq | hq
  · obtain ⟨its, r', pl, hz⟩ := I.list hq
    have hlen := r'.length
    exact Calls.call_len_list pl.isList (by simp only [List.size_toArray] <;> omega) ⟨.int ys.length, H, I.tok _, ⟨s.toks + 1, by rw [List.size_toArray, hlen]⟩, q⟩
  · obtain ⟨its, r', pl, hz⟩ := I.tuple hq
    have hlen := r'.length
    exact len_tuple pl (by simp only [List.size_toArray] <;> omega) ⟨.int ys.length, H, I.tok _, ⟨s.toks + 1, by rw [List.size_toArray, hlen]⟩, q⟩
theorem call_list_of : CallR X (.type "list") (fun xs H Q => ∃ p ys, xs = [.ref p] ∧ (SqL X.K H p ys ∨ SqT X.K H p ys) ∧ ∀ l, H l = none → Q (.ref l) (upd H l (.lst ys))) := by
  intro pins s σ H xs us Q I r h
  obtain ⟨p, ys, rfl, hq, q⟩ := h
  obtain ⟨u, rfl, rx⟩ := vals1 r
  cases rx
  have fin : ∀ (its : List Value), Vals ys its → ys.length ≤ sizeLine → ∀ (h' : Heap) (c' : Nat), (∀ b o', s.heap.get? b = some o' → h'.get? b = some o') →
      h'.get? s.heap.objs.size = some { cls := .type "list", dict := none, data := .seq its.toArray c', slots := #[] } → EP X pins σ Q (.ref s.heap.objs.size) { s with heap := h' } := fun its r' hz h' c' kp e =>
    ⟨.ref s.heap.objs.size, _, I.laid (t' := s.toks) kp (Nat.le_refl _) (show ObjOk X.prog X.w _ h' _ (.lst ys) from ⟨hz, its, c', r', e⟩), rfl, q _ (I.hok.fresh (Nat.le_refl _))⟩
  rcases hq with hq | hq
  · obtain ⟨its, r', pl, hz⟩ := I.list hq
    have hlen := r'.length
    obtain ⟨o, ho, hc, n, hd⟩ := pl.isList
    exact call_list_seq p (.inl rfl) ho hc hd (fun h' c' kp e => fin its r' hz h' c' kp e) (by simp only [List.size_toArray] <;> omega)
  · obtain ⟨its, r', pl, hz⟩ := I.tuple hq
    have hlen := r'.length
    obtain ⟨o, ho, hc, n, hd⟩ := pl
    exact call_list_seq p (.inr rfl) ho hc hd (fun h' c' kp e => fin its r' hz h' c' kp e) (by simp only [List.size_toArray] <;> omega)
def tyV (K : PySem.W.Frag) (T : String) (x : V) (H : Hp) : Prop := match x with
  | .str _ => T = "str"
  | .int _ => T = "int"
  | .ref p => (T = "list" ∧ ∃ xs, SqL K H p xs) ∨ (T = "tuple" ∧ ∃ o, K.lookup p = some o ∧ o.cls = .type "tuple" ∧ o.dict = none) ∨
      (T = "dict" ∧ ((∃ kvs, H p = some (.dK kvs)) ∨ ∃ kvs, H p = some (.dT kvs))) ∨ (T = "set" ∧ ∃ S n, H p = some (.set S n))
  | _ => False
theorem tyV_is {pins : List (Addr × Obj)} {σ : St} {H : Hp} {s : Shared} {T : String} {x : V} {v : Value} (I : Inv X pins σ H s) (r : RelV x v) (ty : tyV X.K T x H) :
    s.TypeIs v T ∧ ∀ a, v = .ref a → ∃ ob, s.heap.get? a = some ob ∧ ob.dict = none := by
  cases x with
  | str z =>
    obtain ⟨t, rfl⟩ := r
    cases (show T = "str" from ty)
    exact ⟨typeIs_str s z t, fun _ e => nomatch e⟩
  | int i =>
    obtain ⟨t, rfl⟩ := r
    cases (show T = "int" from ty)
    exact ⟨typeIs_int s i t, fun _ e => nomatch e⟩
  | ref p =>
    cases r
    rcases ty with ⟨rfl, xs, hq⟩ | ⟨rfl, o, hk, hc, hd⟩ | ⟨rfl, hk⟩ | ⟨rfl, S, n, hk⟩
    · obtain ⟨its, _, pl, _⟩ := I.list hq
      refine ⟨pl.isList.typeIs, fun a e => ?_⟩
      cases e
      obtain ⟨o, n, e, c, hd, _⟩ := pl
      exact ⟨o, e, hd⟩
    · refine ⟨⟨o, I.kIn p o hk, hc⟩, fun a e => ?_⟩
      cases e
      exact ⟨o, I.kIn _ o hk, hd⟩
    · have z : ∃ o, s.heap.get? p = some o ∧ o.ExactDict := by
        rcases hk with ⟨kvs, hk⟩ | ⟨kvs, hk⟩
        · obtain ⟨_, _, _, _, o, _, _, e, ex, _⟩ := I.hok p _ hk
          exact ⟨o, e, ex⟩
        · obtain ⟨_, _, _, _, o, _, _, e, ex, _⟩ := I.hok p _ hk
          exact ⟨o, e, ex⟩
      obtain ⟨o, e, ex⟩ := z
      refine ⟨⟨o, e, ex.1⟩, fun a e2 => ?_⟩
      cases e2
      exact ⟨o, e, ex.2.1⟩
    · obtain ⟨o, _, _, _, e, ex, _⟩ := I.hok p _ hk
      refine ⟨⟨o, e, ex.1⟩, fun a e2 => ?_⟩
      cases e2
      exact ⟨o, e, ex.2.1⟩
  | _ => exact False.elim ty
def tBM (K : PySem.W.Frag) (T : String) (r : V → List V → Hp → VK → Prop) (to : TE) (t : TA) : TE := fun σ H Q => to σ H fun x H1 => tyV K T x H1 ∧ t σ H1 fun xs H2 => r x xs H2 Q
variable {o e : Expr} {es : List Expr} {to : TE} {t : TA} {name : Str} {apos cpos : Pos} {T id : String} {r : V → List V → Hp → VK → Prop}
theorem pe_bm (pa : PlainAttrs T) (slot : Slot T name id) (hty : typeOf (.builtin id) = pure (.type "method_descriptor")) (hm : MtR X id r) (ho : PE X o to) (ha : PA X (e :: es) t)
    (hbase : attributeBase o name X.env (eval o X.env) = eval o X.env := by rfl)
    (hfew : ((backTo cpos (starEach (e :: es) X.env)).all (fun x => !x.1) && (backToKw cpos (keywordEach [] X.env)).all (fun x => x.1.isSome)
      && decide ((e :: es).length + ([] : List Keyword).length + (if ([] : List Keyword).isEmpty then 0 else 1) < 30)) = true := by rfl)
    (hline : (apos.endLine == cpos.line) = true := by rfl) (hs : starEach (e :: es) X.env = (false, eval e X.env) :: starEach es X.env := by rfl) (hplain : (backTo cpos (starEach es X.env)).any (·.1) = false := by rfl) :
    PE X (.Call (.Attribute o name apos) (e :: es) [] cpos) (tBM X.K T r to t) := by
  intro pins s σ H Q I h
  refine wpAny_Call_method_late hbase hfew hline rfl (thn (ho pins s σ H _ I h) fun v s1 ⟨x, H1, I1, r1, ty, q1⟩ => ?_)
  obtain ⟨h1, h2⟩ := tyV_is I1 r1 ty
  refine ⟨T, id, pa, slot, hty, h1, h2, ?_⟩
  have hA := ha cpos pins s1 σ H1 _ I1 q1
  rw [hs] at hA ⊢
  refine Calls.callWith_builtin (by show (false || (backTo cpos (starEach es X.env)).any (·.1)) = false; rw [hplain] <;> rfl) (Calls.evalArgs_plain ?_)
  exact thn hA fun us s2 ⟨vs, H2, I2, r2, q2⟩ => hm pins s2 σ H2 x vs v us Q I2 r1 r2 q2
/- xs.append(e), list.index on a module's tuple .. are MtR facts of 06m -/
end
end L2
namespace L2
open PySem PySem.Spec PyProof.Rows
def MtM (X : Cx) (id : String) (r : V → List V → Hp → VK → Prop) : Prop :=
  ∀ (pins : List (Addr × Obj)) (s : Shared) (σ : St) (H : Hp) (x : V) (xs : List V) (v : Value) (us : List Value) (Q : VK), Inv X pins σ H s → RelV x v → Vals xs us → r x xs H Q →
    wpAny (model X.prog X.w) X.A (call (.builtin id) (v :: us)) (EP X pins σ Q) X.xe s
theorem Vals.one : ∀ {x : V} {us : List Value}, Vals [x] us → ∃ u, us = [u] ∧ RelV x u
  | _, _, .cons r .nil => ⟨_, rfl, r⟩
theorem Vals.two : ∀ {x y : V} {us : List Value}, Vals [x, y] us → ∃ u v, us = [u, v] ∧ RelV x u ∧ RelV y v
  | _, _, _, .cons r (.cons q .nil) => ⟨_, _, rfl, r, q⟩
theorem Vals.zero : ∀ {us : List Value}, Vals [] us → us = []
  | _, .nil => rfl
theorem Vals.dropLast {xs : List V} {us : List Value} (h : Vals xs us) : Vals xs.dropLast us.dropLast := by
  induction h with
  | nil => exact .nil
  | cons r t ih =>
    cases t with
    | nil => exact .nil
    | cons q t' => exact .cons r ih
theorem Vals.reverse {xs : List V} {us : List Value} (h : Vals xs us) : Vals xs.reverse us.reverse := by
  induction h with
  | nil => exact .nil
  | cons r t ih => rw [List.reverse_cons, List.reverse_cons]; exact Vals.append ih (.cons r .nil)
theorem Vals.rep {xs : List V} {us : List Value} (h : Vals xs us) : ∀ k : Nat, Vals (List.replicate k xs).flatten (List.replicate k us).flatten
  | 0 => .nil
  | k + 1 => by
    rw [List.replicate_succ, List.replicate_succ, List.flatten_cons, List.flatten_cons]
    exact Vals.append h (Vals.rep h k)
section
variable {X : Cx} {pins : List (Addr × Obj)} {σ : St} {H : Hp} {s : Shared} {l b : Addr} {xs ys zs : List V}
theorem Inv.lset {its its' : List Value} {n : Nat} {f : Array Value → Array Value} {t' : Nat} (I : Inv X pins σ H s) (hH : H l = some (.lst xs))
    (e : s.heap.get? l = some { cls := .type "list", data := .seq its.toArray n }) (hf : f its.toArray = its'.toArray) (hv : Vals ys its') (hz : ys.length ≤ sizeLine) :
    Inv X pins σ (upd H l (.lst ys)) { s with heap := s.heap.update l (Obj.mapSeq f), toks := t' } := by
  have q := PySem.IsL.update e f
  rw [hf] at q
  refine I.write (x := l) (e := l) (by rw [hH]; exact trivial) (.inl rfl) (fun b' u hb hu => (Heap.get?_update_other s.heap (Obj.mapSeq f) (Ne.symm hb)).trans hu) ⟨_, q⟩ ?_
  exact ⟨hz, its', _, hv, q⟩
theorem Inv.lnew {its : List Value} {t' : Nat} (I : Inv X pins σ H s) (hv : Vals ys its) (hz : ys.length ≤ sizeLine) :
    Inv X pins σ (upd H s.heap.objs.size (.lst ys)) { s with heap := s.heap.push { cls := .type "list", data := .seq its.toArray }, toks := t' } :=
  I.laid (fun _ _ q => Heap.get?_push_of_some _ q) (Nat.le_refl _) ⟨hz, its, 0, hv, Heap.get?_push_size _ rfl⟩
theorem Inv.fresh (I : Inv X pins σ H s) : H s.heap.objs.size = none := I.hok.fresh (Nat.le_refl _)
theorem Inv.lstM (I : Inv X pins σ H s) (hH : H l = some (.lst xs)) : xs.length ≤ sizeLine ∧ ∃ (its : List Value) (n : Nat), Vals xs its ∧ xs.length = its.length ∧ s.heap.get? l = some { cls := .type "list", data := .seq its.toArray n } := by
  obtain ⟨z, its, n, r, e⟩ := I.hok l _ hH
  exact ⟨z, its, n, r, r.length, e⟩
theorem notLongL {n : Nat} (h : n ≤ sizeLine) : Builtin.List.listTooLong n = false := by
  unfold Builtin.List.listTooLong
  exact decide_eq_false (by omega)
end
section
variable {X : Cx}
def rAppend : V → List V → Hp → VK → Prop := fun x vs H Q => ∃ l xs y, x = .ref l ∧ vs = [y] ∧ H l = some (.lst xs) ∧ xs.length < sizeLine ∧ Q .non (upd H l (.lst (xs ++ [y])))
theorem mt_append : MtM X "list.append" rAppend := by
  intro pins s σ H x vs v us Q I rx rv h
  obtain ⟨l, xs, y, rfl, rfl, hH, hz, q⟩ := h
  cases rx
  obtain ⟨u, rfl, ru⟩ := rv.one
  obtain ⟨z, its, n, r, hl, e⟩ := I.lstM hH
  refine call_meets F.slot_list_append ⟨_, e, rfl⟩ F.entry_list_append (F.args_list_append_2 _ _) (PySem.list_append l its.toArray n u (by rw [List.size_toArray]; omega)) ⟨e, ?_⟩
  refine ⟨.non, _, I.lset (its' := its ++ [u]) hH e (by simp) (r.append (.cons ru .nil)) ?_, rfl, q⟩
  rw [List.length_append, List.length_singleton]
  omega
def rExtend : V → List V → Hp → VK → Prop := fun x vs H Q => ∃ l b xs zs, x = .ref l ∧ vs = [.ref b] ∧ H l = some (.lst xs) ∧ H b = some (.lst zs) ∧ xs.length + zs.length ≤ sizeLine ∧ Q .non (upd H l (.lst (xs ++ zs)))
theorem mt_extend : MtM X "list.extend" rExtend := by
  intro pins s σ H x vs v us Q I rx rv h
  obtain ⟨l, b, xs, zs, rfl, rfl, hH, hB, hz, q⟩ := h
  cases rx
  obtain ⟨u, rfl, ru⟩ := rv.one
  cases ru
  obtain ⟨z, its, n, r, hl, e⟩ := I.lstM hH
  obtain ⟨z2, its2, n2, r2, hl2, e2⟩ := I.lstM hB
  have hsz : its.toArray.size + its2.toArray.size ≤ sizeLine := by rw [List.size_toArray, List.size_toArray]; omega
  have hlong : ¬ (!its.toArray.isEmpty && Builtin.List.listTooLong (its.toArray.size + its2.toArray.size)) = true := by
    rw [notLongL hsz, Bool.and_false]
    exact Bool.false_ne_true
  refine call_meets F.slot_list_extend ⟨_, e, rfl⟩ F.entry_list_extend (F.args_list_extend_2 _ _)
    (AutoSeq1.list_extend_list_list_0 l its.toArray n b its2.toArray n2 hlong (by rw [List.size_toArray]; omega) (by omega)) ⟨e, e2, ?_⟩
  refine ⟨.non, _, I.lset (its' := its ++ its2) hH e (by simp) (r.append r2) ?_, rfl, q⟩
  rw [List.length_append]
  omega
def rCat : R2 := fun x y H Q => ∃ l b xs zs, x = .ref l ∧ y = .ref b ∧ H l = some (.lst xs) ∧ H b = some (.lst zs) ∧ xs.length + zs.length ≤ sizeLine ∧ ∀ p, H p = none → Q (.ref p) (upd H p (.lst (xs ++ zs)))
theorem op_cat : OpR X (binaryOp .Add) rCat := by
  intro pins s σ H x y v u Q I rx ry h
  obtain ⟨l, b, xs, zs, rfl, rfl, hH, hB, hz, q⟩ := h
  cases rx
  cases ry
  obtain ⟨z, its, n, r, hl, e⟩ := I.lstM hH
  obtain ⟨z2, its2, n2, r2, hl2, e2⟩ := I.lstM hB
  refine PySem.P.add_list e e2 ?_ (by rw [List.size_toArray, List.size_toArray]; omega)
  have ea : its.toArray ++ its2.toArray = (its ++ its2).toArray := by simp
  rw [ea]
  exact ⟨.ref _, _, I.lnew (t' := s.toks) (r.append r2) (by rw [List.length_append]; omega), rfl, q _ I.fresh⟩
end
section
variable {prog : Program} {w : World} {A : Around} {E : Value → Shared → Prop} {s : Shared}
end
section
variable {X : Cx}
end
end L2
namespace Att
open PySem PySem.W PySem.Calls PyProof.Rows
theorem ints_of_wellAll {P : Params} {h : Heap} : ∀ (ns : List Int) (vs : List Value), WellAll P h vs (ns.map WData.int) → IntsAre vs ns := by
  intro ns
  induction ns with
  | nil =>
    intro vs w
    rw [List.map_nil] at w
    cases w
    exact .nil
  | cons n ns ih =>
    intro vs w
    rw [List.map_cons] at w
    cases w with
    | cons a b =>
      cases a
      exact .cons _ _ (ih _ b)
theorem script_of {l : OpenLaw} {n : Nat} (hn : l.most = some n) {P : Params} {h : Heap} {args : List WData} {vals : List Value}
    (hpre : l.row.toRowW.claim.pre args = true) (hwl : WellAll P h vals args) :
    ∃ a vs ns, vals = [Value.ref a] ∧ args = [WData.list (ns.map WData.int)] ∧ h.get? a = some { cls := .type "list", data := .seq vs.toArray } ∧ IntsAre vs ns ∧ ns.length ≤ n := by
  have hsh : WShape.hasAll [] args [.list .int] = true := (pre_splitW hpre).1
  have hc : l.pre.holds [] { args := args } = true := (pre_splitW hpre).2
  obtain ⟨d, r, rfl, h1, h2⟩ := hasAllW_cons hsh
  obtain rfl := hasAllW_nil h2
  obtain ⟨xs, rfl, h3⟩ := hasW_list h1
  obtain ⟨ns, rfl⟩ := items_int h3
  have hlen : ns.length ≤ n := by
    unfold OpenLaw.pre at hc
    have h4 : (WTm.not (.lt (.lit (.int (n : Int))) (.len (.arg 0)))).holds [] { args := [.list (ns.map .int)] } = true := by
      have h4 := (holds_andW hc).1
      rw [hn] at h4
      exact h4
    have h5 := condW_of h4 (w_not (w_lt w_lit (w_len_list (w_arg rfl))))
    rw [List.length_map] at h5
    refine Nat.le_of_not_lt fun q => ?_
    have q' : (n : Int) < ((ns.length : Nat) : Int) := by omega
    first
      | (rw [decide_eq_true q'] at h5; exact absurd h5 (by decide))
      | (simp at h5; omega)
  cases hwl with
  | cons w1 w2 =>
    cases w2
    cases w1 with
    | list ho hall => exact ⟨_, _, ns, rfl, rfl, ho, ints_of_wellAll ns _ hall, hlen⟩
theorem post_true (l : OpenLaw) (args : List WData) : l.row.toRowW.claim.post args (.bool true) args = true :=
  postW_of (r := l.row.toRowW) (X := (true == true))
    (show WShape.has [] (.bool true) .bool = true by first | rfl | decide | simp [WShape.has, WShape.arms, WShape.armsAll])
    (show (WTm.eq .res (.lit (.bool true))).value [] { args := args, res := some (.bool true), after := args } = some (.bool (true == true)) from w_eq_bool (w_res rfl) w_lit) rfl
theorem attach_call {l : OpenLaw} {n : Nat} {q : Program} {loose : List Str} {XP : (Str → Option Value) → Heap → Prop} {YP : World → Heap → Prop} {d : DefRec}
    (hn : l.most = some n) (hdf : d.params.defaults = [])
    (call : ∀ (w : World) (s₀ s₁ : Shared) (mg mb : Str → Option Value) (fa : Addr) (o : Obj) (pm cd doc : Value) (a : Addr) (vs : List Value) (ns : List Int),
      Ground q loose [] XP w s₀ mg mb s₁.heap → YP w s₁.heap →
      s₁.heap.get? fa = some o → o.data = .func (docDef d.name d.params d.body d.scope pm cd doc) → s₁.heap.CodeRec cd d.name → mg d.name = some (.ref fa) →
      s₁.heap.get? a = some { cls := .type "list", data := .seq vs.toArray } → IntsAre vs ns → ns.length ≤ n → s₁.gens = #[] →
      codeAny (model l.prog w) callerA (.call (.ref fa) ⟨[.ref a], []⟩) (fun r s' => r = .ok (.ret (.bool true)) ∧ OldK s₁.heap s'.heap ∧ s'.os = s₁.os ∧ AllBare s'.gens) s₁) :
    WalkO q loose XP YP l.row.toRowW d [] (fun f vs => PySem.call f vs) := by
  intro w s₀ s₁ mg mb G Y fa o pm cd doc dV kV ho hd hcd hD hmg hg args vals as hpre hlay hrd hwl hlo
  obtain rfl : dV = .none := Dflts.none hD hdf
  obtain rfl : kV = .none := Dflts.noKw hD
  obtain ⟨a, vs, ns, rfl, rfl, hobj, hints, hlen⟩ := script_of hn hpre hwl
  refine enter_call (codeAny_mono (call w s₀ s₁ mg mb fa o pm cd doc a vs ns G Y ho (fd_plain hd) hcd hmg hobj hints hlen hg) fun r s' hq => ?_)
  obtain ⟨rfl, h2, h3, h4⟩ := hq
  exact ⟨.inl ⟨.bool true, .bool true, [], rfl, fun _ => rfl, .bool true, post_true l _, fun _ => ⟨List.Pairwise.nil, fun _ hm => (nomatch hm)⟩⟩, h2, h3, h4⟩
section
variable {prog : Program} {w : World} {A : Around} {E : Value → Shared → Prop} {s : Shared} {K : Frag}
end
end Att
namespace L2
open PySem PySem.Spec PyProof.Rows
theorem vals_ints : ∀ {vs : List Value} {ns : List Int}, IntsAre vs ns → Vals (ns.map V.int) vs
  | _, _, .nil => .nil
  | _, _, .cons n t h => .cons ⟨t, rfl⟩ (vals_ints h)
def Only (H : Hp) : Prop := ∀ b, H b = none ∨ ∃ o xs, H b = some (.frz o (.lst xs))
theorem law_call {P : Program} {w : World} {K : PySem.W.Frag} {mg mb : Str → Option Value} {CX : CXT} {k : Nat} {fa a : Addr} {fd : FuncData} {x : Str} {sp : Sp} {s₁ : Shared} {vs : List Value} {ns : List Int}
    (KX : K.In s₁.heap) (hns : s₁.heap.Ns mainGlobals mg) (hb : s₁.heap.Ns builtinsNs mb) (hbb : ∀ x : Str, x ≠ "__name__" → mb x = bootBuiltins x) (hlim : s₁.heap.NoLimit) (hg : s₁.gens = #[])
    (ha : s₁.heap.get? a = some { cls := .type "list", data := .seq vs.toArray }) (hi : IntsAre vs ns) (hl : ns.length ≤ sizeLine) (hr : Room k callerA)
    (F : ∀ base : Heap, K.In base → base.Ns mainGlobals mg → FnOk P w K mg base CX k fa fd [x] sp) (hbind : ∀ (s : Shared) (u : Value), BindsTo s fd ⟨[u], []⟩ [(x, u)])
    (hsp : ∀ H : Hp, Only H → SqL K H a (ns.map V.int) → sp [.ref a] H (fun v _ => v = .bl true) fun _ _ _ => False)
    (hCX : ∀ H e s', CX [] H s₁ (fun _ _ _ => False) e s' → False) :
    codeAny (model P w) callerA (.call (.ref fa) ⟨[.ref a], []⟩) (fun r s' => r = .ok (.ret (.bool true)) ∧ OldK s₁.heap s'.heap ∧ s'.os = s₁.os ∧ AllBare s'.gens) s₁ := by
  have rv := vals_ints hi
  have lenV := hi.length
  -- from an abstract heap in which nothing but the script may be tracked
  have core : ∀ H : Hp, Only H → SqL K H a (ns.map V.int) → HOk P w H s₁.heap → (∀ b, H b ≠ none → b = a) → (H a ≠ none → K.lookup a = none) →
      codeAny (model P w) callerA (.call (.ref fa) ⟨[.ref a], []⟩) (fun r s' => r = .ok (.ret (.bool true)) ∧ OldK s₁.heap s'.heap ∧ s'.os = s₁.os ∧ AllBare s'.gens) s₁ := by
    intro H hO hS hok hA hK
    have base_of : ∀ {b : Addr} {o : Obj}, s₁.heap.get? b = some o → H b = none → (hidT s₁.heap H).get? b = some o := fun e n => hidT_get e n
    have noA : ∀ {b : Addr} {o : Obj} {es : Array DictEntry} {ep : Nat}, s₁.heap.get? b = some o → o.data = .dict es ep → H b = none := fun {b o es ep} e d => by
      cases q : H b with
      | none => rfl
      | some u =>
        have e' : b = a := hA b (by rw [q]; simp)
        subst e'
        rw [ha] at e; cases e
        have d' : Data.seq vs.toArray _ = Data.dict es ep := d
        cases d'
    have nsK : ∀ {b : Addr} {m : Str → Option Value}, s₁.heap.Ns b m → (hidT s₁.heap H).Ns b m := fun {b m} ⟨o, es, ep, e, d, r⟩ => ⟨o, es, ep, base_of e (noA e d), d, r⟩
    have hKb : K.In (hidT s₁.heap H) := fun b o e => base_of (KX b o e) (by
      cases q : H b with
      | none => rfl
      | some u =>
        have e' : b = a := hA b (by rw [q]; simp)
        subst e'
        rw [hK (by rw [q]; simp)] at e; cases e)
    have hM : Mod K mg (hidT s₁.heap H) := ⟨hKb, nsK hns, ⟨mb, nsK hb, hbb⟩, let ⟨mc, h1, h2⟩ := hlim; ⟨mc, nsK h1, h2⟩⟩
    have e0 : Env0 P w K mg (hidT s₁.heap H) callerA [] s₁ H := ⟨rfl, hM, fun b o e => of_hidT e, Nat.le_of_eq (hidT_size _ _), trivial, fun b hb => absurd (show b ∈ ([] : List Addr) from hb) (by simp), hok, .of_eq hg⟩
    refine codeAny_mono ((F _ hKb (nsK hns)).run callerA [] s₁ H ⟨[.ref a], []⟩ [.ref a] [.ref a] _ _ hr e0 (hbind s₁ (.ref a)) (.cons rfl .nil) (hsp H hO hS)) fun r s' h => ?_
    cases r with
    | error e => exact (hCX H e s' h).elim
    | ok fl =>
      cases fl with
      | next => exact False.elim h
      | brk => exact False.elim h
      | cont => exact False.elim h
      | ret u =>
        obtain ⟨v, H', os, bare, un, hok', r', q⟩ := h
        have q' : v = .bl true := q
        subst q'
        obtain rfl : u = Value.bool true := r'
        refine ⟨rfl, OldK.of_keep fun b o e => ?_, os, bare⟩
        cases q : H b with
        | none => exact un.keep b o e q (by intro z; exact absurd (show b ∈ ([] : List Addr) from z) (by simp)) (by simp)
        | some u =>
          rcases hO b with z | ⟨ob, xs, z⟩
          · rw [q] at z; cases z
          · have z2 := un.frzs b ob _ z
            obtain ⟨e1, _⟩ := hok b _ z
            obtain ⟨e2, _⟩ := hok' b _ z2
            rw [e] at e1; cases e1
            exact e2
  cases hk : K.lookup a with
  | some o =>
    -- the script is one of the module's own objects
    have e := KX a o hk
    rw [ha] at e
    cases e
    refine core (fun _ => none) (fun _ => .inl rfl) (.inr ⟨_, vs.toArray, _, hk, rfl, rfl, rfl, by rw [List.size_toArray, lenV]; exact hl, by simpa using rv⟩) (fun b u z => by have z' : (none : Option HO) = some u := z; cases z') (fun b z => absurd rfl z) fun z => absurd rfl z
  | none =>
    refine core (fun b => if b = a then some (.frz { cls := .type "list", data := .seq vs.toArray } (.lst (ns.map V.int))) else none) (fun b => ?_) (.inl (.inr ⟨{ cls := .type "list", data := .seq vs.toArray }, if_pos rfl⟩)) (fun b u z => ?_) (fun b z => ?_) fun _ => hk
    · by_cases hb : b = a
      · exact .inr ⟨_, _, if_pos hb⟩
      · exact .inl (if_neg hb)
    · by_cases hb : b = a
      · have z' := (if_pos hb).symm.trans z
        cases z'
        subst hb
        exact ⟨ha, by rw [List.length_map]; exact hl, vs, _, rv, ha⟩
      · have z' := (if_neg hb).symm.trans z
        cases z'
    · by_cases hb : b = a
      · exact hb
      · exact absurd (if_neg hb) z
end L2
namespace L2
open PySem PySem.Spec PyProof.Rows
theorem walk_of {l : PySem.W.OpenLaw} {n k : Nat} {q : Program} {loose : List Str} {XP : (Str → Option Value) → Heap → Prop} {YP : World → Heap → Prop} {d : DefRec} {K : Params → PySem.W.Frag} {CX : World → CXT} {sp : World → Sp} {x : Str}
    (hn : l.most = some n) (hn2 : n ≤ sizeLine) (hdf : d.params.defaults = []) (hr : Room k callerA)
    (hY : ∀ (w : World) (h : Heap), YP w h → (K w.params).In h)
    (F : ∀ (w : World) (mg : Str → Option Value) (fa : Addr) (h : Heap), (K w.params).In h → h.Ns mainGlobals mg → mg d.name = some (.ref fa) →
      ∃ fd : FuncData, (∀ (s : Shared) (u : Value), BindsTo s fd ⟨[u], []⟩ [(x, u)]) ∧
        ∀ base : Heap, (K w.params).In base → base.Ns mainGlobals mg → FnOk l.prog w (K w.params) mg base (CX w) k fa fd [x] (sp w))
    (hsp : ∀ (w : World) (H : Hp) (a : Addr) (ns : List Int), ns.length ≤ n → Only H → SqL (K w.params) H a (ns.map V.int) → sp w [.ref a] H (fun v _ => v = .bl true) fun _ _ _ => False)
    (hCX : ∀ (w : World) (H : Hp) (s : Shared) (e : Value) (s' : Shared), CX w [] H s (fun _ _ _ => False) e s' → False) :
    PySem.W.WalkO q loose XP YP l.row.toRowW d [] (fun f vs => PySem.call f vs) := by
  refine Att.attach_call hn hdf fun w s₀ s₁ mg mb fa o pm cd doc a vs ns G Y ho hd hcd hmg hobj hints hlen hg => ?_
  have KX := hY w _ Y
  obtain ⟨fd, hb, hF⟩ := F w mg fa _ KX G.T.g hmg
  exact law_call KX G.T.g G.T.b G.T.builtins G.T.nolimit hg hobj hints (Nat.le_trans hlen hn2) hr hF hb (fun H hO hS => hsp w H a ns hlen hO hS) fun H e s' => hCX w H s₁ e s'
end L2
/- THE LAST THEOREM (shape; LID, My.* are yours):
   My.Adr: a structure of the addresses that your layer names (classes, functions); My.Txt K t: a structure (Prop) of the equations over K;
   My.txt_mk : {K} {implicit addresses ..} (e1 : nsIn K mainGlobals "law" = some (some (.ref f))) (e2 : K.lookup f = some ⟨oc, od, .func (fnOf "law" "law" params body scope dV kV doc pm an cdv ct), sl⟩) (e3 : codeIn K cdv "law" = true) .. : ∃ t, My.Txt K t
(the tactic k_is has no namespace: write k_is) -/
namespace L2
open PySem PySem.Spec PyProof.Rows
def defArgs (s : Stmt) : Arguments := match s with
  | .FunctionDef _ a _ _ _ _ _ _ _ _ => a
  | _ => { posonlyargs := [], args := [], vararg := none, kwonlyargs := [], kw_defaults := [], kwarg := none, defaults := [] }
def defBody (s : Stmt) : List Stmt := match s with
  | .FunctionDef _ _ b _ _ _ _ _ _ _ => b
  | _ => []
def defScope (s : Stmt) : Scope := match s with
  | .FunctionDef _ _ _ _ _ _ sc _ _ _ => sc
  | _ => { kind := .function, names := [], isGenerator := false, isCoroutine := false }
abbrev CX0 : CXT := fun _ _ _ _ _ _ => False
abbrev E0 : XK := fun _ _ _ => False
theorem pass0 {X : Cx} : Passes CX0 X E0 := fun _ _ _ _ _ _ _ h => h.elim
structure Fun (K : PySem.W.Frag) (x qual : Str) (st : Stmt) (f : Addr) (fd : FuncData) : Prop where
  ex : ∃ (oc : Value) (od : Option Addr) (kV doc pm : Value) (an : Option Addr) (cdv ct : Value) (osl : Array (Option Value)),
    fd = PySem.W.fnOf x qual (defArgs st) (defBody st) (defScope st) .none kV doc pm an cdv ct ∧ K.lookup f = some ⟨oc, od, .func fd, osl⟩ ∧ PySem.W.codeIn K cdv qual = true
  kp : PySem.W.keepIn K (.ref f) = true
section
variable {P : Program} {w : World} {K : PySem.W.Frag} {mg : Str → Option Value} {base : Heap}
theorem Fun.ok {x qual : Str} {st : Stmt} {f : Addr} {fd : FuncData} {N ps : List Str} {k : Nat} {sp : Sp} (F : Fun K x qual st f fd) (S : FnScope N ps (defScope st)) (len : ∀ vs H Q E, sp vs H Q E → vs.length = ps.length)
    (hbody : ∀ (cdv : Value) (A : Around) (outer : List Env) (s : Shared) (H : Hp) (vs : List V) (Q : VK) (E : XK), Room k (A.deeper (envOfC qual (defScope st) s.heap.objs.size f cdv)) → sp vs H Q E →
      ∃ t, PSs (cxOf CX0 P w K mg base N qual (defScope st) f cdv A outer s H E).nox (defBody st) t ∧ t { nx := fun _ H' => Q .non H', rt := Q } (start N vs) H) : FnOk P w K mg base CX0 (k + 1) f fd ps sp := by
  obtain ⟨oc, od, kV, doc, pm, an, cdv, ct, osl, rfl, lk, hcd⟩ := F.ex
  refine fn_of lk hcd S len fun A outer s H vs Q E hr hsp => ?_
  obtain ⟨t, h, q⟩ := hbody cdv A outer s H vs Q E hr hsp
  exact ⟨t, h.nox, q⟩
theorem Fun.binds {x qual : Str} {st : Stmt} {f : Addr} {fd : FuncData} {ps : List Str} (F : Fun K x qual st f fd)
    (h : ∀ (kV doc pm : Value) (an : Option Addr) (cdv ct : Value) (us : List Value), us.length = ps.length → bindArgs (PySem.W.fnOf x qual (defArgs st) (defBody st) (defScope st) .none kV doc pm an cdv ct) ⟨us, []⟩ = pure (ps.zip us)) : Binds K fd ps [] := by
  obtain ⟨oc, od, kV, doc, pm, an, cdv, ct, osl, rfl, lk, hcd⟩ := F.ex
  exact .all (h kV doc pm an cdv ct)
theorem fun_mk {x qual : Str} {st : Stmt} {f : Addr} {oc : Value} {od an : Option Addr} {osl : Array (Option Value)} {kV doc pm cdv ct : Value} (l : K.lookup f = some ⟨oc, od, .func (PySem.W.fnOf x qual (defArgs st) (defBody st) (defScope st) .none kV doc pm an cdv ct), osl⟩)
    (c : PySem.W.codeIn K cdv qual = true) (k : PySem.W.keepIn K (.ref f) = true) : Fun K x qual st f (PySem.W.fnOf x qual (defArgs st) (defBody st) (defScope st) .none kV doc pm an cdv ct) := ⟨⟨oc, od, kV, doc, pm, an, cdv, ct, osl, rfl, l, c⟩, k⟩
end
theorem small1000 {n : Nat} (h : n ≤ 1000) : n < sizeLine := Nat.lt_of_le_of_lt h (by decide)
section
variable {X : Cx}
theorem pv (i : Nat) {x : Str} {pos : Pos} (hN : X.N[i]? = some x := by rfl) (hv : Vis X.env.scope x := by first | exact Or.inl rfl | exact Or.inr (Or.inl rfl) | exact Or.inr (Or.inr rfl)) (hd : (x == ("__debug__" : Str)) = false := by decide)
    (hcd : (x == ("__classdict__" : Str)) = false := by decide) : PE X (.Name x pos) (tVar i) := pe_var hN hv hd hcd
end
theorem iteF {A B : Prop} (h : B) : if false = true then A else B := by
  rw [if_neg Bool.false_ne_true]
  exact h
theorem iteT {A B : Prop} (h : A) : if true = true then A else B := by
  rw [if_pos rfl]
  exact h
theorem ite2 {c A B : Prop} [Decidable c] (h1 : c → A) (h2 : ¬ c → B) : if c then A else B := by
  by_cases h : c
  · rw [if_pos h]
    exact h1 h
  · rw [if_neg h]
    exact h2 h
def Same (H H' : Hp) : Prop := ∀ b o, H b = some o → H' b = some o
theorem Same.refl (H : Hp) : Same H H := fun _ _ h => h
theorem Same.trans {H H1 H2 : Hp} (a : Same H H1) (b : Same H1 H2) : Same H H2 := fun c o h => b c o (a c o h)
theorem Same.free {H H' : Hp} (e : Same H H') {l : Addr} (h : H' l = Option.none) : H l = Option.none := by
  cases q : H l with
  | none => rfl
  | some o =>
    rw [e l o q] at h
    cases h
theorem Same.seq {K : PySem.W.Frag} {H H' : Hp} {a : Addr} {xs : List V} (e : Same H H') (h : SqL K H a xs) : SqL K H' a xs := by
  rcases h with (h | ⟨o, h⟩) | h
  · exact .inl (.inl (e _ _ h))
  · exact .inl (.inr ⟨o, e _ _ h⟩)
  · exact .inr h
end L2
namespace Geo
abbrev Pt := Int × Int
def turn (a b c : Pt) : Int := (b.1 - a.1) * (c.2 - a.2) - (b.2 - a.2) * (c.1 - a.1)
def lin (f p : Pt) : Int := f.1 * p.1 + f.2 * p.2
theorem turn_cyc (a b c : Pt) : turn a b c = turn b c a := by unfold turn; grind
theorem turn_swap (a b c : Pt) : turn a b c = - turn b a c := by unfold turn; grind
theorem turn_same (a b : Pt) : turn a b a = 0 := by unfold turn; grind
theorem turn_same' (a b : Pt) : turn a b b = 0 := by unfold turn; grind
theorem plu (f a b c d : Pt) : (lin f b - lin f a) * turn a c d + (lin f c - lin f a) * turn a d b + (lin f d - lin f a) * turn a b c = 0 := by
  unfold turn lin; grind
theorem pos_of_mul {x y : Int} (hx : 0 < x) (h : 0 < x * y) : 0 < y := by
  rcases Int.lt_trichotomy y 0 with h1 | h1 | h1
  · have := Int.mul_neg_of_pos_of_neg hx h1; omega
  · subst h1; simp at h
  · exact h1
theorem nonneg_of_mul {x y : Int} (hx : 0 < x) (h : 0 ≤ x * y) : 0 ≤ y := by
  rcases Int.lt_or_le y 0 with h1 | h1
  · have := Int.mul_neg_of_pos_of_neg hx h1; omega
  · exact h1
theorem far_turn {f a b c d : Pt} (h1 : lin f a < lin f b) (h2 : lin f b < lin f c) (h3 : lin f c < lin f d) (k1 : 0 < turn a b c) (k2 : 0 < turn b c d) : 0 < turn a b d := by
  have e := plu f b a c d
  rw [← turn_cyc a b d] at e
  have e1 : turn b a c = - turn a b c := turn_swap _ _ _
  rw [e1] at e
  have p1 : 0 < (lin f b - lin f a) * turn b c d := Int.mul_pos (by omega) k2
  have p2 : 0 < (lin f d - lin f b) * turn a b c := Int.mul_pos (by omega) k1
  have p3 : 0 < (lin f c - lin f b) * turn a b d := by grind
  exact pos_of_mul (by omega) p3
theorem back_turn {f a b c d : Pt} (h1 : lin f a < lin f b) (h2 : lin f b < lin f c) (h3 : lin f c < lin f d) (k1 : 0 < turn a b c) (k2 : 0 < turn b c d) : 0 < turn c d a := by
  have e := plu f c a b d
  have p1 : 0 < (lin f c - lin f a) * turn b c d := Int.mul_pos (by omega) k2
  have p2 : 0 < (lin f d - lin f c) * turn a b c := Int.mul_pos (by omega) k1
  have e1 : turn c b d = - turn b c d := turn_swap _ _ _
  have e2 : turn c a b = turn a b c := by rw [turn_cyc c a b]
  rw [e1, e2] at e
  have p3 : 0 < (lin f c - lin f b) * turn c d a := by grind
  exact pos_of_mul (by omega) p3
def Adj (l : List Pt) (a b : Pt) : Prop := ∃ pre post, l = pre ++ a :: b :: post
theorem Adj.cons {l : List Pt} {a b x : Pt} (h : Adj l a b) : Adj (x :: l) a b := by
  obtain ⟨pre, post, rfl⟩ := h; exact ⟨x :: pre, post, rfl⟩
theorem Adj.cons_cases {l : List Pt} {a b x : Pt} (h : Adj (x :: l) a b) : (a = x ∧ l.head? = some b) ∨ Adj l a b := by
  obtain ⟨pre, post, e⟩ := h
  cases pre with
  | nil => simp at e; obtain ⟨rfl, rfl⟩ := e; exact .inl ⟨rfl, rfl⟩
  | cons y pre => simp at e; obtain ⟨rfl, rfl⟩ := e; exact .inr ⟨pre, post, rfl⟩
theorem Adj.mem {l : List Pt} {a b : Pt} (h : Adj l a b) : a ∈ l ∧ b ∈ l := by
  obtain ⟨pre, post, rfl⟩ := h; simp
def popB (p : Pt) : List Pt → List Pt
  | b :: a :: r => if turn a b p ≤ 0 then popB p (a :: r) else b :: a :: r
  | s => s
def sideRev : List Pt → List Pt → List Pt
  | st, [] => st
  | st, p :: r => sideRev (p :: popB p st) r
def sideOf (ps : List Pt) : List Pt := (sideRev [] ps).reverse
theorem popB_suffix (p : Pt) : ∀ st, popB p st <:+ st
  | [] => by simp [popB]
  | [a] => by simp [popB]
  | b :: a :: r => by
    unfold popB
    split
    · exact (popB_suffix p (a :: r)).trans (List.suffix_cons _ _)
    · exact List.suffix_refl _
theorem popB_ne (p : Pt) : ∀ st, st ≠ [] → popB p st ≠ []
  | [], h => absurd rfl h
  | [a], _ => by simp [popB]
  | b :: a :: r, _ => by
    unfold popB
    split
    · exact popB_ne p (a :: r) (by simp)
    · simp
structure Stk (f : Pt) (st dn : List Pt) : Prop where
  dec : st.Pairwise (fun x y => lin f y < lin f x)
  cvx : ∀ c b a pre post, st = pre ++ c :: b :: a :: post → 0 < turn a b c
  edge : ∀ b a, Adj st b a → ∀ q ∈ dn, 0 ≤ turn a b q
  sub : ∀ x ∈ st, x ∈ dn
  bot : ∀ q ∈ dn, ∀ x, st.getLast? = some x → lin f x ≤ lin f q
  ne : dn ≠ [] → st ≠ []
  top : ∀ q ∈ dn, ∀ x, st.head? = some x → q = x ∨ lin f q < lin f x
def Tan (f p : Pt) (st dn : List Pt) : Prop := ∀ t, st.head? = some t → ∀ q ∈ dn, lin f t ≤ lin f q → 0 ≤ turn t p q
theorem suffix_getLast {l m : List Pt} (h : l <:+ m) (hn : l ≠ []) : l.getLast? = m.getLast? := by
  obtain ⟨t, rfl⟩ := h
  rw [List.getLast?_append]
  cases e : l.getLast? with
  | none => simp at e; exact absurd e hn
  | some x => rfl
theorem pop_tan {f p : Pt} {dn : List Pt} (hp : ∀ q ∈ dn, lin f q < lin f p) : ∀ (st : List Pt),
    st.Pairwise (fun x y => lin f y < lin f x) → (∀ b a, Adj st b a → ∀ q ∈ dn, 0 ≤ turn a b q) → (∀ x ∈ st, x ∈ dn) → Tan f p st dn → Tan f p (popB p st) dn
  | [], _, _, _, h => by simpa [popB] using h
  | [a], _, _, _, h => by simpa [popB] using h
  | b :: a :: r, hd, he, hs, h => by
    unfold popB
    split
    · rename_i hle
      have hd' := (List.pairwise_cons.mp hd).2
      have hab : lin f a < lin f b := (List.pairwise_cons.mp hd).1 a (by simp)
      have hbp : lin f b < lin f p := hp b (hs b (by simp))
      refine pop_tan hp (a :: r) hd' (fun x y hxy => he x y hxy.cons) (fun x hx => hs x (by simp [hx])) ?_
      intro t ht q hq htq
      simp at ht; subst ht
      have hqp := hp q hq
      rcases Int.lt_or_le (lin f q) (lin f b) with hqb | hqb
      · have e1 := he b a ⟨[], r, rfl⟩ q hq
        have e := plu f a b p q
        -- (fb - fa) * turn a p q + (fp - fa) * turn a q b + (fq - fa) * turn a b p = 0
        have e2 : turn a q b = - turn a b q := by rw [turn_swap a q b, turn_cyc q a b]
        have p1 : 0 ≤ (lin f p - lin f a) * turn a b q := Int.mul_nonneg (by omega) e1
        have p2 : 0 ≤ (lin f q - lin f a) * (- turn a b p) := Int.mul_nonneg (by omega) (by omega)
        rw [e2] at e
        have p3 : 0 ≤ (lin f b - lin f a) * turn a p q := by grind
        exact nonneg_of_mul (by omega) p3
      · have e1 := h b rfl q hq hqb
        have e := plu f p a b q
        -- (fa - fp) * turn p b q + (fb - fp) * turn p q a + (fq - fp) * turn p a b = 0
        have e2 : turn p b q = - turn b p q := turn_swap _ _ _
        have e3 : turn p q a = turn a p q := by rw [turn_cyc a p q]
        have e4 : turn p a b = turn a b p := by rw [turn_cyc p a b]
        rw [e2, e3, e4] at e
        have p1 : 0 ≤ (lin f p - lin f a) * turn b p q := Int.mul_nonneg (by omega) e1
        have p2 : 0 ≤ (lin f p - lin f q) * (- turn a b p) := Int.mul_nonneg (by omega) (by omega)
        have p3 : 0 ≤ (lin f p - lin f b) * turn a p q := by grind
        exact nonneg_of_mul (by omega) p3
    · exact h
theorem popB_top (p : Pt) : ∀ st b a r, popB p st = b :: a :: r → 0 < turn a b p
  | [], _, _, _, h => by simp [popB] at h
  | [x], _, _, _, h => by simp [popB] at h
  | y :: x :: r, b, a, r', h => by
    unfold popB at h
    split at h
    · exact popB_top p (x :: r) b a r' h
    · rename_i hn
      simp at h; obtain ⟨rfl, rfl, rfl⟩ := h; omega
theorem edges_to {f p : Pt} : ∀ (st : List Pt), st.Pairwise (fun x y => lin f y < lin f x) → (∀ c b a pre post, st = pre ++ c :: b :: a :: post → 0 < turn a b c) → (∀ x ∈ st, lin f x < lin f p) →
    (∀ b a r, st = b :: a :: r → 0 < turn a b p) → ∀ b a, Adj st b a → 0 < turn a b p
  | [], _, _, _, _, b, a, h => by obtain ⟨pre, post, e⟩ := h; simp at e
  | [x], _, _, _, _, b, a, h => by
    obtain ⟨pre, post, e⟩ := h
    have := congrArg List.length e; simp at this; omega
  | y :: x :: r, hd, hc, hp, ht, b, a, h => by
    rcases h.cons_cases with ⟨rfl, e⟩ | h'
    · simp at e; subst e; exact ht _ _ _ rfl
    · refine edges_to (x :: r) (List.pairwise_cons.mp hd).2 (fun c b a pre post e => hc c b a (y :: pre) post (by rw [e]; rfl)) (fun z hz => hp z (by simp [hz])) ?_ b a h'
      intro b' a' r' e
      simp at e; obtain ⟨rfl, rfl⟩ := e
      have k1 := hc y x a' [] r' rfl
      have k2 := ht y x _ rfl
      have d1 := List.pairwise_cons.mp hd
      have d2 := List.pairwise_cons.mp d1.2
      exact far_turn (f := f) (d2.1 a' (by simp)) (d1.1 x (by simp)) (hp y (by simp)) k1 k2
theorem Stk.step {f p : Pt} {st dn : List Pt} (S : Stk f st dn) (hp : ∀ q ∈ dn, lin f q < lin f p) : Stk f (p :: popB p st) (dn ++ [p]) := by
  have suf := popB_suffix p st
  have hsub : ∀ x ∈ popB p st, x ∈ dn := fun x hx => S.sub x (suf.subset hx)
  have hdec : (popB p st).Pairwise (fun x y => lin f y < lin f x) := S.dec.sublist suf.sublist
  have hcvx : ∀ c b a pre post, popB p st = pre ++ c :: b :: a :: post → 0 < turn a b c := fun c b a pre post e => by
    obtain ⟨t, ht⟩ := suf
    exact S.cvx c b a (t ++ pre) post (by rw [← ht, e]; simp)
  have hadj : ∀ b a, Adj (popB p st) b a → Adj st b a := fun b a ⟨pre, post, e⟩ => by
    obtain ⟨t, ht⟩ := suf
    exact ⟨t ++ pre, post, by rw [← ht, e]; simp⟩
  have hedge := edges_to (f := f) (p := p) (popB p st) hdec hcvx (fun x hx => hp x (hsub x hx)) (fun b a r e => popB_top p st b a r e)
  have tan0 : Tan f p st dn := fun t ht q hq hle => by
    rcases S.top q hq t ht with h1 | h1
    · subst h1; rw [turn_same]; exact Int.le_refl _
    · omega
  have tan := pop_tan hp st S.dec S.edge S.sub tan0
  refine ⟨List.pairwise_cons.mpr ⟨fun x hx => hp x (hsub x hx), hdec⟩, fun c b a pre post e => ?_, fun b a h q hq => ?_, fun x hx => ?_, fun q hq x hx => ?_, fun _ => by simp, fun q hq x hx => ?_⟩
  · cases pre with
    | nil => simp at e; obtain ⟨rfl, e⟩ := e; exact popB_top p st b a post e
    | cons y pre => simp at e; exact hcvx c b a pre post e.2
  · rcases List.mem_append.mp hq with hq1 | hq
    · rcases h.cons_cases with ⟨rfl, e⟩ | h'
      · -- the new edge, a its tail
        rcases Int.lt_or_le (lin f q) (lin f a) with hlt | hle
        · obtain ⟨r, hr⟩ : ∃ r, popB b st = a :: r := by
            cases e' : popB b st with
            | nil => rw [e'] at e; simp at e
            | cons z r => rw [e'] at e; simp at e; subst e; exact ⟨r, rfl⟩
          cases r with
          | nil =>
            have hl : st.getLast? = some a := by rw [← suffix_getLast suf (by rw [hr]; simp), hr]; rfl
            have := S.bot q hq1 a hl
            omega
          | cons z r =>
            have k1 := popB_top b st a z r hr
            have k2 := S.edge a z (hadj a z ⟨[], r, hr⟩) q hq1
            have d : lin f z < lin f a := by rw [hr] at hdec; exact (List.pairwise_cons.mp hdec).1 z (by simp)
            have hab : lin f a < lin f b := hp a (hsub a (by rw [hr]; simp))
            have e := plu f a z b q
            have e2 : turn a q z = turn z a q := by rw [turn_cyc z a q]
            have e3 : turn a z b = - turn z a b := turn_swap _ _ _
            rw [e2, e3] at e
            have p1 : 0 ≤ (lin f b - lin f a) * turn z a q := Int.mul_nonneg (by omega) k2
            have p2 : 0 ≤ (lin f a - lin f q) * turn z a b := Int.mul_nonneg (by omega) (by omega)
            have p3 : 0 ≤ (lin f a - lin f z) * turn a b q := by grind
            exact nonneg_of_mul (by omega) p3
        · exact tan a e q hq1 hle
      · exact S.edge b a (hadj b a h') q hq1
    · simp at hq; subst hq
      rcases h.cons_cases with ⟨rfl, e⟩ | h'
      · rw [turn_same']; exact Int.le_refl _
      · exact Int.le_of_lt (hedge b a h')
  · rcases List.mem_cons.mp hx with rfl | hx
    · simp
    · exact List.mem_append_left _ (hsub x hx)
  · by_cases hs : st = []
    · subst hs
      have hdn : dn = [] := by
        cases dn with
        | nil => rfl
        | cons z r => exact absurd rfl (S.ne (by simp))
      subst hdn
      simp [popB] at hx
      simp at hq
      subst hq; subst hx; exact Int.le_refl _
    · have hn := popB_ne p st hs
      have hl : (p :: popB p st).getLast? = st.getLast? := by
        rw [← suffix_getLast suf hn, List.getLast?_cons]
        cases e' : (popB p st).getLast? with
        | none => simp at e'; exact absurd e' hn
        | some z => rfl
      rw [hl] at hx
      rcases List.mem_append.mp hq with hq | hq
      · exact S.bot q hq x hx
      · simp at hq; subst hq
        exact Int.le_of_lt (hp x (S.sub x (List.mem_of_getLast? hx)))
  · simp at hx; subst hx
    rcases List.mem_append.mp hq with hq | hq
    · exact .inr (hp q hq)
    · simp at hq; exact .inl hq
theorem Stk.nil (f : Pt) : Stk f [] [] := ⟨.nil, fun c b a pre post e => by simp at e, fun b a ⟨pre, post, e⟩ => by simp at e, fun x hx => hx, fun q hq => by simp at hq, fun h => absurd rfl h, fun q hq => by simp at hq⟩
theorem Stk.run {f : Pt} : ∀ (ps st dn : List Pt), Stk f st dn → (dn ++ ps).Pairwise (fun x y => lin f x < lin f y) → Stk f (sideRev st ps) (dn ++ ps)
  | [], st, dn, S, _ => by simpa [sideRev] using S
  | p :: r, st, dn, S, h => by
    have h' : (dn ++ [p] ++ r).Pairwise (fun x y => lin f x < lin f y) := by simpa using h
    have q := Stk.run r (p :: popB p st) (dn ++ [p]) (S.step fun q hq => (List.pairwise_append.mp h).2.2 q hq p (by simp)) h'
    simpa [sideRev] using q
structure Chn (f : Pt) (c S : List Pt) : Prop where
  inc : c.Pairwise (fun x y => lin f x < lin f y)
  cvx : ∀ x y z pre post, c = pre ++ x :: y :: z :: post → 0 < turn x y z
  edge : ∀ a b, Adj c a b → ∀ q ∈ S, 0 ≤ turn a b q
  sub : ∀ x ∈ c, x ∈ S
  first : c.head? = S.head?
  last : c.getLast? = S.getLast?
theorem inc_get {f : Pt} {c : List Pt} (h : c.Pairwise (fun x y => lin f x < lin f y)) {pre post : List Pt} {x y : Pt} (e : c = pre ++ x :: post) (hy : y ∈ post) : lin f x < lin f y := by
  subst e
  exact (List.pairwise_cons.mp (List.pairwise_append.mp h).2.1).1 y hy
theorem Chn.later {f : Pt} {c S : List Pt} (C : Chn f c S) : ∀ (post pre : List Pt) (a b q : Pt), c = pre ++ a :: b :: post → q ∈ post → 0 < turn a b q
  | [], _, _, _, _, _, h => by simp at h
  | z :: post, pre, a, b, q, e, hq => by
    have k1 := C.cvx a b z pre post e
    rcases List.mem_cons.mp hq with rfl | hq
    · exact k1
    · have e2 : c = (pre ++ [a]) ++ b :: z :: post := by rw [e]; simp
      have k2 := C.later post (pre ++ [a]) b z q e2 hq
      have o1 := inc_get C.inc e (y := b) (by simp)
      have o2 := inc_get C.inc e2 (y := z) (by simp)
      have o3 := inc_get C.inc (show c = (pre ++ [a, b]) ++ z :: post by rw [e]; simp) hq
      exact far_turn o1 o2 o3 k1 k2
theorem Chn.earlier {f : Pt} {c S : List Pt} (C : Chn f c S) : ∀ (mid pre : List Pt) (q a b : Pt) (post : List Pt), c = pre ++ q :: mid ++ a :: b :: post → 0 < turn q a b := by
  intro mid
  induction mid with
  | nil => intro pre q a b post e; exact C.cvx q a b pre post (by rw [e]; simp)
  | cons m mid ih =>
    intro pre q a b post e
    have k1 : 0 < turn m a b := ih (pre ++ [q]) m a b post (by rw [e]; simp)
    have k2 : 0 < turn q m a := by
      refine C.later (mid ++ a :: b :: post) pre q m a (by rw [e]; simp) (by simp)
    have o1 := inc_get C.inc (show c = pre ++ q :: (m :: mid ++ a :: b :: post) by rw [e]; simp) (y := m) (by simp)
    have o2 := inc_get C.inc (show c = (pre ++ [q]) ++ m :: (mid ++ a :: b :: post) by rw [e]; simp) (y := a) (by simp)
    have o3 := inc_get C.inc (show c = (pre ++ q :: m :: mid) ++ a :: b :: post from e) (y := b) (by simp)
    have := back_turn o1 o2 o3 k2 k1
    rw [turn_cyc]; exact this
theorem Chn.mid {f : Pt} {c S : List Pt} (C : Chn f c S) {q a z : Pt} {pre post : List Pt} (e : c = q :: pre ++ a :: post ++ [z]) : 0 < turn q a z := by
  cases post with
  | nil => exact C.earlier pre [] q a z [] (by rw [e]; simp)
  | cons b post =>
    have k1 : 0 < turn q a b := C.earlier pre [] q a b (post ++ [z]) (by rw [e]; simp)
    have k2 : 0 < turn a b z := C.later (post ++ [z]) (q :: pre) a b z (by rw [e]; simp) (by simp)
    have o1 := inc_get C.inc (show c = [] ++ q :: (pre ++ a :: b :: post ++ [z]) by rw [e]; simp) (y := a) (by simp)
    have o2 := inc_get C.inc (show c = (q :: pre) ++ a :: (b :: post ++ [z]) by rw [e]; simp) (y := b) (by simp)
    have o3 := inc_get C.inc (show c = (q :: pre ++ [a]) ++ b :: (post ++ [z]) by rw [e]; simp) (y := z) (by simp)
    exact far_turn o1 o2 o3 k1 k2
def wrt (l : Int × Int × Int) (p : Pt) : Int := l.1 * p.1 + l.2.1 * p.2 + l.2.2
def hullR (S : List Pt) : List Pt := if S.length < 2 then S else (sideOf S).dropLast ++ (sideOf S.reverse).dropLast
structure Two (f : Pt) (S : List Pt) (a z : Pt) (Lx Ux : List Pt) : Prop where
  lo : Chn f (a :: Lx ++ [z]) S
  up : Chn (-f.1, -f.2) (z :: Ux ++ [a]) S.reverse
  out : hullR S = a :: Lx ++ z :: Ux
  fst : S.head? = some a
  lst : S.getLast? = some z
  lt : lin f a < lin f z
  inc : S.Pairwise (fun x y => lin f x < lin f y)
section
variable {f : Pt} {S : List Pt} {a z : Pt} {Lx Ux : List Pt}
theorem Two.sub (T : Two f S a z Lx Ux) : ∀ x ∈ hullR S, x ∈ S := fun x hx => by
  rw [T.out] at hx
  rcases List.mem_append.mp hx with h | h
  · exact T.lo.sub x (by rcases List.mem_cons.mp h with h | h <;> simp [h])
  · have := T.up.sub x (by rcases List.mem_cons.mp h with h | h <;> simp [h])
    simpa using this
theorem Two.low (T : Two f S a z Lx Ux) : ∀ q ∈ S, q ≠ a → lin f a < lin f q := fun q hq hn => by
  have h1 := T.fst
  cases S with
  | nil => simp at h1
  | cons x r =>
    simp at h1; subst h1
    rcases List.mem_cons.mp hq with h | h
    · exact absurd h hn
    · exact (List.pairwise_cons.mp T.inc).1 q h
def Rnd (R : List Pt) (x y : Pt) : Prop := Adj R x y ∨ (R.getLast? = some x ∧ R.head? = some y)
theorem adj_append {l m : List Pt} {z x y : Pt} (h : Adj (l ++ z :: m) x y) : Adj (l ++ [z]) x y ∨ Adj (z :: m) x y := by
  induction l with
  | nil => exact .inr h
  | cons a r ih =>
    rcases h.cons_cases with ⟨rfl, e⟩ | h'
    · left
      cases r with
      | nil => simp at e; subst e; exact ⟨[], [], rfl⟩
      | cons b r => simp at e; subst e; exact ⟨[], r ++ [z], rfl⟩
    · rcases ih h' with h' | h'
      · exact .inl h'.cons
      · exact .inr h'
theorem Adj.snoc {l : List Pt} {x y w : Pt} (h : Adj l x y) : Adj (l ++ [w]) x y := by
  obtain ⟨pre, post, rfl⟩ := h; exact ⟨pre, post ++ [w], by simp⟩
theorem adj_last {l : List Pt} {x y : Pt} (h : l.getLast? = some x) : Adj (l ++ [y]) x y := by
  obtain ⟨m, rfl⟩ := List.getLast?_eq_some_iff.mp h
  exact ⟨m, [], by simp⟩
theorem Two.rnd (T : Two f S a z Lx Ux) {x y : Pt} (h : Rnd (hullR S) x y) : Adj (a :: Lx ++ [z]) x y ∨ Adj (z :: Ux ++ [a]) x y := by
  rw [T.out] at h
  rcases h with h | ⟨h1, h2⟩
  · rcases adj_append h with h | h
    · exact .inl h
    · exact .inr h.snoc
  · right
    simp at h2; subst h2
    rw [List.getLast?_append] at h1
    have h1' : (z :: Ux).getLast? = some x := by
      cases e : (z :: Ux).getLast? with
      | none => simp at e
      | some w => rw [e] at h1; simpa using h1
    exact adj_last h1'
theorem Two.left (T : Two f S a z Lx Ux) {x y : Pt} (h : Rnd (hullR S) x y) : ∀ q ∈ S, 0 ≤ turn x y q := fun q hq => by
  rcases T.rnd h with h | h
  · exact T.lo.edge x y h q hq
  · exact T.up.edge x y h q (by simpa using hq)
theorem Two.fan (T : Two f S a z Lx Ux) {x y : Pt} (h : Adj (Lx ++ z :: Ux) x y) : 0 < turn a x y := by
  rcases adj_append h with ⟨pre, post, e⟩ | ⟨pre, post, e⟩
  · exact T.lo.earlier pre [] a x y post (by rw [List.cons_append, e]; simp)
  · have := T.up.later (post ++ [a]) pre x y a (by rw [e]; simp) (by simp)
    rw [turn_cyc]; exact this
end
theorem fan_find {o p : Pt} : ∀ (l : List Pt) (b : Pt), (∀ x y, Adj (b :: l) x y → 0 < turn o x y ∧ 0 ≤ turn x y p) → 0 ≤ turn o b p → l ≠ [] → (∀ w, (b :: l).getLast? = some w → turn o w p ≤ 0) →
    ∃ x y, Adj (b :: l) x y ∧ 0 ≤ turn o x p ∧ 0 ≤ turn x y p ∧ turn o y p ≤ 0 ∧ 0 < turn o x y
  | [], _, _, _, h, _ => absurd rfl h
  | c :: l, b, he, hb, _, hw => by
    have e := he b c ⟨[], l, rfl⟩
    rcases Int.lt_or_le 0 (turn o c p) with h | h
    · cases l with
      | nil =>
        have := hw c (by simp)
        omega
      | cons d l =>
        obtain ⟨x, y, h1, h2⟩ := fan_find (d :: l) c (fun x y h => he x y h.cons) (Int.le_of_lt h) (by simp) (fun w hw' => hw w (by rw [List.getLast?_cons_cons]; exact hw'))
        exact ⟨x, y, h1.cons, h2⟩
    · exact ⟨b, c, ⟨[], l, rfl⟩, hb, e.2, h, e.1⟩
end Geo
namespace Geo
def InTwo (a b p : Pt) : Prop := turn a b p = 0 ∧ min a.1 b.1 ≤ p.1 ∧ p.1 ≤ max a.1 b.1 ∧ min a.2 b.2 ≤ p.2 ∧ p.2 ≤ max a.2 b.2
def InThree (a b c p : Pt) : Prop := turn a b c ≠ 0 ∧ ((0 ≤ turn a b p ∧ 0 ≤ turn b c p ∧ 0 ≤ turn c a p) ∨ (turn a b p ≤ 0 ∧ turn b c p ≤ 0 ∧ turn c a p ≤ 0))
def Within (ps : List Pt) (p : Pt) : Prop := ∃ (a : Nat) (x : Pt), ps[a]? = some x ∧ (x = p ∨ ∃ (b : Nat) (y : Pt), b < a ∧ ps[b]? = some y ∧ (InTwo x y p ∨ ∃ (c : Nat) (w : Pt), c < b ∧ ps[c]? = some w ∧ InThree x y w p))
theorem InTwo.symm {a b p : Pt} (h : InTwo a b p) : InTwo b a p := by
  obtain ⟨h1, h2, h3, h4, h5⟩ := h
  exact ⟨by rw [turn_swap]; omega, by omega, by omega, by omega, by omega⟩
theorem InTwo.same {a p : Pt} (h : InTwo a a p) : a = p := by
  obtain ⟨h1, h2, h3, h4, h5⟩ := h
  exact Prod.ext (by omega) (by omega)
theorem two_of_line {f a z p : Pt} (ht : turn a z p = 0) (h1 : lin f a ≤ lin f p) (h2 : lin f p ≤ lin f z) (h3 : lin f a < lin f z) : InTwo a z p := by
  have k1 : (lin f z - lin f a) * (p.1 - a.1) = (lin f p - lin f a) * (z.1 - a.1) := by
    have e : (lin f z - lin f a) * (p.1 - a.1) = (lin f p - lin f a) * (z.1 - a.1) - f.2 * turn a z p := by unfold lin turn; grind
    rw [e, ht]; simp
  have k2 : (lin f z - lin f a) * (p.2 - a.2) = (lin f p - lin f a) * (z.2 - a.2) := by
    have e : (lin f z - lin f a) * (p.2 - a.2) = (lin f p - lin f a) * (z.2 - a.2) + f.1 * turn a z p := by unfold lin turn; grind
    rw [e, ht]; simp
  have btw : ∀ {N M x y w : Int}, 0 < N → 0 ≤ M → M ≤ N → N * (y - x) = M * (w - x) → min x w ≤ y ∧ y ≤ max x w := fun {N M x y w} hN hM hMN e => by
    have e2 : N * (w - y) = (N - M) * (w - x) := by grind
    rcases Int.lt_or_le w x with c | c
    · have q1 : 0 ≤ M * (x - w) := Int.mul_nonneg hM (by omega)
      have q2 : 0 ≤ (N - M) * (x - w) := Int.mul_nonneg (by omega) (by omega)
      have q3 : 0 ≤ N * (x - y) := by grind
      have q4 : 0 ≤ N * (y - w) := by grind
      have := nonneg_of_mul hN q3
      have := nonneg_of_mul hN q4
      omega
    · have q1 : 0 ≤ M * (w - x) := Int.mul_nonneg hM (by omega)
      have q2 : 0 ≤ (N - M) * (w - x) := Int.mul_nonneg (by omega) (by omega)
      have := nonneg_of_mul hN (show 0 ≤ N * (y - x) by omega)
      have := nonneg_of_mul hN (show 0 ≤ N * (w - y) by omega)
      omega
  have b1 := btw (by omega) (by omega) (by omega) k1
  have b2 := btw (by omega) (by omega) (by omega) k2
  exact ⟨ht, b1.1, b1.2, b2.1, b2.2⟩
theorem Two.holds {f : Pt} {S : List Pt} {a z : Pt} {Lx Ux : List Pt} (T : Two f S a z Lx Ux) {p : Pt} (h : ∀ x y, Rnd (hullR S) x y → 0 ≤ turn x y p) (hl : Lx ++ z :: Ux = [z] → lin f a ≤ lin f p ∧ lin f p ≤ lin f z) :
    (hullR S = [a, z] ∧ InTwo a z p) ∨ ∃ x y, Adj (Lx ++ z :: Ux) x y ∧ 0 ≤ turn a x p ∧ 0 ≤ turn x y p ∧ turn a y p ≤ 0 ∧ 0 < turn a x y := by
  have out := T.out
  rw [List.cons_append] at out
  cases e : Lx ++ z :: Ux with
  | nil => simp at e
  | cons b l =>
    rw [e] at out
    have hlast : ∀ w, (b :: l).getLast? = some w → turn a w p ≤ 0 := fun w hw => by
      have := h w a (.inr ⟨by rw [out, List.getLast?_cons_cons]; exact hw, by rw [out]; rfl⟩)
      rw [turn_swap] at this; omega
    have hfirst : 0 ≤ turn a b p := h a b (.inl ⟨[], l, by rw [out]; rfl⟩)
    cases l with
    | nil =>
      left
      have hz : b = z ∧ Lx = [] ∧ Ux = [] := by
        cases Lx with
        | nil => simp at e; exact ⟨e.1.symm, rfl, e.2⟩
        | cons c r => simp at e
      obtain ⟨rfl, rfl, rfl⟩ := hz
      refine ⟨out, two_of_line (f := f) ?_ (hl rfl).1 (hl rfl).2 T.lt⟩
      have := hlast b rfl
      omega
    | cons c l =>
      right
      refine fan_find (c :: l) b (fun x y hxy => ⟨?_, h x y (.inl (by rw [out]; exact hxy.cons))⟩) hfirst (by simp) hlast
      exact T.fan (by rw [e]; exact hxy)
end Geo
namespace Geo
def ltP (p q : Pt) : Bool := decide (p.1 < q.1) || (decide (p.1 = q.1) && decide (p.2 < q.2))
def leP (p q : Pt) : Bool := !ltP q p
theorem ltP_iff {p q : Pt} : ltP p q = true ↔ p.1 < q.1 ∨ (p.1 = q.1 ∧ p.2 < q.2) := by unfold ltP; simp
theorem leP_iff {p q : Pt} : leP p q = true ↔ p.1 < q.1 ∨ (p.1 = q.1 ∧ p.2 ≤ q.2) := by
  unfold leP
  rw [Bool.not_eq_true', Bool.eq_false_iff, Ne, ltP_iff]; omega
def sortP (xs : List Pt) : List Pt := xs.mergeSort leP
def dedP : List Pt → List Pt
  | [] => []
  | x :: r => x :: (dedP r).filter (fun y => decide (y ≠ x))
def Bd (p : Pt) : Prop := -1000 ≤ p.1 ∧ p.1 ≤ 1000 ∧ -1000 ≤ p.2 ∧ p.2 ≤ 1000
def Bd2 (p : Pt) : Prop := -2000 ≤ p.1 ∧ p.1 ≤ 2000 ∧ -2000 ≤ p.2 ∧ p.2 ≤ 2000
def Bw (p : Pt) : Prop := -4611686018427387904 ≤ p.1 ∧ p.1 ≤ 4611686018427387904 ∧ -4611686018427387904 ≤ p.2 ∧ p.2 ≤ 4611686018427387904
theorem Bd.two {p : Pt} (h : Bd p) : Bd2 p := by unfold Bd at h; unfold Bd2; omega
theorem Bd2.w {p : Pt} (h : Bd2 p) : Bw p := by unfold Bd2 at h; unfold Bw; omega
theorem Bd.w {p : Pt} (h : Bd p) : Bw p := h.two.w
def others (ps : List Pt) (p : Pt) : List Pt := ps.filter (fun q => decide (q ≠ p))
structure RightP (R ps : List Pt) : Prop where
  nd : R.Nodup
  mem : ∀ x, x ∈ R ↔ x ∈ ps ∧ ¬ Within (others ps x) x
  fst : R.take 1 = (sortP R).take 1
  left : ∀ x y, Rnd R x y → ∀ q ∈ ps, 0 ≤ turn x y q
end Geo
set_option maxRecDepth 100000
namespace Geo
abbrev Ln := Int × Int × Int
def InHull (ps : List Pt) (p : Pt) : Prop := ∀ l : Ln, (∀ q ∈ ps, 0 ≤ wrt l q) → 0 ≤ wrt l p
def Out (ps : List Pt) (p : Pt) (l : Ln) : Prop := wrt l p < 0 ∧ ∀ q ∈ ps, 0 ≤ wrt l q
theorem Out.not {ps : List Pt} {p : Pt} {l : Ln} (h : Out ps p l) : ¬ InHull ps p := fun k => by have := k l h.2; have := h.1; omega
theorem InHull.mem {ps : List Pt} {p : Pt} (h : p ∈ ps) : InHull ps p := fun _ k => k p h
theorem InHull.sub {ps qs : List Pt} {p : Pt} (h : InHull ps p) (s : ∀ q ∈ ps, InHull qs q) : InHull qs p := fun l k => h l fun q hq => s q hq l k
theorem InHull.congr {ps qs : List Pt} {p : Pt} (h : ∀ q, q ∈ ps ↔ q ∈ qs) : InHull ps p ↔ InHull qs p :=
  ⟨fun k => k.sub fun q hq => .mem ((h q).mp hq), fun k => k.sub fun q hq => .mem ((h q).mpr hq)⟩
def along (a b : Pt) : Ln := (a.2 - b.2, b.1 - a.1, a.1 * b.2 - a.2 * b.1)
def across (a b : Pt) : Ln := (b.1 - a.1, b.2 - a.2, -(b.1 - a.1) * b.1 - (b.2 - a.2) * b.2)
theorem wrt_along (a b p : Pt) : wrt (along a b) p = turn a b p := by unfold wrt along turn; dsimp only; grind
def rot1 (R : List Pt) : List Pt := R.drop 1 ++ R.take 1
def edgesM (R : List Pt) : List Ln := (R.zip (rot1 R)).map fun e => along e.1 e.2
def frontsM (R : List Pt) (p : Pt) : List Ln := R.map fun e => across p e
def NoShut (R : List Pt) (p : Pt) : Prop := R ≠ [] ∧ ∀ l ∈ edgesM R ++ frontsM R p, ¬ Out R p l
theorem rnd_edge {R : List Pt} {x y : Pt} (h : Rnd R x y) : along x y ∈ edgesM R := by
  unfold edgesM
  refine List.mem_map.mpr ⟨(x, y), ?_, rfl⟩
  rcases h with ⟨pre, post, e⟩ | ⟨e1, e2⟩
  · subst e
    refine List.mem_iff_getElem?.mpr ⟨pre.length, ?_⟩
    rw [List.getElem?_zip_eq_some]
    refine ⟨by simp, ?_⟩
    unfold rot1
    cases pre with
    | nil => simp
    | cons c r => simp
  · cases R with
    | nil => simp at e2
    | cons c r =>
      simp at e2; subst e2
      refine List.mem_iff_getElem?.mpr ⟨r.length, ?_⟩
      rw [List.getElem?_zip_eq_some]
      refine ⟨?_, ?_⟩
      · rw [List.getLast?_eq_getElem?] at e1; simpa using e1
      · unfold rot1; simp
theorem NoShut.left {S : List Pt} {p : Pt} {f : Pt} {a z : Pt} {Lx Ux : List Pt} (T : Two f S a z Lx Ux) (h : NoShut (hullR S) p) : ∀ x y, Rnd (hullR S) x y → 0 ≤ turn x y p := fun x y hxy => by
  rcases Int.lt_or_le (turn x y p) 0 with k | k
  · refine absurd ⟨by rw [wrt_along]; exact k, fun q hq => ?_⟩ (h.2 (along x y) (List.mem_append_left _ (rnd_edge hxy)))
    rw [wrt_along]; exact T.left hxy q (T.sub q hq)
  · exact k
structure ShOk (R : List Pt) (p : Pt) (sh : List (Pt × Int)) : Prop where
  len : sh.length ≤ 3
  nd : (sh.map (·.1)).Nodup
  mem : ∀ e ∈ sh, e.1 ∈ R
  nn : ∀ e ∈ sh, 0 ≤ e.2
  pos : 0 < (sh.map (·.2)).sum
  lt : (sh.map (·.2)).sum ≤ 64000000
  x : (sh.map fun e => e.2 * e.1.1).sum = (sh.map (·.2)).sum * p.1
  y : (sh.map fun e => e.2 * e.1.2).sum = (sh.map (·.2)).sum * p.2
theorem ShOk.line {R : List Pt} {p : Pt} {sh : List (Pt × Int)} (h : ShOk R p sh) (l : Ln) : (sh.map fun e => e.2 * wrt l e.1).sum = (sh.map (·.2)).sum * wrt l p := by
  have go : ∀ sh : List (Pt × Int), (sh.map fun e => e.2 * wrt l e.1).sum = l.1 * (sh.map fun e => e.2 * e.1.1).sum + l.2.1 * (sh.map fun e => e.2 * e.1.2).sum + l.2.2 * (sh.map (·.2)).sum := fun sh => by
    induction sh with
    | nil => simp
    | cons e r ih => simp only [List.map_cons, List.sum_cons, ih]; unfold wrt; grind
  rw [go, h.x, h.y]; unfold wrt; grind
end Geo
set_option maxRecDepth 100000
namespace Geo
theorem gcd_step {a b : Int} (ha : 0 ≤ a) (hb : 0 < b) : Int.gcd b (a % b) = Int.gcd a b := by
  obtain ⟨m, rfl⟩ := Int.eq_ofNat_of_zero_le ha
  obtain ⟨n, rfl⟩ := Int.eq_ofNat_of_zero_le (Int.le_of_lt hb)
  show Nat.gcd n (Int.natAbs ((m : Int) % (n : Int))) = Nat.gcd m n
  rw [← Int.natCast_emod, Int.natAbs_natCast, Nat.gcd_comm m n, Nat.gcd_rec n m, Nat.gcd_comm]
theorem gcd_zero {a : Int} (ha : 0 ≤ a) : ((Int.gcd a 0 : Nat) : Int) = a := by simp; omega
theorem gcd_pos {a b : Int} (h : 0 < b) : 0 < Int.gcd a b := Int.gcd_pos_of_ne_zero_right _ (by omega)
abbrev Tri := Int × Int × Int
def ptAt (ps : List Pt) (n : Int) : Pt := ps.getD n.toNat (0, 0)
structure Acc where
  x : Int
  y : Int
  n : Int
  b : Int
def Acc.step (ps : List Pt) (c : Acc) (t : Tri) : Acc := ⟨c.x * t.2.2 + (ptAt ps t.1).1 * t.2.1 * c.b, c.y * t.2.2 + (ptAt ps t.1).2 * t.2.1 * c.b, c.n * t.2.2 + 1 * t.2.1 * c.b, c.b * t.2.2⟩
def accM (ps : List Pt) (tri : List Tri) : Acc := tri.foldl (Acc.step ps) ⟨0, 0, 0, 1⟩
structure WOk (ps : List Pt) (tri : List Tri) (spot : Tri) : Prop where
  len : 1 ≤ tri.length ∧ tri.length ≤ 3
  part : ∀ t ∈ tri, 0 < t.2.1 ∧ 0 < t.2.2 ∧ Int.gcd t.2.1 t.2.2 = 1 ∧ t.2.1 ≤ 64000000 ∧ t.2.2 ≤ 64000000
  ix : ∀ t ∈ tri, 0 ≤ t.1 ∧ t.1 < ps.length
  inc : tri.Pairwise fun s t => s.1 < t.1
  one : (accM ps tri).n = (accM ps tri).b
  px : (accM ps tri).x * spot.2.2 = spot.1 * (accM ps tri).b
  py : (accM ps tri).y * spot.2.2 = spot.2.1 * (accM ps tri).b
structure PrOk (ps : List Pt) (prs : List Pt) (spot : Tri) : Prop where
  len : prs.length ≤ 3
  nd : (prs.map (·.1)).Nodup
  ix : ∀ q ∈ prs, 0 ≤ q.1 ∧ q.1 < ps.length
  nn : ∀ q ∈ prs, 0 ≤ q.2
  pos : 0 < (prs.map (·.2)).sum
  lt : (prs.map (·.2)).sum ≤ 64000000
  x : (prs.map fun q => q.2 * (ptAt ps q.1).1).sum * spot.2.2 = spot.1 * (prs.map (·.2)).sum
  y : (prs.map fun q => q.2 * (ptAt ps q.1).2).sum * spot.2.2 = spot.2.1 * (prs.map (·.2)).sum
end Geo
set_option maxRecDepth 100000
namespace Geo
def addP : List Pt → Int → Int → List Pt
  | [], n, s => [(n, 0 + s)]
  | q :: r, n, s => if q.1 = n then (q.1, q.2 + s) :: r else q :: addP r n s
theorem addP_sum (f : Int → Int) (n s : Int) : ∀ acc : List Pt, ((addP acc n s).map fun q => q.2 * f q.1).sum = (acc.map fun q => q.2 * f q.1).sum + s * f n
  | [] => by simp [addP]
  | q :: r => by
    unfold addP
    by_cases h : q.1 = n
    · rw [if_pos h]; simp only [List.map_cons, List.sum_cons]; rw [h]; grind
    · rw [if_neg h]; simp only [List.map_cons, List.sum_cons, addP_sum f n s r]; omega
theorem addP_keys (n s : Int) : ∀ acc : List Pt, ∀ k, k ∈ (addP acc n s).map (·.1) ↔ k = n ∨ k ∈ acc.map (·.1)
  | [], k => by simp [addP]
  | q :: r, k => by
    unfold addP
    by_cases h : q.1 = n
    · rw [if_pos h]; simp only [List.map_cons, List.mem_cons, h]
      constructor
      · intro z; exact .inr z
      · rintro (z | z)
        · exact .inl z
        · exact z
    · rw [if_neg h]; simp only [List.map_cons, List.mem_cons, addP_keys n s r k]
      constructor
      · rintro (z | z | z)
        · exact .inr (.inl z)
        · exact .inl z
        · exact .inr (.inr z)
      · rintro (z | z | z)
        · exact .inr (.inl z)
        · exact .inl z
        · exact .inr (.inr z)
theorem addP_nd (n s : Int) : ∀ acc : List Pt, (acc.map (·.1)).Nodup → ((addP acc n s).map (·.1)).Nodup
  | [], _ => by simp [addP]
  | q :: r, h => by
    unfold addP
    by_cases e : q.1 = n
    · rw [if_pos e]; exact h
    · rw [if_neg e]
      rw [List.map_cons, List.nodup_cons] at h ⊢
      refine ⟨fun z => ?_, addP_nd n s r h.2⟩
      rcases (addP_keys n s r q.1).mp z with z | z
      · exact e z
      · exact h.1 z
theorem addP_nn {n s : Int} (hs : 0 ≤ s) : ∀ acc : List Pt, (∀ q ∈ acc, 0 ≤ q.2) → ∀ q ∈ addP acc n s, 0 ≤ q.2
  | [], _, q, hq => by simp [addP] at hq; rw [hq]; exact hs
  | p :: r, h, q, hq => by
    unfold addP at hq
    have hp := h p (by simp)
    by_cases e : p.1 = n
    · rw [if_pos e] at hq
      rcases List.mem_cons.mp hq with z | z
      · rw [z]; dsimp only; omega
      · exact h q (by simp [z])
    · rw [if_neg e] at hq
      rcases List.mem_cons.mp hq with z | z
      · rw [z]; exact hp
      · exact addP_nn hs r (fun q hq => h q (by simp [hq])) q z
theorem addP_len (n s : Int) : ∀ acc : List Pt, (addP acc n s).length ≤ acc.length + 1
  | [] => by simp [addP]
  | q :: r => by
    unfold addP
    by_cases e : q.1 = n
    · rw [if_pos e]; simp
    · rw [if_neg e]; have := addP_len n s r; simp; omega
structure AddOk (prs out : List Pt) : Prop where
  nd : (out.map (·.1)).Nodup
  len : out.length ≤ prs.length
  keys : ∀ k, k ∈ out.map (·.1) → k ∈ prs.map (·.1)
  sum : ∀ f : Int → Int, (out.map fun q => q.2 * f q.1).sum = (prs.map fun q => q.2 * f q.1).sum
  nn : (∀ q ∈ prs, 0 ≤ q.2) → ∀ q ∈ out, 0 ≤ q.2
theorem AddOk.nil : AddOk [] [] := ⟨by simp, by simp, by simp, by simp, by simp⟩
theorem AddOk.snoc {prs out : List Pt} (h : AddOk prs out) (q : Pt) : AddOk (prs ++ [q]) (addP out q.1 q.2) := by
  refine ⟨addP_nd _ _ _ h.nd, ?_, fun k hk => ?_, fun f => ?_, fun hn p hp => ?_⟩
  · have := addP_len q.1 q.2 out; have := h.len; simp; omega
  · rcases (addP_keys q.1 q.2 out k).mp hk with z | z
    · rw [z]; simp
    · have := h.keys k z; rw [List.map_append, List.mem_append]; exact .inl this
  · rw [addP_sum, h.sum, List.map_append, List.sum_append_int]; simp
  · exact addP_nn (hn q (by simp)) out (h.nn fun r hr => hn r (by simp [hr])) p hp
def gcd3 (t : Tri) : Nat := Int.gcd (Int.gcd t.1 t.2.1 : Nat) t.2.2
def lowM (t : Tri) : Tri := (t.1 / (gcd3 t : Nat), t.2.1 / (gcd3 t : Nat), t.2.2 / (gcd3 t : Nat))
theorem gcd3_dvd (t : Tri) : ((gcd3 t : Nat) : Int) ∣ t.1 ∧ ((gcd3 t : Nat) : Int) ∣ t.2.1 ∧ ((gcd3 t : Nat) : Int) ∣ t.2.2 := by
  have h1 : ((gcd3 t : Nat) : Int) ∣ ((Int.gcd t.1 t.2.1 : Nat) : Int) := Int.gcd_dvd_left _ _
  exact ⟨Int.dvd_trans h1 (Int.gcd_dvd_left _ _), Int.dvd_trans h1 (Int.gcd_dvd_right _ _), Int.gcd_dvd_right _ _⟩
theorem lowM_mul (t : Tri) : (lowM t).1 * (gcd3 t : Nat) = t.1 ∧ (lowM t).2.1 * (gcd3 t : Nat) = t.2.1 ∧ (lowM t).2.2 * (gcd3 t : Nat) = t.2.2 := by
  obtain ⟨h1, h2, h3⟩ := gcd3_dvd t
  exact ⟨Int.ediv_mul_cancel h1, Int.ediv_mul_cancel h2, Int.ediv_mul_cancel h3⟩
structure SpOk (t : Tri) : Prop where
  pos : 0 < t.2.2
  low : gcd3 t = 1
theorem lowM_ok {t : Tri} (h : 0 < t.2.2) : SpOk (lowM t) := by
  have hg : 0 < gcd3 t := gcd_pos h
  have hg' : (0 : Int) < (gcd3 t : Nat) := by omega
  obtain ⟨d1, d2, d3⟩ := gcd3_dvd t
  refine ⟨Int.ediv_pos_of_pos_of_dvd h (by omega) d3, ?_⟩
  have e1 : Int.gcd (t.1 / (gcd3 t : Nat)) (t.2.1 / (gcd3 t : Nat)) = Int.gcd t.1 t.2.1 / gcd3 t := by
    have := Int.gcd_ediv d1 d2
    rw [this, Int.natAbs_natCast]
  show Int.gcd (Int.gcd (t.1 / (gcd3 t : Nat)) (t.2.1 / (gcd3 t : Nat)) : Nat) (t.2.2 / (gcd3 t : Nat)) = 1
  rw [e1, Int.natCast_ediv]
  have h1 : ((gcd3 t : Nat) : Int) ∣ ((Int.gcd t.1 t.2.1 : Nat) : Int) := Int.gcd_dvd_left _ _
  have := Int.gcd_ediv h1 d3
  rw [this, Int.natAbs_natCast]
  exact Nat.div_self hg
theorem abs_div_le {s g : Int} (hg : 0 < g) : -(s.natAbs : Int) ≤ s / g ∧ s / g ≤ (s.natAbs : Int) := by
  have h1 := Int.natAbs_ediv_le_natAbs s g
  omega
structure LineOk (A B : List Pt) (l : Ln) : Prop where
  pos : ∀ a ∈ A, 0 < wrt l a
  neg : ∀ b ∈ B, wrt l b < 0
def wS (l : Ln) (t : Tri) : Int := l.1 * t.1 + l.2.1 * t.2.1 + l.2.2 * t.2.2
def subP (a b : Pt) : Pt := (a.1 - b.1, a.2 - b.2)
abbrev ShN := (Pt × Pt) × Int
structure ShnOk (A B : List Pt) (shn : List ShN) : Prop where
  ix : ∀ e ∈ shn, 0 ≤ e.1.2.1 ∧ e.1.2.1 < A.length ∧ 0 ≤ e.1.2.2 ∧ e.1.2.2 < B.length ∧ e.1.1 = subP (ptAt A e.1.2.1) (ptAt B e.1.2.2)
end Geo
namespace STab
open PySem
variable {α : Type}
def occ (M : Nat → Option α) (n : Nat) : List Nat := (List.range n).filter fun j => (M j).isSome
def ent (M : Nat → Option α) (n : Nat) : List α := (List.range n).filterMap M
theorem occ_succ (M : Nat → Option α) (n : Nat) : occ M (n + 1) = occ M n ++ (if (M n).isSome then [n] else []) := by
  unfold occ; rw [List.range_succ, List.filter_append]
  congr 1
  by_cases h : (M n).isSome = true
  · simp [h]
  · simp [h]
theorem ent_succ (M : Nat → Option α) (n : Nat) : ent M (n + 1) = ent M n ++ (M n).toList := by
  unfold ent; rw [List.range_succ, List.filterMap_append]
  congr 1
theorem occ_length (M : Nat → Option α) : ∀ n, (occ M n).length = (ent M n).length
  | 0 => rfl
  | n + 1 => by
    rw [occ_succ, ent_succ, List.length_append, List.length_append, occ_length M n]
    cases h : M n <;> simp
structure Rep (t : SetTable) (es : Array α) (M : Nat → Option α) : Prop where
  pl : t.place = (occ M (t.mask + 1)).toArray
  es : es = (ent M (t.mask + 1)).toArray
  dm : t.dummies = #[]
theorem Rep.size {t : SetTable} {es : Array α} {M : Nat → Option α} (R : Rep t es M) : t.place.size = es.size := by
  rw [R.pl, R.es]; simp [occ_length]
def setM (M : Nat → Option α) (j : Nat) (x : α) : Nat → Option α := fun k => if k = j then some x else M k
theorem occ_congr {M N : Nat → Option α} {n : Nat} (h : ∀ k, k < n → M k = N k) : occ M n = occ N n := by
  unfold occ; exact List.filter_congr fun k hk => by rw [h k (by simpa using hk)]
theorem ent_congr {M N : Nat → Option α} {n : Nat} (h : ∀ k, k < n → M k = N k) : ent M n = ent N n := by
  induction n with
  | zero => rfl
  | succ n ih => rw [ent_succ, ent_succ, ih fun k hk => h k (by omega), h n (by omega)]
theorem put_split {M : Nat → Option α} {n j : Nat} (x : α) (hj : j < n) (h : M j = none) : ∃ post post', occ M n = occ M j ++ post ∧ ent M n = ent M j ++ post' ∧ occ (setM M j x) n = occ M j ++ j :: post ∧ ent (setM M j x) n = ent M j ++ x :: post' := by
  induction n with
  | zero => omega
  | succ n ih =>
    by_cases e : j = n
    · subst e
      have c1 : occ (setM M j x) j = occ M j := occ_congr fun k hk => by unfold setM; rw [if_neg (by omega)]
      have c2 : ent (setM M j x) j = ent M j := ent_congr fun k hk => by unfold setM; rw [if_neg (by omega)]
      have c3 : setM M j x j = some x := by unfold setM; rw [if_pos rfl]
      refine ⟨[], [], ?_, ?_, ?_, ?_⟩
      · rw [occ_succ, h]; simp
      · rw [ent_succ, h]; simp
      · rw [occ_succ, c1, c3]; simp
      · rw [ent_succ, c2, c3]; simp
    · obtain ⟨p, p', h1, h2, h3, h4⟩ := ih (by omega)
      have c3 : setM M j x n = M n := by unfold setM; rw [if_neg (by omega)]
      refine ⟨p ++ (if (M n).isSome then [n] else []), p' ++ (M n).toList, ?_, ?_, ?_, ?_⟩
      · rw [occ_succ, h1]; simp
      · rw [ent_succ, h2]; simp
      · rw [occ_succ, h3, c3]; simp
      · rw [ent_succ, h4, c3]; simp
def lpN (mask h : Nat) : Nat → Nat × Nat
  | 0 => (h % (mask + 1), h)
  | n + 1 => SetTable.leap mask (lpN mask h n).1 (lpN mask h n).2
theorem lpN_lt (mask h : Nat) : ∀ n, (lpN mask h n).1 < mask + 1
  | 0 => Nat.mod_lt _ (by omega)
  | n + 1 => Nat.mod_lt _ (by omega)
theorem lpN_pt (mask h : Nat) : ∀ n, (lpN mask h n).2 = h / 32 ^ n
  | 0 => by simp [lpN]
  | n + 1 => by
    show (lpN mask h n).2 / 32 = _
    rw [lpN_pt mask h n, Nat.div_div_eq_div_mul, Nat.pow_succ]
def lcg (mask : Nat) : Nat → Nat → Nat
  | 0, i => i
  | n + 1, i => (lcg mask n i * 5 + 1) % (mask + 1)
theorem lpN_far (mask h : Nat) (hh : h < 2 ^ 64) : ∀ m, (lpN mask h (13 + m)).1 = lcg mask m (lpN mask h 13).1
  | 0 => rfl
  | m + 1 => by
    show ((lpN mask h (13 + m)).1 * 5 + 1 + (lpN mask h (13 + m)).2 / 32) % (mask + 1) = (lcg mask m (lpN mask h 13).1 * 5 + 1) % (mask + 1)
    have z : (lpN mask h (13 + m)).2 = 0 := by
      rw [lpN_pt]
      refine Nat.div_eq_of_lt (Nat.lt_of_lt_of_le hh ?_)
      calc 2 ^ 64 ≤ 32 ^ 13 := by decide
        _ ≤ 32 ^ (13 + m) := Nat.pow_le_pow_right (by decide) (by omega)
    rw [lpN_far mask h hh m, z]
theorem lcg7 : ∀ i, i < 8 → ∀ j, j < 8 → ∃ m, m < 8 ∧ lcg 7 m i = j := by decide
theorem lcg31 : ∀ i, i < 32 → ∀ j, j < 32 → ∃ m, m < 32 ∧ lcg 31 m i = j := by decide +kernel
def Good (mask : Nat) : Prop := mask = 7 ∨ mask = 31
theorem cover {mask h j : Nat} (hm : Good mask) (hh : h < 2 ^ 64) (hj : j ≤ mask) : ∃ n, n ≤ mask + 13 ∧ (lpN mask h n).1 = j := by
  rcases hm with rfl | rfl
  · obtain ⟨m, h1, h2⟩ := lcg7 _ (lpN_lt 7 h 13) j (by omega)
    exact ⟨13 + m, by omega, by rw [lpN_far 7 h hh]; exact h2⟩
  · obtain ⟨m, h1, h2⟩ := lcg31 _ (lpN_lt 31 h 13) j (by omega)
    exact ⟨13 + m, by omega, by rw [lpN_far 31 h hh]; exact h2⟩
theorem runEnd_le {mask i : Nat} (h : i ≤ mask) : i ≤ SetTable.runEnd mask i ∧ SetTable.runEnd mask i ≤ mask ∧ SetTable.runEnd mask i ≤ i + 9 := by
  unfold SetTable.runEnd; split <;> omega
structure Way where
  n : Nat
  k : Nat
def Way.at (mask h : Nat) (w : Way) : Nat := (lpN mask h w.n).1 + w.k
def Way.ok (mask h : Nat) (w : Way) : Prop := (lpN mask h w.n).1 + w.k ≤ SetTable.runEnd mask (lpN mask h w.n).1
def Way.lt (a b : Way) : Prop := a.n < b.n ∨ (a.n = b.n ∧ a.k < b.k)
def Way.next (mask h : Nat) (w : Way) : Way := if (lpN mask h w.n).1 + w.k < SetTable.runEnd mask (lpN mask h w.n).1 then ⟨w.n, w.k + 1⟩ else ⟨w.n + 1, 0⟩
theorem Way.at_le {mask h : Nat} {w : Way} (o : w.ok mask h) : w.at mask h ≤ mask := by
  unfold Way.ok at o; unfold Way.at
  have := (runEnd_le (Nat.le_of_lt_succ (lpN_lt mask h w.n))).2.1
  omega
theorem bits_lt (h : Int) : SetTable.bits h < 2 ^ 64 := by
  unfold SetTable.bits; omega
theorem Way.tri (a b : Way) : a.lt b ∨ a = b ∨ b.lt a := by
  rcases Nat.lt_trichotomy a.n b.n with h | h | h
  · exact .inl (.inl h)
  · rcases Nat.lt_trichotomy a.k b.k with k | k | k
    · exact .inl (.inr ⟨h, k⟩)
    · right; left; cases a; cases b; simp at h k; subst h k; rfl
    · exact .inr (.inr (.inr ⟨h.symm, k⟩))
  · exact .inr (.inr (.inl h))
def Way.left (n0 : Nat) (w : Way) : Nat := 10 * (n0 + 1 - w.n) - w.k
abbrev En (β : Type) := Int × β
def Reach {β : Type} (mask : Nat) (M : Nat → Option (En β)) : Prop := ∀ j e, j ≤ mask → M j = some e → ∃ w : Way, w.ok mask (SetTable.bits e.1) ∧ w.at mask (SetTable.bits e.1) = j ∧ ∀ w' : Way, w'.ok mask (SetTable.bits e.1) → w'.lt w → (M (w'.at mask (SetTable.bits e.1))).isSome = true
theorem empty_slot {M : Nat → Option α} : ∀ n, (ent M n).length < n → ∃ j, j < n ∧ M j = none
  | 0, h => by omega
  | n + 1, h => by
    cases e : M n with
    | none => exact ⟨n, by omega, e⟩
    | some x =>
      rw [ent_succ, e, List.length_append] at h
      simp at h
      obtain ⟨j, h1, h2⟩ := empty_slot n h
      exact ⟨j, by omega, h2⟩
def own (M : Nat → Option Nat) (mask : Nat) : Array (Option Nat) := ((List.range (mask + 1)).map M).toArray
theorem own_get {M : Nat → Option Nat} {mask j : Nat} (d : Option Nat) (hj : j ≤ mask) : (own M mask).getD j d = M j := by
  unfold own
  rw [Array.getD_eq_getD_getElem?]
  simp [show j < mask + 1 by omega]
theorem own_set {M : Nat → Option Nat} {mask j k : Nat} (hj : j ≤ mask) : (own M mask).setIfInBounds j (some k) = own (setM M j k) mask := by
  unfold own
  apply Array.toList_inj.mp
  simp only [Array.toList_setIfInBounds]
  apply List.ext_getElem?
  intro i
  rw [List.getElem?_set]
  by_cases h : j = i
  · subst h
    simp [setM, show j < mask + 1 by omega]
  · rw [if_neg h]
    simp only [List.getElem?_map]
    by_cases hi : i < mask + 1
    · simp [hi, setM, Ne.symm h]
    · simp [hi]
theorem free_spec {mask b n0 : Nat} {M : Nat → Option Nat} (hz : M (lpN mask b n0).1 = none) : ∀ fuel n, n ≤ n0 → n0 - n < fuel →
    ∃ w : Way, w.ok mask b ∧ n ≤ w.n ∧ SetTable.layClean.free mask (own M mask) fuel (lpN mask b n).1 (lpN mask b n).2 = some (w.at mask b) ∧ M (w.at mask b) = none ∧ ∀ w' : Way, w'.ok mask b → n ≤ w'.n → w'.lt w → (M (w'.at mask b)).isSome = true
  | 0, n, _, h => by omega
  | fuel + 1, n, hn, hf => by
    have hi := Nat.le_of_lt_succ (lpN_lt mask b n)
    have re := runEnd_le hi
    unfold SetTable.layClean.free
    cases e : (List.range (SetTable.runEnd mask (lpN mask b n).1 + 1 - (lpN mask b n).1)).find? fun k => ((own M mask).getD ((lpN mask b n).1 + k) (some 0)).isNone with
    | some k =>
      rw [List.find?_range_eq_some] at e
      obtain ⟨e1, e2, e3⟩ := e
      have e2' : k < SetTable.runEnd mask (lpN mask b n).1 + 1 - (lpN mask b n).1 := by simpa using e2
      rw [own_get _ (by omega)] at e1
      refine ⟨⟨n, k⟩, by show _ + k ≤ _; show (lpN mask b n).1 + k ≤ SetTable.runEnd mask (lpN mask b n).1; omega, Nat.le_refl _, rfl, ?_, fun w' o' hn' hl => ?_⟩
      · cases q : M ((⟨n, k⟩ : Way).at mask b) with
        | none => rfl
        | some z =>
          have q' : M ((lpN mask b n).1 + k) = some z := q
          rw [q'] at e1; simp at e1
      · rcases hl with z | ⟨z1, z2⟩
        · have z' : w'.n < n := z
          omega
        · have z1' : w'.n = n := z1
          have z2' : w'.k < k := z2
          have q := e3 w'.k z2'
          rw [own_get _ (by omega)] at q
          unfold Way.at
          rw [z1']
          cases q2 : M ((lpN mask b n).1 + w'.k) with
          | none => rw [q2] at q; simp at q
          | some _ => rfl
    | none =>
      rw [List.find?_range_eq_none] at e
      have all : ∀ k, (lpN mask b n).1 + k ≤ SetTable.runEnd mask (lpN mask b n).1 → (M ((lpN mask b n).1 + k)).isSome = true := fun k hk => by
        have q := e k (by omega)
        rw [own_get _ (by omega)] at q
        cases q2 : M ((lpN mask b n).1 + k) with
        | none => rw [q2] at q; simp at q
        | some _ => rfl
      have hne : n ≠ n0 := fun q => by
        have z := all 0 (by omega)
        rw [Nat.add_zero, q, hz] at z; simp at z
      obtain ⟨w, a1, a2, a3, a4, a5⟩ := free_spec hz fuel (n + 1) (by omega) (by omega)
      refine ⟨w, a1, by omega, a3, a4, fun w' o' hn' hl => ?_⟩
      by_cases q : w'.n = n
      · unfold Way.ok at o'
        rw [q] at o'
        have := all w'.k o'
        unfold Way.at
        rw [q]; exact this
      · exact a5 w' o' (by omega) hl
structure Lay (mask : Nat) (hs : List Int) (M : Nat → Option Nat) : Prop where
  cnt : (ent M (mask + 1)).length = hs.length
  val : ∀ j k, j ≤ mask → M j = some k → k < hs.length
  inj : ∀ i j k, i ≤ mask → j ≤ mask → M i = some k → M j = some k → i = j
  way : ∀ k h, hs[k]? = some h → ∃ w : Way, w.ok mask (SetTable.bits h) ∧ M (w.at mask (SetTable.bits h)) = some k ∧ ∀ w' : Way, w'.ok mask (SetTable.bits h) → w'.lt w → (M (w'.at mask (SetTable.bits h))).isSome = true
theorem Lay.nil (mask : Nat) : Lay mask [] (fun _ => none) := ⟨by unfold ent; simp, fun _ _ _ h => by simp at h, fun _ _ _ _ _ h => by simp at h, fun k h e => by simp at e⟩
theorem Lay.step {mask : Nat} (hm : Good mask) {hs : List Int} {M : Nat → Option Nat} (L : Lay mask hs M) (hlt : hs.length ≤ mask) (h : Int) :
    ∃ j M', SetTable.layClean.free mask (own M mask) (SetTable.turns mask) (SetTable.bits h % (mask + 1)) (SetTable.bits h) = some j ∧ (own M mask).setIfInBounds j (some hs.length) = own M' mask ∧ Lay mask (hs ++ [h]) M' := by
  obtain ⟨j0, hj0, hz0⟩ := empty_slot (M := M) (mask + 1) (by rw [L.cnt]; omega)
  obtain ⟨n0, hn0, hc⟩ := cover hm (bits_lt h) (show j0 ≤ mask by omega)
  obtain ⟨w, a1, a2, a3, a4, a5⟩ := free_spec (M := M) (b := SetTable.bits h) (n0 := n0) (by rw [hc]; exact hz0) (SetTable.turns mask) 0 (Nat.zero_le _) (by unfold SetTable.turns; omega)
  have hat := Way.at_le a1
  have keep : ∀ i, i ≠ w.at mask (SetTable.bits h) → setM M (w.at mask (SetTable.bits h)) hs.length i = M i := fun i hi => by unfold setM; rw [if_neg hi]
  have here : setM M (w.at mask (SetTable.bits h)) hs.length (w.at mask (SetTable.bits h)) = some hs.length := by unfold setM; rw [if_pos rfl]
  have more : ∀ i, (M i).isSome = true → (setM M (w.at mask (SetTable.bits h)) hs.length i).isSome = true := fun i hi => by
    by_cases e : i = w.at mask (SetTable.bits h)
    · rw [e, here]; rfl
    · rw [keep i e]; exact hi
  refine ⟨w.at mask (SetTable.bits h), setM M (w.at mask (SetTable.bits h)) hs.length, a3, own_set hat, ⟨?_, ?_, ?_, ?_⟩⟩
  · obtain ⟨p, p', h1, h2, h3, h4⟩ := put_split (n := mask + 1) hs.length (show w.at mask (SetTable.bits h) < mask + 1 by omega) a4
    have c := L.cnt
    rw [h2] at c
    rw [h4]
    simp at c ⊢; omega
  · intro i k hi e
    rw [List.length_append]
    by_cases q : i = w.at mask (SetTable.bits h)
    · rw [q, here] at e; cases e; simp
    · rw [keep i q] at e; have := L.val i k hi e; simp; omega
  · intro i j k hi hj e1 e2
    by_cases q1 : i = w.at mask (SetTable.bits h)
    · by_cases q2 : j = w.at mask (SetTable.bits h)
      · rw [q1, q2]
      · rw [q1, here] at e1; cases e1
        rw [keep j q2] at e2
        have := L.val j _ hj e2
        omega
    · rw [keep i q1] at e1
      by_cases q2 : j = w.at mask (SetTable.bits h)
      · rw [q2, here] at e2; cases e2
        have := L.val i _ hi e1
        omega
      · rw [keep j q2] at e2
        exact L.inj i j k hi hj e1 e2
  · intro k g e
    by_cases q : k < hs.length
    · rw [List.getElem?_append_left q] at e
      obtain ⟨w1, b1, b2, b3⟩ := L.way k g e
      refine ⟨w1, b1, ?_, fun w' o' l' => more _ (b3 w' o' l')⟩
      rw [keep _ fun z => by rw [z, a4] at b2; cases b2]
      exact b2
    · have hk : k = hs.length := by
        have := (List.getElem?_eq_some_iff.mp e).1
        rw [List.length_append] at this; simp at this; omega
      subst hk
      rw [List.getElem?_append_right (Nat.le_refl _), Nat.sub_self] at e
      simp at e; subst e
      exact ⟨w, a1, here, fun w' o' l' => more _ (a5 w' o' (Nat.zero_le _) l')⟩
end STab
namespace STab
open PySem
section
variable {prog : Program} {w : World} {A : Around} {E : Value → Shared → Prop}
abbrev TK (prog : Program) (w : World) : HeapKind prog w (List Int) := tupleKind (intKind prog w)
def Tups (prog : Program) (w : World) (h : Heap) (es : List (En Value)) : Prop := ∀ e ∈ es, ∃ ks b, e.2 = .ref b ∧ (TK prog w).is h ks b ∧ e.1 = (TK prog w).hash ks
structure Tab (prog : Program) (w : World) (h : Heap) (a : Addr) (es : Array (En Value)) (ep : Nat) (t : SetTable) (M : Nat → Option (En Value)) : Prop where
  ob : ∃ o, h.get? a = some o ∧ o.ExactSet ∧ o.data = .set es ep t
  rep : Rep t es M
  rch : Reach t.mask M
  good : Good t.mask
  room : es.size * 5 < t.mask * 3
  pln : t.plain = true
  led : t.led = !(w.params.followText "set-order")
  tup : Tups prog w h es.toList
theorem Tab.empty {h : Heap} {a : Addr} {es : Array (En Value)} {ep : Nat} {t : SetTable} {M : Nat → Option (En Value)} (T : Tab prog w h a es ep t M) (hh : Int) : ∃ n0, n0 ≤ t.mask + 13 ∧ M ((⟨n0, 0⟩ : Way).at t.mask (SetTable.bits hh)) = none := by
  have hs : (ent M (t.mask + 1)).length = es.size := by rw [T.rep.es]; simp
  obtain ⟨j, hj, hz⟩ := empty_slot (M := M) (t.mask + 1) (by rw [hs]; have := T.room; omega)
  obtain ⟨n0, h1, h2⟩ := cover T.good (bits_lt hh) (show j ≤ t.mask by omega)
  exact ⟨n0, h1, by show M ((lpN t.mask (SetTable.bits hh) n0).1 + 0) = none; rw [Nat.add_zero, h2]; exact hz⟩
end
end STab
namespace STab
open PySem
section
variable {prog : Program} {w : World} {A : Around} {E : Value → Shared → Prop}
def KeyOf (prog : Program) (w : World) (h : Heap) (v : Value) (ks : List Int) : Prop := ∃ b, v = Value.ref b ∧ (TK prog w).is h ks b
structure Memb (prog : Program) (w : World) (h : Heap) (es : List (En Value)) (kss : List (List Int)) (vs : List Value) : Prop where
  into : ∀ e ∈ es, e.2 ∈ vs ∧ ∃ ks ∈ kss, KeyOf prog w h e.2 ks
  onto : ∀ ks ∈ kss, ∃ e ∈ es, KeyOf prog w h e.2 ks
  once : es.Pairwise fun e f => ∀ ks, KeyOf prog w h e.2 ks → ¬ KeyOf prog w h f.2 ks
  size : es.length ≤ kss.length
theorem KeyOf.inj {h : Heap} {v : Value} {a b : List Int} (x : KeyOf prog w h v a) (y : KeyOf prog w h v b) : a = b := by
  obtain ⟨p, rfl, x⟩ := x
  obtain ⟨q, e, y⟩ := y
  cases e
  exact (TK prog w).inj x y
end
end STab
namespace STab
open PySem
section
variable {prog : Program} {w : World} {A : Around} {E : Value → Shared → Prop} {s : Shared}
end
end STab
namespace STab
open PySem PySem.F
end STab
namespace STab
open PySem
section
variable {prog : Program} {w : World} {A : Around} {E : Value → Shared → Prop} {s : Shared}
structure Tab0 (w : World) (h : Heap) (a : Addr) (es : Array (En Value)) (ep : Nat) (t : SetTable) (M : Nat → Option (En Value)) : Prop where
  ob : ∃ o, h.get? a = some o ∧ o.ExactSet ∧ o.data = .set es ep t
  rep : Rep t es M
  room : es.size * 5 < t.mask * 3
  pln : t.plain = true
  led : t.led = !(w.params.followText "set-order")
theorem Tab.zero {h : Heap} {a : Addr} {es : Array (En Value)} {ep : Nat} {t : SetTable} {M : Nat → Option (En Value)} (T : Tab prog w h a es ep t M) : Tab0 w h a es ep t M := ⟨T.ob, T.rep, T.room, T.pln, T.led⟩
theorem Tab0.at {h h' : Heap} {S : Addr} {es : Array (En Value)} {ep : Nat} {t : SetTable} {M : Nat → Option (En Value)} (T : Tab0 w h S es ep t M) (kp : ∀ o, h.get? S = some o → h'.get? S = some o) : Tab0 w h' S es ep t M :=
  ⟨let ⟨ob, ho, hx, hd⟩ := T.ob; ⟨ob, kp ob ho, hx, hd⟩, T.rep, T.room, T.pln, T.led⟩
def IsSI (h : Heap) (I S : Addr) (slot i n ep : Nat) : Prop := h.get? I = some { cls := .type "set_iterator", data := .fields #[.int slot 0, .int i 0, .ref S, .int n 0, .int ep 0] }
theorem IsSI.ty {I S : Addr} {slot i n ep : Nat} (h : IsSI s.heap I S slot i n ep) : s.TypeIs (.ref I) "set_iterator" := ⟨_, h, rfl⟩
end
end STab
namespace Srt
open PySem PySem.W PyProof.Rows Geo
theorem le_of_lt {a b : Pt} (h : ltP a b = true) : leP a b = true := by rw [ltP_iff] at h; rw [leP_iff]; omega
structure Ok (n : Nat) (p : Array Nat) : Prop where
  perm : p.Perm (List.toArray (List.range n))
theorem Ok.size {n : Nat} {p : Array Nat} (h : Ok n p) : p.size = n := by rw [h.perm.size_eq]; simp
theorem Ok.at {n : Nat} {p : Array Nat} (h : Ok n p) (hn : 0 < n) (i : Nat) : p.getD i 0 < n := by
  rw [Array.getD_eq_getD_getElem?]
  cases e : p[i]? with
  | none => exact hn
  | some x =>
    have hm : x ∈ p := Array.mem_of_getElem? e
    have := h.perm.mem_iff.mp hm
    simpa using this
section
variable {n : Nat} {key : Nat → Pt} {cmp : Nat → Nat → (Bool → Shared → Prop) → Shared → Prop} {s : Shared}
end
end Srt
set_option maxRecDepth 100000
namespace L2
open PySem PySem.Spec PyProof.Rows Geo
def IsPt (H : Hp) (v : V) (p : Pt) : Prop := ∃ a, v = .ref a ∧ H a = some (.tup [.int p.1, .int p.2])
abbrev ArePts (H : Hp) : List V → List Pt → Prop := Paired (IsPt H)
def Keep (H H' : Hp) : Prop := ∀ a xs, H a = some (.tup xs) → H' a = some (.tup xs)
theorem Keep.refl (H : Hp) : Keep H H := fun _ _ h => h
theorem Keep.trans {H1 H2 H3 : Hp} (a : Keep H1 H2) (b : Keep H2 H3) : Keep H1 H3 := fun p xs h => b p xs (a p xs h)
theorem Keep.new {H : Hp} {p : Addr} (h : H p = none) (o : HO) : Keep H (upd H p o) := fun a xs e => by rw [upd_ne (ne_of_none e h)]; exact e
theorem Keep.lst {H : Hp} {p : Addr} {xs : List V} (h : H p = some (.lst xs)) (o : HO) : Keep H (upd H p o) := fun a ys e => by rw [upd_ne (ne_of e h (by intro z; cases z))]; exact e
theorem IsPt.keep {H H' : Hp} {v : V} {p : Pt} (h : IsPt H v p) (k : Keep H H') : IsPt H' v p := by
  obtain ⟨a, e, h⟩ := h; exact ⟨a, e, k _ _ h⟩
theorem ArePts.keep {H H' : Hp} {vs : List V} {ps : List Pt} (h : ArePts H vs ps) (k : Keep H H') : ArePts H' vs ps := Paired.mapP h fun _ _ z => z.keep k
theorem IsPt.inj {H : Hp} {v : V} {p q : Pt} (h : IsPt H v p) (h' : IsPt H v q) : p = q := by
  obtain ⟨a, rfl, h⟩ := h
  obtain ⟨b, e, h'⟩ := h'
  cases e
  rw [h] at h'
  injection h' with h'; injection h' with h'; injection h' with e1 h'; injection h' with e2 _
  injection e1 with e1; injection e2 with e2
  exact Prod.ext e1 e2
theorem Pair.get {α β : Type} {F : α → β → Prop} : ∀ {xs : List α} {ys : List β} {i : Nat} {x : α}, Paired F xs ys → xs[i]? = some x → ∃ y, ys[i]? = some y ∧ F x y
  | _, _, _, _, .nil, e => by simp at e
  | _, _, 0, _, .cons r _, e => by simp at e; subst e; exact ⟨_, rfl, r⟩
  | _, _, i + 1, x, .cons _ t, e => by
    obtain ⟨u, h1, h2⟩ := Pair.get (i := i) (x := x) t (by simpa using e)
    exact ⟨u, by simpa using h1, h2⟩
theorem Pair.get' {α β : Type} {F : α → β → Prop} : ∀ {xs : List α} {ys : List β} {i : Nat} {y : β}, Paired F xs ys → ys[i]? = some y → ∃ x, xs[i]? = some x ∧ F x y
  | _, _, _, _, .nil, e => by simp at e
  | _, _, 0, _, .cons r _, e => by simp at e; subst e; exact ⟨_, rfl, r⟩
  | _, _, i + 1, x, .cons _ t, e => by
    obtain ⟨u, h1, h2⟩ := Pair.get' (i := i) (y := x) t (by simpa using e)
    exact ⟨u, by simpa using h1, h2⟩
theorem Pair.append {α β : Type} {F : α → β → Prop} : ∀ {xs xs' : List α} {ys ys' : List β}, Paired F xs ys → Paired F xs' ys' → Paired F (xs ++ xs') (ys ++ ys')
  | _, _, _, _, .nil, s => s
  | _, _, _, _, .cons r t, s => .cons r (Pair.append t s)
theorem Pair.take {α β : Type} {F : α → β → Prop} : ∀ {xs : List α} {ys : List β} (n : Nat), Paired F xs ys → Paired F (xs.take n) (ys.take n)
  | _, _, 0, _ => by simp; exact .nil
  | _, _, _ + 1, .nil => .nil
  | _, _, n + 1, .cons r t => .cons r (Pair.take n t)
theorem Pair.drop {α β : Type} {F : α → β → Prop} : ∀ {xs : List α} {ys : List β} (n : Nat), Paired F xs ys → Paired F (xs.drop n) (ys.drop n)
  | _, _, 0, r => r
  | _, _, _ + 1, .nil => .nil
  | _, _, n + 1, .cons _ t => Pair.drop n t
theorem Pair.reverse {α β : Type} {F : α → β → Prop} : ∀ {xs : List α} {ys : List β}, Paired F xs ys → Paired F xs.reverse ys.reverse
  | _, _, .nil => .nil
  | _, _, .cons r t => by rw [List.reverse_cons, List.reverse_cons]; exact Pair.append (Pair.reverse t) (.cons r .nil)
theorem Pair.dropLast {α β : Type} {F : α → β → Prop} {xs : List α} {ys : List β} (r : Paired F xs ys) : Paired F xs.dropLast ys.dropLast := by
  rw [List.dropLast_eq_take, List.dropLast_eq_take, r.length]; exact Pair.take _ r
section
variable {X : Cx} {pins : List (Addr × Obj)} {σ : St} {H : Hp} {s : Shared}
theorem ns_one {h : Heap} {L : Addr} {m m' : Str → Option Value} (a : h.Ns L m) (b : h.Ns L m') : m = m' := by
  obtain ⟨o, es, ep, ho, hd, hk, hm⟩ := a
  obtain ⟨o', es', ep', ho', hd', hk', hm'⟩ := b
  rw [ho] at ho'; cases ho'
  rw [hd] at hd'; cases hd'
  funext x
  rw [← hm x, ← hm' x]
theorem news_keeps {h' : Heap} {m : Str → Option Value} {more : List (Addr × Obj)} (I : Inv X pins σ H s) (F : Fr X.base X.env.locals h' m) (N : News X.base X.env.locals h' (more ++ allNews X.base s.heap X.env.locals)) :
    ∀ b o, b ≠ X.env.locals → s.heap.get? b = some o → h'.get? b = some o := fun b o hb e => by
  cases q : X.base.get? b with
  | some u =>
    have := I.bk b u q
    rw [e] at this; cases this
    exact F.keep b _ q
  | none => exact (N (b, o) (List.mem_append_right _ (mem_allNews hb q e))).1
end
end L2
set_option maxRecDepth 100000
namespace L2
open PySem PySem.Spec PyProof.Rows Geo PySem.W
def TupAt (h : Heap) (v : Value) (p : Pt) : Prop := ∃ b o t u n, v = .ref b ∧ h.get? b = some o ∧ o.cls = .type "tuple" ∧ o.data = .seq #[.int p.1 t, .int p.2 u] n
theorem TupAt.at {h h' : Heap} {v : Value} {p : Pt} (x : TupAt h v p) (k : ∀ b o, v = .ref b → h.get? b = some o → h'.get? b = some o) : TupAt h' v p := by
  obtain ⟨b, o, t, u, n, e, g, c, d⟩ := x
  exact ⟨b, o, t, u, n, e, k b o e g, c, d⟩
section
variable {prog : Program} {w : World} {A : Around} {E : Value → Shared → Prop} {s : Shared}
end
section
variable {X : Cx} {pins : List (Addr × Obj)} {σ : St} {H : Hp} {s : Shared}
theorem Inv.tupAt (I : Inv X pins σ H s) {v : V} {u : Value} {p : Pt} (r : RelV v u) (h : IsPt H v p) : TupAt s.heap u p := by
  obtain ⟨a, rfl, h⟩ := h
  obtain rfl : u = Value.ref a := r
  obtain ⟨_, its, rv, ob, e, c, n, d⟩ := I.hok a _ h
  cases rv with
  | cons r1 rv =>
    cases rv with
    | cons r2 rv =>
      cases rv
      obtain ⟨t, rfl⟩ := r1
      obtain ⟨t', rfl⟩ := r2
      exact ⟨a, ob, t, t', n, rfl, e, c, d⟩
theorem Inv.tupsAt (I : Inv X pins σ H s) : ∀ {vs : List V} {us : List Value} {ps : List Pt}, Vals vs us → ArePts H vs ps → Paired (TupAt s.heap) us ps
  | _, _, _, .nil, .nil => .nil
  | _, _, _, .cons r t, .cons h k => .cons (I.tupAt r h) (I.tupsAt t k)
end
end L2
set_option maxRecDepth 100000
namespace L2
open PySem PySem.Spec PyProof.Rows Geo PySem.W STab
section
variable {prog : Program} {w : World} {h : Heap}
theorem TupAt.key {v : Value} {p : Pt} (x : TupAt h v p) : KeyOf prog w h v [p.1, p.2] := by
  obtain ⟨b, o, t, u, n, e, g, c, d⟩ := x
  exact ⟨b, e, o, _, n, g, c, d, .cons (by simp [intKind, Value.isInt]) (.cons (by simp [intKind, Value.isInt]) .nil)⟩
theorem TupAt.inj {v : Value} {p q : Pt} (x : TupAt h v p) (y : TupAt h v q) : p = q := by
  obtain ⟨b, o, t, u, n, e, g, c, d⟩ := x
  obtain ⟨b', o', t', u', n', e', g', c', d'⟩ := y
  rw [e] at e'; cases e'
  rw [g] at g'; cases g'
  rw [d] at d'
  injection d' with d1 _
  have d2 := congrArg Array.toList d1
  simp at d2
  exact Prod.ext d2.1.1 d2.2.1
end
end L2
set_option maxRecDepth 100000
namespace L2
open PySem PySem.Spec PyProof.Rows Geo PySem.W STab
section
variable {A : Around} {s : Shared}
theorem pair_all (p q : Pt) : ((List.range (min (#[Value.int p.1 0, Value.int p.2 0] : Array Value).size (#[Value.int q.1 0, Value.int q.2 0] : Array Value).size)).all (fun j => if j = 0 then p.1 == q.1 else p.2 == q.2) && (#[Value.int p.1 0, Value.int p.2 0] : Array Value).size == (#[Value.int q.1 0, Value.int q.2 0] : Array Value).size) = decide (p = q) := by
  have e : (List.range (min (#[Value.int p.1 0, Value.int p.2 0] : Array Value).size (#[Value.int q.1 0, Value.int q.2 0] : Array Value).size)) = [0, 1] := rfl
  rw [e]
  by_cases h : p = q
  · subst h; simp
  · rw [decide_eq_false h]
    by_cases h1 : p.1 = q.1
    · have h2 : p.2 ≠ q.2 := fun z => h (Prod.ext h1 z)
      simp [h1, h2]
    · simp [h1]
theorem rc_pt {u v : Value} {p q : Pt} (hu : A.units < cLine) (x : TupAt s.heap u p) (y : TupAt s.heap v q) : SeqAt.RcAt A s u v (decide (p = q)) := by
  obtain ⟨b, o, t, t', n, rfl, g, c, d⟩ := x
  obtain ⟨b', o', t2, t2', n', rfl, g', c', d'⟩ := y
  rw [← pair_all]
  refine SeqAt.RcAt.tuples (items := #[.int p.1 t, .int p.2 t']) (items2 := #[.int q.1 t2, .int q.2 t2']) ⟨o, g, c, n, d⟩ ⟨o', g', c', n', d'⟩ hu fun j h1 h2 => ?_
  match j, h1, h2 with
  | 0, _, _ => exact SeqAt.EqAt.int_int _ _ _ _
  | 1, _, _ => exact SeqAt.EqAt.int_int _ _ _ _
theorem rcNe_pt {u v : Value} {p q : Pt} (hu : A.units < cLine) (x : TupAt s.heap u p) (y : TupAt s.heap v q) : SeqAt.RcNeAt A s u v (!decide (p = q)) := by
  obtain ⟨b, o, t, t', n, rfl, g, c, d⟩ := x
  obtain ⟨b', o', t2, t2', n', rfl, g', c', d'⟩ := y
  rw [← pair_all]
  refine SeqAt.RcNeAt.tuples (items := #[.int p.1 t, .int p.2 t']) (items2 := #[.int q.1 t2, .int q.2 t2']) ⟨o, g, c, n, d⟩ ⟨o', g', c', n', d'⟩ hu fun j h1 h2 => ?_
  match j, h1, h2 with
  | 0, _, _ => exact SeqAt.EqAt.int_int _ _ _ _
  | 1, _, _ => exact SeqAt.EqAt.int_int _ _ _ _
theorem eq_pt {u v : Value} {p q : Pt} (hu : A.units < cLine) (x : TupAt s.heap u p) (y : TupAt s.heap v q) : SeqAt.EqAt A s u v (decide (p = q)) := by
  have r := rc_pt hu x y
  obtain ⟨b, o, t, t', n, rfl, g, c, d⟩ := id x
  obtain ⟨b', o', t2, t2', n', rfl, g', c', d'⟩ := id y
  by_cases e : b = b'
  · subst e
    rw [decide_eq_true (x.inj y)]
    exact SeqAt.EqAt.same _
  · exact SeqAt.EqAt.of_refs e r
theorem pair_range {us vs : List Value} {ps qs : List Pt} {h : Heap} (x : Paired (TupAt h) us ps) (y : Paired (TupAt h) vs qs) (hl : us.length = vs.length) :
    ((List.range us.toArray.size).all fun j => decide (ps.getD j (0, 0) = qs.getD j (0, 0))) = decide (ps = qs) := by
  have l1 := x.length
  have l2 := y.length
  rw [Bool.eq_iff_iff, List.all_eq_true, decide_eq_true_iff]
  constructor
  · intro h
    apply List.ext_getElem
    · omega
    · intro j h1 h2
      have := of_decide_eq_true (h j (by simp; omega))
      simpa [h1, h2] using this
  · rintro rfl j _
    exact decide_eq_true rfl
theorem eq_pts_at {us vs : List Value} {ps qs : List Pt} (hu : A.units < cLine) (x : Paired (TupAt s.heap) us ps) (y : Paired (TupAt s.heap) vs qs) (j : Nat) (h1 : j < us.toArray.size) (h2 : j < vs.toArray.size) :
    SeqAt.EqAt A s us.toArray[j] vs.toArray[j] (decide (ps.getD j (0, 0) = qs.getD j (0, 0))) := by
  have h1' : j < us.length := by simpa using h1
  have h2' : j < vs.length := by simpa using h2
  obtain ⟨p, e1, e2⟩ := Pair.get (i := j) (x := us[j]) x (by simp [h1'])
  obtain ⟨q, e3, e4⟩ := Pair.get (i := j) (x := vs[j]) y (by simp [h2'])
  have := eq_pt hu e2 e4
  rw [List.getD_eq_getElem?_getD, List.getD_eq_getElem?_getD, e1, e3]
  simpa using this
theorem rc_pts {a b : Addr} {us vs : List Value} {ps qs : List Pt} (hu : A.units + 1 < cLine) (ha : s.heap.IsList a us.toArray) (hb : s.heap.IsList b vs.toArray) (x : Paired (TupAt s.heap) us ps) (y : Paired (TupAt s.heap) vs qs) :
    SeqAt.RcAt A s (.ref a) (.ref b) (decide (ps = qs)) := by
  have l1 := x.length
  have l2 := y.length
  by_cases hl : us.length = vs.length
  · rw [← pair_range x y hl]
    exact SeqAt.RcAt.lists ha hb (by simpa using hl) (by omega) fun j h1 h2 => eq_pts_at (by show A.units + 1 < cLine; exact hu) x y j h1 h2
  · rw [decide_eq_false (fun e => hl (by rw [l1, l2, e]))]
    exact SeqAt.RcAt.lists_lengths ha hb (by simp [hl]) (by omega)
theorem rcNe_pts {a b : Addr} {us vs : List Value} {ps qs : List Pt} (hu : A.units + 1 < cLine) (ha : s.heap.IsList a us.toArray) (hb : s.heap.IsList b vs.toArray) (x : Paired (TupAt s.heap) us ps) (y : Paired (TupAt s.heap) vs qs) :
    SeqAt.RcNeAt A s (.ref a) (.ref b) (!decide (ps = qs)) := by
  have l1 := x.length
  have l2 := y.length
  by_cases hl : us.length = vs.length
  · rw [← pair_range x y hl]
    exact SeqAt.RcNeAt.lists ha hb (by simpa using hl) (by omega) fun j h1 h2 => eq_pts_at (by show A.units + 1 < cLine; exact hu) x y j h1 h2
  · rw [decide_eq_false (fun e => hl (by rw [l1, l2, e]))]
    exact SeqAt.RcNeAt.lists_lengths ha hb (by simp [hl]) (by omega)
end
section
variable {X : Cx}
theorem op_eqP (hu : X.A.units + 16 < cLine) : OpR X (compareOp .Eq) (fun x y H Q => ∃ p q, IsPt H x p ∧ IsPt H y q ∧ Q (.bl (decide (p = q))) H) := by
  intro pins s σ H x y v u Q I rx ry h
  obtain ⟨p, q, hp, hq, k⟩ := h
  exact rc_pt (by omega) (I.tupAt rx hp) (I.tupAt ry hq) X.prog X.w X.xe _ ⟨.bl _, H, I, rfl, k⟩
theorem op_neP (hu : X.A.units + 16 < cLine) : OpR X (compareOp .NotEq) (fun x y H Q => ∃ p q, IsPt H x p ∧ IsPt H y q ∧ Q (.bl (!decide (p = q))) H) := by
  intro pins s σ H x y v u Q I rx ry h
  obtain ⟨p, q, hp, hq, k⟩ := h
  exact rcNe_pt (by omega) (I.tupAt rx hp) (I.tupAt ry hq) X.prog X.w X.xe _ ⟨.bl _, H, I, rfl, k⟩
def rPts (K : PySem.W.Frag) (g : List Pt → List Pt → Bool) : R2 := fun x y H Q => ∃ a b xs ys ps qs, x = .ref a ∧ y = .ref b ∧ SqL K H a xs ∧ SqL K H b ys ∧ ArePts H xs ps ∧ ArePts H ys qs ∧ Q (.bl (g ps qs)) H
theorem op_nePs (hu : X.A.units + 16 < cLine) : OpR X (compareOp .NotEq) (rPts X.K fun ps qs => !decide (ps = qs)) := by
  intro pins s σ H x y v u Q I rx ry h
  obtain ⟨a, b, xs, ys, ps, qs, rfl, rfl, ha, hb, hp, hq, k⟩ := h
  obtain rfl := rx
  obtain rfl := ry
  obtain ⟨us, r1, l1, _⟩ := I.list ha
  obtain ⟨vs, r2, l2, _⟩ := I.list hb
  exact rcNe_pts (by omega) l1.isList l2.isList (I.tupsAt r1 hp) (I.tupsAt r2 hq) X.prog X.w X.xe _ ⟨.bl _, H, I, rfl, k⟩
end
end L2
set_option maxRecDepth 100000
namespace L2
open PySem PySem.Spec PyProof.Rows Geo PySem.W STab
section
variable {prog : Program} {w : World} {A : Around} {E : Value → Shared → Prop} {s : Shared}
theorem lri_no_len : typeLookup (.type "list_reverseiterator") "__len__" = pure none := by (rw [typeLookup_type, builtinLookup_eq_fast]); kernel_rfl
theorem slot_lri_hint : typeLookup (.type "list_reverseiterator") "__length_hint__" = pure (some (.builtin "list_reverseiterator.__length_hint__")) := by (rw [typeLookup_type, builtinLookup_eq_fast]); kernel_rfl
theorem lri_hint {I : Addr} {Q : Bool → Shared → Prop} (hT : s.TypeIs (.ref I) "list_reverseiterator") (h : Q false s) : wpAny (model prog w) A (Builtin.List.listLengthHint (.ref I)) Q E s := by
  unfold Builtin.List.listLengthHint
  refine wpAny_bind (wpAny_specialOf hT lri_no_len ?_)
  show wpAny _ A (specialOf (Value.ref I) (Str.ofString "__length_hint__") >>= fun _ => _) _ _ _
  refine wpAny_bind (wpAny_specialOf hT slot_lri_hint ?_)
  generalize hid : ("list_reverseiterator.__length_hint__" : String) = id0
  dsimp only
  rw [show splitId id0 = some ("list_reverseiterator", "__length_hint__") from by subst hid; decide +kernel]
  dsimp only
  subst hid
  refine wpAny_bind (wpAny_isInstance (T := "list_reverseiterator") (b := true) hT (by (rw [isSubtype_type]); kernel_rfl) ?_)
  refine wpAny_ite_split (fun hab => absurd hab (by decide)) (fun _ => ?_)
  (refine wpAny_ite_split (fun _ => ?_) (fun hab => absurd (by decide +kernel) hab))
  refine wpAny_ite_split (fun hab => absurd hab (by decide +kernel)) (fun _ => ?_)
  exact wpAny_pure h
theorem ext_rev {R : Result → Shared → Prop} {I l S : Addr} {items : Array Value} {c0 : Nat} (hh : A.handled = none) (hne : l ≠ I) (hSI : S ≠ I) (hSl : S ≠ l) (hit : s.heap.IsRevIter I l ((items.size : Int) - 1)) (hl : s.heap.IsList l items) (hn : items.size ≤ sizeLine)
    (hS : s.heap.get? S = some { cls := .type "list", data := .seq #[] c0 })
    (fin : ∀ h' tk acc c, (∀ b o, b ≠ S → b ≠ I → s.heap.get? b = some o → h'.get? b = some o) → h'.get? S = some { cls := .type "list", dict := none, data := .seq acc c, slots := #[] } → ItemsOf (fun i v => items[items.size - 1 - i]? = some v) acc items.size → R (.ok (.ret .none)) { s with heap := h', toks := tk }) :
    wpAny (model prog w) A.in1 (Builtin.List.listExtendWith (.ref S) (.ref I) .none)
      (fun fn s' => match fn with | .done f => R (.ok f) s' | .again c' => c'.quiet = true ∧ codeAny (model prog w) A c' R s') (fun e s' => R (.error e) s') s := by
  have hSf : S ∉ [I, l] := by simp only [List.mem_cons, List.not_mem_nil, or_false, not_or]; exact ⟨hSI, hSl⟩
  have key : ∀ (h : Heap) (c1 : Nat), h.IsRevIter I l ((items.size : Int) - 1) → h.IsList l items → (∀ b o, b ≠ S → s.heap.get? b = some o → h.get? b = some o) → h.get? S = some { cls := .type "list", data := .seq #[] c1 } →
      codeAny (model prog w) A (.builtin "list.extend.loop" ⟨[.ref S, .ref I, .none], []⟩) R { s with heap := h } := by
    intro h c1 hi' hl' hk hS1
    refine codeAny_extend_loopS ((Walks.listRev (prog := prog) (w := w) (A := A.in1) hh I l hne items).toS) hn S hSf .none items.size 0 _ #[] c1 rfl (Nat.zero_le _) ⟨Nat.zero_le _, by simpa using hi', hl'⟩ hS1 (ItemsOf.nil _) fun s' acc c hm hS' hacc => ?_
    rw [Moved.eq_with hm]
    exact fin s'.heap s'.toks acc c (fun b o n1 n2 e => hm.heap b o (by simp only [List.mem_cons, List.not_mem_nil, or_false, not_or]; exact ⟨n1, n2⟩) (hk b o n1 e)) hS' hacc
  unfold Builtin.List.listExtendWith
  refine wpAny_bind (wpAny_typeOf hit.typeIs ?_)
  have h1 : Builtin.List.listSameRef (.ref S) (.ref I) = false := by simp [Builtin.List.listSameRef, hSI]
  have h2 : (Value.type "list_reverseiterator" == Value.type "list") = false := by decide
  have h3 : (Value.type "list_reverseiterator" == Value.type "tuple") = false := by decide
  (simp only [h1, h2, h3, Bool.or_false, Bool.false_eq_true, if_false])
  refine wpAny_bind (wpAny_pyIter_revIter hit (wpAny_bind (wpAny_holding (lri_hint hit.typeIs ?_))))
  have oth : ∀ b o, b ≠ S → s.heap.get? b = some o → ((s.heap.update S (Obj.mapSeq (·.push Value.none))).update S (Obj.mapSeq (·.pop))).get? b = some o := fun b o hb e => (Heap.get?_update_other _ _ (Ne.symm hb)).trans ((Heap.get?_update_other _ _ (Ne.symm hb)).trans e)
  refine wpAny_ite_split (fun _ => ?_) (fun _ => wpAny_pure ⟨plainId_quiet (PySem.F.plain_extend_loop) _, key _ c0 hit hl (fun b o _ e => e) hS⟩)
  refine wpAny_bind (wpAny_rule (wpAny_bind ?_))
  show wpAny _ _ (updateSeq S (·.push Value.none) >>= fun _ => updateSeq S (·.pop)) _ _ _
  refine wpAny_bind (wpAny_updateSeq hS rfl ?_)
  have g2 := Heap.get?_update_self (Obj.mapSeq (·.push Value.none)) hS rfl
  (refine wpAny_updateSeq (hz := by seq_fits) g2 rfl ?_)
  have g3 := Heap.get?_update_self (Obj.mapSeq (·.pop)) g2 rfl
  exact wpAny_pure ⟨plainId_quiet (PySem.F.plain_extend_loop) _, key _ _ (hit.at fun o e => oth I o (Ne.symm hSI) e) (hl.at fun o e => oth l o (Ne.symm hSl) e) oth g3⟩
end
def tyOfV (K : PySem.W.Frag) (H : Hp) (x : V) (T : String) : Prop := match x with
  | .int _ => T = "int"
  | .bl _ => T = "bool"
  | .str _ => T = "str"
  | .non => T = "NoneType"
  | .ref a => (T = "list" ∧ ∃ xs, SqL K H a xs) ∨ (T = "tuple" ∧ ∃ xs, SqT K H a xs)
  | _ => False
theorem call_isi {X : Cx} : CallR X (.builtin "isinstance") (fun xs H Q => ∃ x T U b, xs = [x, .ty U] ∧ tyOfV X.K H x T ∧ kitOne X.K (.type T) (.type U) = some b ∧ Q (.bl b) H) := by
  intro pins s σ H xs us Q I rv h
  obtain ⟨x, T, U, b, rfl, ht, hk, k⟩ := h
  cases rv with
  | cons r1 rv =>
    cases rv with
    | cons r2 rv =>
      cases rv
      obtain rfl := r2
      have done : ∀ tk, EP X pins σ Q (.bool b) { s with toks := tk } := fun tk => ⟨.bl b, H, I.tok tk, rfl, k⟩
      cases x with
      | int i =>
        obtain ⟨t, rfl⟩ := r1
        obtain rfl : T = "int" := ht
        exact kia_one (K := X.K) kitx_int I.kIn trivial hk (fun e => nomatch e) done
      | bl i =>
        obtain rfl := r1
        obtain rfl : T = "bool" := ht
        exact kia_one (K := X.K) kitx_bool I.kIn trivial hk (fun e => nomatch e) done
      | str i =>
        obtain ⟨t, rfl⟩ := r1
        obtain rfl : T = "str" := ht
        exact kia_one (K := X.K) kitx_str I.kIn trivial hk (fun e => nomatch e) done
      | non =>
        obtain rfl := r1
        obtain rfl : T = "NoneType" := ht
        exact kia_one (K := X.K) kitx_none I.kIn trivial hk (fun e => nomatch e) done
      | ref a =>
        obtain rfl := r1
        rcases ht with ⟨rfl, xs, hq⟩ | ⟨rfl, xs, hq⟩
        · obtain ⟨its, _, pl, _⟩ := I.list hq
          obtain ⟨o, e, c, _⟩ := pl.isList
          exact kia_one (K := X.K) kitx_list I.kIn ⟨o, e, c⟩ hk (fun e => nomatch e) done
        · obtain ⟨its, _, pl, _⟩ := I.tuple hq
          obtain ⟨o, e, c, _⟩ := pl
          exact kia_one (K := X.K) kitx_tuple I.kIn ⟨o, e, c⟩ hk (fun e => nomatch e) done
      | _ => exact ht.elim
theorem kit_int_int {K : PySem.W.Frag} : kitOne K (.type "int") (.type "int") = some true := by rfl
theorem kit_int_bool {K : PySem.W.Frag} : kitOne K (.type "int") (.type "bool") = some false := by rfl
theorem kit_tup_tup {K : PySem.W.Frag} : kitOne K (.type "tuple") (.type "tuple") = some true := by rfl
end L2
set_option maxRecDepth 100000
namespace L2
open PySem PySem.Spec PyProof.Rows PyProof.Rows.LSm Geo PySem.W STab
section
variable {X : Cx} {pins : List (Addr × Obj)} {σ : St} {H : Hp} {s : Shared}
theorem Inv.newsKept {h' : Heap} {m : Str → Option Value} {t' : Nat} (I : Inv X pins σ H s) (hm : s.heap.Ns X.env.locals m) (F : Fr X.base X.env.locals h' m) (N : News X.base X.env.locals h' (allNews X.base s.heap X.env.locals)) :
    Inv X pins σ H { s with heap := h', toks := t' } := by
  have kp := news_keeps (more := []) I F N
  have neL : ∀ b u, H b = some u → b ≠ X.env.locals := fun b u e => ne_of_none e I.free
  refine I.step (g' := s.gens) (d' := s.drawn) (ch := []) (fun _ z => nomatch z) (fun b ob hb _ _ e _ => kp b ob hb e) (fun b ob hb _ _ e _ => ⟨ob.slots, kp b ob hb e⟩) (fun b ob _ e n => n) (fun b ob _ e => ?_)
    (fun b xs e => e) (fun b ob u e => e) (fun b ps e => ⟨#[], by rw [e]; simp⟩) (fun m' hm' => ?_) (fun b u e => ?_) I.bare
  · by_cases hb : b = X.env.locals
    · obtain ⟨oL, _, _, hoL, _⟩ := F.ns
      exact ⟨oL, by rw [hb]; exact hoL⟩
    · exact ⟨ob, kp b ob hb e⟩
  · rw [← ns_one hm hm']; exact F.ns
  · refine (I.hok b u e).stay (fun c v hc q => ?_) (fun c q => q) fun c xs q => q
    rcases hc with z | z
    · rw [z] at q ⊢; exact kp b v (neL b u e) q
    · exact kp c v (neL c _ z) q
theorem bools_are : ∀ {bs : List Bool} {us : List Value}, Vals (bs.map V.bl) us → BoolsAre us bs
  | [], _, .nil => .nil
  | b :: bs, _, .cons r t => by
    obtain rfl := r
    exact .cons b (bools_are t)
end
section
variable {X : Cx}
theorem call_allL (hh : X.A.handled = none) : CallR X (.builtin "all") (fun xs H Q => ∃ (p : Addr) (bs : List Bool), xs = [.ref p] ∧ SqL X.K H p (bs.map V.bl) ∧ Q (.bl (bs.all id)) H) := by
  intro pins s σ H xs us Q I rv h
  obtain ⟨p, bs, rfl, hq, k⟩ := h
  cases rv with
  | cons r1 rv =>
    cases rv
    obtain rfl := r1
    obtain ⟨its, r, pl, _⟩ := I.list hq
    obtain ⟨m, F⟩ := I.fr
    refine all_bools F (news_all (h := s.heap)) hh pl.isList (bools_are r) fun h' tk F' N' => ?_
    exact ⟨.bl _, H, I.newsKept F.ns F' N', rfl, k⟩
end
end L2
set_option maxRecDepth 100000
namespace L2
open PySem PySem.Spec PyProof.Rows Geo PySem.W STab
def cls (names : List (Str × NameKind)) (env : Env) (cs : List (Str × Addr)) : List (Str × Addr) := names.foldl (fun cs x => if (x.2 == NameKind.free) = true then (x.1, (env.cells.lookup x.1).getD 0) :: cs else cs) cs
theorem clos_go {env : Env} : ∀ (names : List (Str × NameKind)) (cs : List (Str × Addr)), (∀ x ∈ names, x.2 = .free → ∃ c, env.cells.lookup x.1 = some c) →
    (forIn names cs (fun x r => if (x.2 == NameKind.free) = true then do let a ← cellOf env x.1; pure (ForInStep.yield ((x.1, a) :: r)) else pure (ForInStep.yield r)) : Sem (List (Str × Addr))) = pure (cls names env cs)
  | [], cs, _ => by rw [List.forIn_nil]; rfl
  | x :: r, cs, h => by
    rw [List.forIn_cons]
    by_cases hx : (x.2 == NameKind.free) = true
    · obtain ⟨c, hc⟩ := h x List.mem_cons_self (by simpa using hx)
      have e : cellOf env x.1 = pure c := by unfold cellOf; rw [hc]
      simp only [hx, if_true, e, pure_bind]
      rw [clos_go r _ fun y hy => h y (List.mem_cons_of_mem _ hy)]
      unfold cls
      rw [List.foldl_cons, if_pos hx, hc]; rfl
    · simp only [hx, Bool.false_eq_true, if_false, pure_bind]
      rw [clos_go r _ fun y hy => h y (List.mem_cons_of_mem _ hy)]
      unfold cls
      rw [List.foldl_cons, if_neg hx]
theorem clos_eq {scope : Scope} {env : Env} (h : ∀ x ∈ scope.names, x.2 = .free → ∃ c, env.cells.lookup x.1 = some c) : closureFor scope env = pure (cls scope.names env []) := by
  have := clos_go (env := env) scope.names [] h
  unfold closureFor
  simp only [bind_pure]
  exact this
theorem cls_sub {env : Env} : ∀ (names : List (Str × NameKind)) (cs : List (Str × Addr)), (∀ x ∈ names, x.2 = .free → ∃ c, env.cells.lookup x.1 = some c) → (∀ x c, cs.lookup x = some c → env.cells.lookup x = some c) →
    ∀ x c, (cls names env cs).lookup x = some c → env.cells.lookup x = some c
  | [], cs, _, h0, x, c, e => h0 x c e
  | y :: r, cs, h, h0, x, c, e => by
    unfold cls at e
    rw [List.foldl_cons] at e
    refine cls_sub r _ (fun z hz => h z (List.mem_cons_of_mem _ hz)) ?_ x c e
    intro z d hz
    by_cases hy : (y.2 == NameKind.free) = true
    · rw [if_pos hy] at hz
      obtain ⟨c', hc'⟩ := h y List.mem_cons_self (by simpa using hy)
      rw [List.lookup_cons] at hz
      cases q : z == y.1 with
      | true =>
        rw [q] at hz
        simp only at hz
        rw [hc'] at hz; simp at hz; subst hz
        rw [eq_of_beq q]; exact hc'
      | false => rw [q] at hz; exact h0 z d hz
    · rw [if_neg hy] at hz; exact h0 z d hz
theorem cls_has {env : Env} : ∀ (names : List (Str × NameKind)) (cs : List (Str × Addr)) (x : Str), (x, NameKind.free) ∈ names ∨ (∃ c, cs.lookup x = some c) → ∃ c, (cls names env cs).lookup x = some c
  | [], cs, x, h => by
    rcases h with h | h
    · simp at h
    · exact h
  | y :: r, cs, x, h => by
    unfold cls
    rw [List.foldl_cons]
    refine cls_has r _ x ?_
    rcases h with h | ⟨c, h⟩
    · rcases List.mem_cons.mp h with z | z
      · right
        rw [← z]
        simp [List.lookup_cons]
      · exact .inl z
    · right
      by_cases hy : (y.2 == NameKind.free) = true
      · rw [if_pos hy, List.lookup_cons]
        cases q : x == y.1 with
        | true => exact ⟨_, rfl⟩
        | false => exact ⟨c, h⟩
      · rw [if_neg hy]; exact ⟨c, h⟩
def compCx (X : Cx) (N' : List Str) (scope : Scope) (C : Addr) (s3 : Shared) (H3 : Hp) (fp : List Addr) (pins : List (Addr × Obj)) : Cx where
  prog := X.prog
  w := X.w
  K := X.K
  mg := X.mg
  base := X.base
  A := X.A
  N := N'
  s₀ := s3
  H₀ := H3
  env := compEnvC scope (cls scope.names X.env []) C X.env
  outer := X.stack
  stack := X.stack
  ex := fp
  fn := fun _ => false
  calm := X.calm
  pn := X.pn ++ pins
  xe := fun _ _ => False
structure CompScope (X : Cx) (scope : Scope) (N' : List Str) (caps : List (Option Nat)) : Prop where
  kind : scope.kind = .function
  nocell : ∀ z ∈ scope.names, z.2 ≠ .cell
  names : ∀ z ∈ scope.names, z.2 = .local → scope.names.lookup z.1 = some .local
  frees : ∀ z ∈ scope.names, z.2 = .free → X.env.scope.names.lookup z.1 = some .cell
  nd : N'.Nodup
  len : caps.length = N'.length
  cap : ∀ (i j : Nat), caps[i]? = some (some j) → ∃ x : Str, N'[i]? = some x ∧ X.N[j]? = some x ∧ (x, NameKind.free) ∈ scope.names ∧ X.env.scope.names.lookup x = some .cell ∧ ((relabel scope X.env).names.lookup x = some .cell ∨ (relabel scope X.env).names.lookup x = some .free)
def capSt (caps : List (Option Nat)) (σ : St) : St := caps.map fun o => o.bind fun j => σ.getD j none
theorem relabel_look {scope : Scope} {env : Env} {x : Str} {k : NameKind} (h : (relabel scope env).names.lookup x = some k) : ∃ k', (x, k') ∈ scope.names ∧ (k = k' ∨ k' = .free) := by
  unfold relabel at h
  have hm := PySem.mem_of_lookup h
  obtain ⟨⟨n, k'⟩, h1, h2⟩ := List.mem_map.mp hm
  dsimp only at h2
  split at h2
  · rename_i hc
    cases h2
    simp only [Bool.and_eq_true, beq_iff_eq] at hc
    exact ⟨k', h1, .inr hc.1.1⟩
  · cases h2
    exact ⟨k, h1, .inl rfl⟩
section
variable {X : Cx} {pins : List (Addr × Obj)} {σ : St} {H : Hp} {s : Shared} {scope : Scope} {N' : List Str} {caps : List (Option Nat)}
theorem CompScope.cells (S : CompScope X scope N' caps) (ok : X.Ok) : ∀ z ∈ scope.names, z.2 = .free → ∃ c, X.env.cells.lookup z.1 = some c := fun z hz hf => ok.has z.1 (.inl (S.frees z hz hf))
theorem comp_enter (S : CompScope X scope N' caps) {s3 : Shared} {H3 : Hp} {h1 : Heap} {fp : List Addr} {m0 : Str → Option Value} {tk : Nat} (I : Inv X pins σ H3 s3) (hfp : ∀ b ∈ fp, FpOk X pins H3 b) (hfl : ∀ b ∈ fp, b < s3.heap.objs.size)
    (hn : h1.Ns s3.heap.objs.size m0) (kp : ∀ b o, s3.heap.get? b = some o → h1.get? b = some o) :
    Inv (compCx X N' scope s3.heap.objs.size s3 H3 fp pins) [] (capSt caps σ) H3 { s3 with heap := h1, toks := tk } := by
  have hc := S.cells I.ok
  have sub := cls_sub (env := X.env) scope.names [] hc (fun x c e => by simp at e)
  have notstk : ∀ b, b ≠ X.env.locals → b ∉ X.fs → b ∉ frs X.stack := fun b h1 h2 hb => by
    rcases List.mem_cons.mp (I.stkSub b hb) with z | z
    · exact h1 z
    · exact h2 z
  have ok : (compCx X N' scope s3.heap.objs.size s3 H3 fp pins).Ok := by
    refine ⟨I.ok.mod, S.kind, I.ok.glob, I.ok.blt, Nat.le_refl _, fun x y c e1 e2 => I.ok.inj x y c (sub x c e1) (sub y c e2), fun x hx => ?_, fun x c hf => (by cases hf), I.ok.hd, I.ok.frames, .inl rfl, fun b hb => ?_, I.bs, Nat.le_trans I.ok.bsz I.sz, fun b o e hb => ?_, fun b hb => ?_, I.stack, I.stkFree⟩
    · have hx' : (relabel scope X.env).names.lookup x = some .cell ∨ (relabel scope X.env).names.lookup x = some .free := hx
      refine cls_has scope.names [] x (.inl ?_)
      rcases hx' with z | z
      · obtain ⟨k', m1, m2⟩ := relabel_look z
        rcases m2 with m2 | m2
        · exact absurd m2.symm (S.nocell _ m1)
        · rw [m2] at m1; exact m1
      · obtain ⟨k', m1, m2⟩ := relabel_look z
        rcases m2 with m2 | m2
        · rw [← m2] at m1; exact m1
        · rw [m2] at m1; exact m1
    · exact ⟨Nat.ne_of_lt (hfl b hb), fun x c e => (hfp b hb).2.2.2.2.1 x c (sub x c e)⟩
    · obtain ⟨_, f1, f2, f3, _⟩ := hfp b hb
      rcases f3 with z | z
      · exact I.ok.noex b o e z
      · exact absurd (Nat.lt_of_lt_of_le (Heap.lt_size (I.ok.bs b o e).1) z) (Nat.lt_irrefl _)
    · exact notstk b (hfp b hb).2.1 (hfp b hb).2.2.1
  have Cn : H3 s3.heap.objs.size = none := I.hok.fresh (Nat.le_refl _)
  refine ⟨ok, rfl, I.bare, Un.kept kp, ⟨m0, hn, fun i x v e1 e2 e3 => ?_⟩, fun x c e => ?_, Cn, fun x c e => I.freeC x c (sub x c e), fun p hp => ?_, I.hok.kept kp, ?_⟩
  · -- a captured name
    have e2' : (caps.map fun o => o.bind fun j => σ.getD j none)[i]? = some (some v) := e2
    rw [List.getElem?_map] at e2'
    cases q : caps[i]? with
    | none => rw [q] at e2'; cases e2'
    | some o =>
      rw [q] at e2'
      simp only [Option.map_some, Option.some.injEq] at e2'
      cases o with
      | none => cases e2'
      | some j =>
        have e2'' : σ.getD j none = some v := e2'
        have e4 : σ[j]? = some (some v) := by
          rw [List.getD_eq_getElem?_getD] at e2''
          cases q2 : σ[j]? with
          | none => rw [q2] at e2''; cases e2''
          | some z => rw [q2] at e2''; simp at e2''; rw [e2'']
        obtain ⟨y, c1, c2, c3, c4, c5⟩ := S.cap i j q
        have e1' : N'[i]? = some x := e1
        have exy : y = x := Option.some.inj (c1.symm.trans e1')
        subst exy
        obtain ⟨m, hm, hl⟩ := I.loc
        obtain ⟨u, r, l⟩ := hl j y v c2 e4 (.inr (.inl c4))
        refine ⟨u, r, ?_⟩
        rcases l with ⟨k, _⟩ | ⟨_, c, ec, z⟩
        · have : X.env.kindOf y = some .cell := c4
          rw [this] at k; cases k
        · obtain ⟨c', hc'⟩ := cls_has (env := X.env) scope.names [] y (.inl c3)
          have := sub y c' hc'
          rw [ec] at this; cases this
          have z' : h1.IsCell c (some u) := by
            obtain ⟨ob, eo, ed⟩ := z
            exact ⟨ob, kp c ob eo, ed⟩
          exact .inr ⟨c5, c, hc', z'⟩
  · obtain ⟨v, ob, eo, ed⟩ := I.cell x c (sub x c e)
    exact ⟨v, ob, kp c ob eo, ed⟩
  · have hp' : p ∈ X.pn ++ pins := by
      have : p ∈ (X.pn ++ pins) ++ [] := hp
      simpa using this
    obtain ⟨a1, a2, a3, a4, a5⟩ := I.pin p hp'
    exact ⟨kp _ _ a1, a2, Nat.ne_of_lt (Heap.lt_size a1), notstk _ a3 a4, a5⟩
  · show (caps.map _).length = N'.length
    rw [List.length_map, S.len]
end
end L2
set_option maxRecDepth 100000
namespace L2
open PySem PySem.Spec PyProof.Rows Geo PySem.W STab
def PIf (Y : Cx) (ifs : List Expr) (t : TT) : Prop :=
  ∀ (pins : List (Addr × Obj)) (s : Shared) (σ : St) (H : Hp) (Q : Bool → Hp → Prop), Inv Y pins σ H s → t σ H Q →
    wpAny (model Y.prog Y.w) Y.A (forIn ifs true fun c r => if r = true then do let ok ← isTrue c Y.env (eval c Y.env); pure (ForInStep.yield ok) else pure (ForInStep.yield r)) (TP Y pins σ Q) Y.xe s
def tYes : TT := fun _ H Q => Q true H
theorem pif_nil {Y : Cx} : PIf Y [] tYes := fun _ _ _ H _ I h => wpAny_tests_nil ⟨H, I, h⟩
theorem pif_one {Y : Cx} {c : Expr} {t : TT} (h : PT Y c t) : PIf Y [c] t := fun pins s σ H Q I hq => wpAny_tests_one (h pins s σ H Q I hq)
def tComp (caps : List (Option Nat)) (wi : TI) (g : TG) (tt : TT) (te : TE) : TE := fun σ H Q => wi σ H fun J H1 => ∀ D, H1 D = none →
  ∃ W : Nat → Nat → St → Hp → Prop, (∃ m, W 0 m (capSt caps σ) (upd H1 D (.lst []))) ∧ ∀ i m σ' H', W i m σ' H' →
    (J.stop i H' ∧ Q (.ref D) H') ∨ (J.go i H' ∧ ∃ N : St → Hp → Prop, (∀ σ2 H2, N σ2 H2 → ∃ m', m' < m ∧ W (i + 1) m' σ2 H2) ∧
      ∀ x H2, J.yld i H' x H2 → g x σ' H2 fun σ3 H3 => tt σ3 H3 fun ok H4 => if ok = true then te σ3 H4 fun y H5 => ∃ ys, H5 D = some (.lst ys) ∧ ys.length < sizeLine ∧ N σ3 (upd H5 D (.lst (ys ++ [y]))) else N σ3 H4)
section
variable {X : Cx} {scope : Scope} {N' : List Str} {caps : List (Option Nat)} {tg iter elt : Expr} {ifs : List Expr} {wi : TI} {g : TG} {tt : TT} {te : TE} {pos : Pos}
theorem comp_core (S : CompScope X scope N' caps) (hc : X.calm = true) (hg : ∀ C s3 H3 fp pins, PG (compCx X N' scope C s3 H3 fp pins) tg g) (ht : ∀ C s3 H3 fp pins, PIf (compCx X N' scope C s3 H3 fp pins) ifs tt) (he : ∀ C s3 H3 fp pins, PE (compCx X N' scope C s3 H3 fp pins) elt te)
    {pins : List (Addr × Obj)} {σ : St} {H : Hp} {s2 : Shared} {it : Addr} {fp : List Addr} {tn : Nat → Heap → Prop} {J : It} {Q : VK} {E : Value → Shared → Prop} {RR : Value → Addr → Result → Shared → Prop}
    (I : Inv X pins σ H s2) (T : Turn X.prog X.w X.K tg J fp it tn) (st : tn 0 s2.heap) (hfp : ∀ b ∈ fp, FpOk X pins H b)
    (rd : ∀ D, H D = none → ∃ W : Nat → Nat → St → Hp → Prop, (∃ m, W 0 m (capSt caps σ) (upd H D (.lst []))) ∧ ∀ i m σ' H', W i m σ' H' →
      (J.stop i H' ∧ Q (.ref D) H') ∨ (J.go i H' ∧ ∃ N : St → Hp → Prop, (∀ σ2 H2, N σ2 H2 → ∃ m', m' < m ∧ W (i + 1) m' σ2 H2) ∧
        ∀ x H2, J.yld i H' x H2 → g x σ' H2 fun σ3 H3 => tt σ3 H3 fun ok H4 => if ok = true then te σ3 H4 fun y H5 => ∃ ys, H5 D = some (.lst ys) ∧ ys.length < sizeLine ∧ N σ3 (upd H5 D (.lst (ys ++ [y]))) else N σ3 H4))
    (fin : ∀ D C s' H', Inv X pins σ H' s' → FpOk X pins H' C → (∃ m, s'.heap.Ns C m) → Q (.ref D) H' → RR (.ref D) C (.ok .next) s') :
    wpAny (model X.prog X.w) X.A (newList []) (fun acc s3 => wpAny (model X.prog X.w) X.A (newFunctionEnv scope X.env.globals (cls scope.names X.env []) [] X.env.qual none .none (some X.env)) (fun cenv s4 =>
      codeAny (model X.prog X.w) X.A (.compStart (.ListComp elt [⟨tg, iter, ifs, 0⟩] scope pos) 0 (.ref it) acc { cenv with scope := relabel scope X.env }) (RR acc cenv.locals) s4) E s3) E s2 := by
  have nD : H s2.heap.objs.size = none := I.hok.fresh (Nat.le_refl _)
  obtain ⟨W, ⟨m0, w0⟩, turn⟩ := rd s2.heap.objs.size nD
  have hfl : ∀ b ∈ fp, b < s2.heap.objs.size := fun b hb => by
    obtain ⟨o, e, _⟩ := T.obj 0 _ st b hb
    exact Heap.lt_size e
  refine wpAny_newObj_type ?_
  have I3 : Inv X pins σ (upd H s2.heap.objs.size (.lst [])) { s2 with heap := s2.heap.push { cls := .type "list", dict := none, data := .seq ([] : List Value).toArray } } :=
    I.laid (t' := s2.toks) (fun b u e => Heap.get?_push_of_some _ e) (Nat.le_refl _) ⟨Nat.zero_le _, [], 0, .nil, Heap.get?_push_size _ rfl⟩
  have ps : (s2.heap.push { cls := .type "list", dict := none, data := .seq ([] : List Value).toArray }).objs.size = s2.heap.objs.size + 1 := Heap.size_push ..
  refine wpAny_newFunctionEnv S.nocell (by intro y hy; simp at hy) (fun h1 hns hsb => ?_) S.kind
  dsimp only at hns hsb ⊢
  generalize hH3 : s2.heap.push { cls := .type "list", dict := none, data := .seq ([] : List Value).toArray } = G3 at I3 hns hsb ps ⊢
  have kp : ∀ b o, G3.get? b = some o → h1.get? b = some o := fun b o e => (hsb.2 b (Nat.ne_of_lt (Heap.lt_size e))).trans (Heap.get?_push_of_some _ e)
  have nfp : ∀ b ∈ fp, b ≠ s2.heap.objs.size := fun b hb => Nat.ne_of_lt (hfl b hb)
  have hfp3 : ∀ b ∈ fp, FpOk X pins (upd H s2.heap.objs.size (.lst [])) b := fun b hb => ⟨by rw [upd_ne (nfp b hb)]; exact (hfp b hb).1, (hfp b hb).2⟩
  have I4 := comp_enter (fp := fp) (tk := s2.toks + ([] : List (Str × Value)).length) S I3 hfp3 (fun b hb => by show b < G3.objs.size; rw [ps]; exact Nat.lt_succ_of_lt (hfl b hb)) hns kp
  have st4 : tn 0 h1 := T.keep _ _ _ st fun b hb o e => kp b o (by rw [← hH3]; exact Heap.get?_push_of_some _ e)
  have stat : ∀ {H' : Hp}, (∀ b ∈ fp, H' b = none) → ∀ b ∈ fp, FpOk (compCx X N' scope G3.objs.size { s2 with heap := G3 } (upd H s2.heap.objs.size (.lst [])) fp pins) [] H' b := fun {H'} hn b hb => by
    obtain ⟨f0, f1, f2, f3, f4, f5⟩ := hfp b hb
    refine ⟨hn b hb, (I4.ok.exf b hb).1, I4.ok.exfs b hb, .inl hb, (I4.ok.exf b hb).2, fun p hp => ?_⟩
    have hp' : p ∈ (X.pn ++ pins) ++ [] := hp
    exact f5 p (by simpa using hp')
  have loop : codeAny (model X.prog X.w) X.A (.compLoop (.ListComp elt [⟨tg, iter, ifs, 0⟩] scope pos) 0 (.ref it) (.ref s2.heap.objs.size) (compEnvC scope (cls scope.names X.env []) G3.objs.size X.env))
      (RR (.ref s2.heap.objs.size) G3.objs.size) { s2 with heap := h1, toks := s2.toks + ([] : List (Str × Value)).length } := by
    refine codeAny_loop rfl (fun n s' => ∃ i σ' H', Inv (compCx X N' scope G3.objs.size { s2 with heap := G3 } (upd H s2.heap.objs.size (.lst [])) fp pins) [] σ' H' s' ∧ tn i s'.heap ∧ (∀ b ∈ fp, H' b = none) ∧ W i n σ' H') (fun n s5 hI => ?_) m0
      ⟨0, _, _, I4, st4, fun b hb => (hfp3 b hb).1, w0⟩
    obtain ⟨i, σ5, H5, I5, st5, fr5, w5⟩ := hI
    show wpAny _ X.A ((compTurn (.ListComp elt [⟨tg, iter, ifs, 0⟩] scope pos) 0 (.ref it) (.ref s2.heap.objs.size) (compEnvC scope (cls scope.names X.env []) G3.objs.size X.env)).onRaise (fun x => do noteFrame x (compEnvC scope (cls scope.names X.env []) G3.objs.size X.env); theTreesLotGoes x)) _ _ s5
    refine wpAny_noted ?_
    rw [compTurn_list]
    have nox : ∀ {α : Type} {t : Sem α} {R : α → Shared → Prop} {E' : Value → Shared → Prop} {s : Shared}, wpAny (model X.prog X.w) X.A t R (fun _ _ => False) s → wpAny (model X.prog X.w) X.A t R E' s := fun h => wpAny_mono h (fun _ _ x => x) fun _ _ z => z.elim
    rcases turn i n σ5 H5 w5 with ⟨stop, qn⟩ | ⟨go, N, hN, step⟩
    · refine wpAny_bind (wpAny_standAt (wpAny_bind (nox (thn (T.done (compCx X N' scope G3.objs.size { s2 with heap := G3 } (upd H s2.heap.objs.size (.lst [])) fp pins) rfl rfl rfl hc i [] s5 σ5 H5 _ I5 (stat fr5) st5 stop) fun r s6 ⟨hr, I6⟩ => ?_))))
      subst hr
      refine wpAny_pure ?_
      have un : Un (frs X.stack) fp (upd H s2.heap.objs.size (.lst [])) H5 G3 s6.heap := I6.base
      have I7 : Inv X pins σ H5 s6 := I3.call' (ch := fp) I6.os un I6.hok I6.bare fun b hb => by
        obtain ⟨_, f1, _, f3, f4, f5⟩ := hfp b hb
        exact ⟨f3, f1, f4, f5⟩
      have fC : FpOk X pins H5 G3.objs.size := I3.fpOk (Nat.le_refl _) I6.free
      obtain ⟨mC, hmC, _⟩ := I6.loc
      exact fin _ _ s6 H5 I7 fC ⟨mC, hmC⟩ qn
    · refine wpAny_bind (wpAny_standAt (wpAny_bind (nox (thn (T.item (compCx X N' scope G3.objs.size { s2 with heap := G3 } (upd H s2.heap.objs.size (.lst [])) fp pins) rfl rfl rfl hc i [] s5 σ5 H5 _ I5 (stat fr5) st5 go) fun r s6 ⟨u, hr, h6⟩ => ?_))))
      subst hr
      dsimp only
      refine wpAny_bind (nox (thn h6 fun _ s7 ⟨x, H7, I7, r7, y7, st7, fr7⟩ => ?_))
      have I7' := I7.pinned (stat fr7) (T.obj _ _ st7)
      refine wpAny_bind (nox (thn (hg _ _ _ _ _ _ s7 σ5 H7 x u _ I7' r7 (step x H7 y7)) fun _ s8 ⟨σ8, H8, I8, q8⟩ => ?_))
      refine wpAny_bind (nox (thn (ht _ _ _ _ _ _ s8 σ8 H8 _ I8 q8) fun ok s9 ⟨H9, I9, q9⟩ => ?_))
      have again : ∀ {s10 : Shared} {H10 : Hp}, Inv (compCx X N' scope G3.objs.size { s2 with heap := G3 } (upd H s2.heap.objs.size (.lst [])) fp pins) ([] ++ pinsAt fp s7.heap) σ8 H10 s10 → N σ8 H10 →
          ∃ m, m < n ∧ ∃ i σ' H', Inv (compCx X N' scope G3.objs.size { s2 with heap := G3 } (upd H s2.heap.objs.size (.lst [])) fp pins) [] σ' H' s10 ∧ tn i s10.heap ∧ (∀ b ∈ fp, H' b = none) ∧ W i m σ' H' := fun {s10 H10} J10 n10 => by
        obtain ⟨m', hm, w10⟩ := hN σ8 H10 n10
        refine ⟨m', hm, i + 1, σ8, H10, J10.unpinned, T.keep _ _ _ st7 fun b hb o e => (J10.pin (b, o) (List.mem_append_right _ (List.mem_append_right _ (mem_pinsAt hb e)))).1, fun b hb => ?_, w10⟩
        obtain ⟨o, e, d⟩ := T.obj _ _ st7 b hb
        exact (J10.pin (b, o) (List.mem_append_right _ (List.mem_append_right _ (mem_pinsAt hb e)))).2.1
      cases ok with
      | false =>
        rw [if_neg Bool.false_ne_true] at q9
        exact wpAny_pure ⟨rfl, again I9 q9⟩
      | true =>
        rw [if_pos rfl] at q9
        refine wpAny_bind (wpAny_bind (nox (thn (he _ _ _ _ _ _ s9 σ8 H9 _ I9 q9) fun y s10 ⟨yv, H10, I10, r10, ys, hD, hz, n10⟩ => ?_)))
        refine wpAny_bind (nox (thn (mt_append (X := compCx X N' scope G3.objs.size { s2 with heap := G3 } (upd H s2.heap.objs.size (.lst [])) fp pins) _ s10 σ8 H10 (.ref s2.heap.objs.size) [yv] (.ref s2.heap.objs.size) [y] (fun _ H' => H' = upd H10 s2.heap.objs.size (.lst (ys ++ [yv]))) I10 rfl (.cons r10 .nil)
          ⟨s2.heap.objs.size, ys, yv, rfl, rfl, hD, hz, rfl⟩) fun _ s11 ⟨_, H11, I11, _, e11⟩ => ?_))
        subst e11
        exact wpAny_pure (wpAny_pure ⟨rfl, again I11 n10⟩)
  exact codeAny_compStart_list loop (T.self X.A 0 _ _ _ st4 loop)
theorem pe_comp (S : CompScope X scope N' caps) (hc : X.calm = true) (hi : PI X tg iter wi) (hg : ∀ C s3 H3 fp pins, PG (compCx X N' scope C s3 H3 fp pins) tg g) (ht : ∀ C s3 H3 fp pins, PIf (compCx X N' scope C s3 H3 fp pins) ifs tt) (he : ∀ C s3 H3 fp pins, PE (compCx X N' scope C s3 H3 fp pins) elt te)
    (hs : ∀ x, foldedSetIterable iter X.env x = pure x := by intro _; rfl) : PE X (.ListComp elt [⟨tg, iter, ifs, 0⟩] scope pos) (tComp caps wi g tt te) := by
  intro pins s σ H Q I h
  rw [eval_ListComp]
  refine wpAny_comprehension_free (use := none) rfl hs (clos_eq (S.cells I.ok)) S.kind S.names (thn (hi pins s σ H _ I h) fun v s1 h1 => thn h1 fun itv s2 h2 => ?_)
  obtain ⟨it, fp, tn, J, H2, e, I2, T, st2, f2, rd⟩ := h2
  subst e
  refine comp_core S hc hg ht he I2 T st2 f2 rd fun D C s' H' I' fC hm q => ?_
  obtain ⟨m, hm⟩ := hm
  obtain ⟨f0, f1, _, f3, f4, f5⟩ := fC
  exact ⟨m, hm, fun h' sb => ⟨.ref D, H', I'.turned (t' := s'.toks) (fun b o hb e => (sb.2 b hb).trans e) f0 f1 f3 f4 f5, rfl, q⟩⟩
theorem ps_setC {i : Nat} {x : Str} {pos' spos : Pos} (hN : X.N.Nodup) (hi' : X.N[i]? = some x) (hx : X.env.scope.names.lookup x = some .local) (S : CompScope X scope N' caps) (hc : X.calm = true) (hi : PI X tg iter wi) (hg : ∀ C s3 H3 fp pins, PG (compCx X N' scope C s3 H3 fp pins) tg g)
    (ht : ∀ C s3 H3 fp pins, PIf (compCx X N' scope C s3 H3 fp pins) ifs tt) (he : ∀ C s3 H3 fp pins, PE (compCx X N' scope C s3 H3 fp pins) elt te) (hsw : swapsWith (.ListComp elt [⟨tg, iter, ifs, 0⟩] scope pos) (some (.Name x pos')) spos.line X.env = pure true)
    (hs : ∀ x, foldedSetIterable iter X.env x = pure x := by intro _; rfl) : PS X (.Assign [.Name x pos'] (.ListComp elt [⟨tg, iter, ifs, 0⟩] scope pos) spos) (tAsg (tComp caps wi g tt te) (gName i)) := by
  intro pins s σ H D I h
  rw [exec_Assign_Name_used _ _ _ _ hsw]
  refine wpAny_bind (wpAny_standAt (wpAny_bind ?_))
  show wpAny _ X.A (comprehension (.ListComp elt [⟨tg, iter, ifs, 0⟩] scope pos) scope X.env _ (newList []) false (eval iter X.env) (some (assign (.Name x pos') X.env)) >>= fun _ => pure ()) _ _ s
  refine wpAny_bind (thn (Q := fun _ s' => SP X pins D .next s') (wpAny_comprehension_free (use := some (assign (.Name x pos') X.env)) rfl hs (clos_eq (S.cells I.ok)) S.kind S.names
    (thn (hi pins s σ H _ I h) fun v s1 h1 => thn h1 fun itv s2 h2 => ?_)) fun _ s' hq => wpAny_pure (wpAny_pure hq))
  obtain ⟨it, fp, tn, J, H2, e, I2, T, st2, f2, rd⟩ := h2
  subst e
  refine comp_core (Q := fun x H1 => gName i x σ H1 D.nx) (RR := fun acc C => compPost (model X.prog X.w) X.A X.xe (some (assign (.Name x pos') X.env)) (fun _ s' => SP X pins D .next s') acc C) S hc hg ht he I2 T st2 f2 rd fun D' C s' H' I' fC hm q => ?_
  obtain ⟨m, hm⟩ := hm
  obtain ⟨f0, f1, f2', f3, f4, f5⟩ := fC
  show wpAny _ X.A (assign (.Name x pos') X.env (.ref D')) _ _ _
  refine wpAny_assign_Name (store_ok2 I' hN hi' (.inl hx) (v := .ref D') (u := .ref D') rfl (fun s'' I'' ⟨a, sb, ha⟩ => ?_) (.inr hx))
  have nC : C ≠ a := by
    rcases ha with z | z
    · rw [z]; exact f1
    · exact fun q => f4 x a z q.symm
  refine ⟨m, hm.sameBut sb nC, fun h' sb' => ?_⟩
  exact ⟨_, H', I''.turned (t' := s''.toks) (fun b o hb e => (sb'.2 b hb).trans e) f0 f1 f3 f4 f5, q⟩
end
end L2
set_option maxRecDepth 100000
namespace L2
open PySem Geo
theorem Same.keep {H H' : Hp} (h : Same H H') : Keep H H' := fun a xs e => h a _ e
theorem same_upd {H H' : Hp} {r : Addr} {o : HO} (h : Same H H') (n : H r = none) : Same H (upd H' r o) := fun b u e => by rw [upd_ne (ne_of_none e n)]; exact h b u e
theorem mulOk (i j : Int) (h1 : -3000 ≤ i) (h2 : i ≤ 3000) : CMul i j := .inl ⟨Int.lt_of_lt_of_le (by decide) h1, Int.lt_of_le_of_lt h2 (by decide)⟩
theorem IsPt.same {H H' : Hp} {v : V} {p : Pt} (h : IsPt H v p) (s : Same H H') : IsPt H' v p := IsPt.keep h (Same.keep s)
theorem comp_list {K : PySem.W.Frag} {a D : Addr} {xs : List V} {g : TG} {tt : TT} {te : TE} {R : Hp → Prop} {σ0 : St} {H : Hp} (Pv : Nat → St → Hp → Prop) (h0 : Pv 0 σ0 H) (hl : ∀ i σ H, i ≤ xs.length → Pv i σ H → SqL K H a xs)
    (hs : ∀ i x σ H, xs[i]? = some x → Pv i σ H → g x σ H fun σ3 H3 => tt σ3 H3 fun ok H4 => if ok = true then te σ3 H4 fun y H5 => ∃ ys, H5 D = some (.lst ys) ∧ ys.length < sizeLine ∧ Pv (i + 1) σ3 (upd H5 D (.lst (ys ++ [y]))) else Pv (i + 1) σ3 H4)
    (hd : ∀ σ H, Pv xs.length σ H → R H) :
    ∃ W : Nat → Nat → St → Hp → Prop, (∃ m, W 0 m σ0 H) ∧ ∀ i m σ' H', W i m σ' H' →
      ((Itl K a).stop i H' ∧ R H') ∨ ((Itl K a).go i H' ∧ ∃ N : St → Hp → Prop, (∀ σ2 H2, N σ2 H2 → ∃ m', m' < m ∧ W (i + 1) m' σ2 H2) ∧
        ∀ x H2, (Itl K a).yld i H' x H2 → g x σ' H2 fun σ3 H3 => tt σ3 H3 fun ok H4 => if ok = true then te σ3 H4 fun y H5 => ∃ ys, H5 D = some (.lst ys) ∧ ys.length < sizeLine ∧ N σ3 (upd H5 D (.lst (ys ++ [y]))) else N σ3 H4) := by
  refine ⟨fun i m σ H => m = xs.length - i ∧ i ≤ xs.length ∧ Pv i σ H, ⟨xs.length, by simp, Nat.zero_le _, h0⟩, ?_⟩
  rintro i m σ H ⟨rfl, hi, p⟩
  have q := hl i σ H hi p
  by_cases hlt : i < xs.length
  · refine .inr ⟨⟨xs, xs[i], q, by simp [hlt]⟩, Pv (i + 1), fun σ' H' p' => ⟨xs.length - (i + 1), by omega, rfl, hlt, p'⟩, fun x H' y => ?_⟩
    obtain ⟨e, y⟩ := y
    subst e
    exact hs i x σ _ (y xs q) p
  · have e : i = xs.length := by omega
    subst e
    exact .inl ⟨⟨xs, q, Nat.le_refl _⟩, hd σ H p⟩
theorem comp_tup {K : PySem.W.Frag} {a D : Addr} {xs : List V} {g : TG} {tt : TT} {te : TE} {R : Hp → Prop} {σ0 : St} {H : Hp} (Pv : Nat → St → Hp → Prop) (h0 : Pv 0 σ0 H) (hl : ∀ i σ H, i ≤ xs.length → Pv i σ H → SqT K H a xs)
    (hs : ∀ i x σ H, xs[i]? = some x → Pv i σ H → g x σ H fun σ3 H3 => tt σ3 H3 fun ok H4 => if ok = true then te σ3 H4 fun y H5 => ∃ ys, H5 D = some (.lst ys) ∧ ys.length < sizeLine ∧ Pv (i + 1) σ3 (upd H5 D (.lst (ys ++ [y]))) else Pv (i + 1) σ3 H4)
    (hd : ∀ σ H, Pv xs.length σ H → R H) :
    ∃ W : Nat → Nat → St → Hp → Prop, (∃ m, W 0 m σ0 H) ∧ ∀ i m σ' H', W i m σ' H' →
      ((Itt K a).stop i H' ∧ R H') ∨ ((Itt K a).go i H' ∧ ∃ N : St → Hp → Prop, (∀ σ2 H2, N σ2 H2 → ∃ m', m' < m ∧ W (i + 1) m' σ2 H2) ∧
        ∀ x H2, (Itt K a).yld i H' x H2 → g x σ' H2 fun σ3 H3 => tt σ3 H3 fun ok H4 => if ok = true then te σ3 H4 fun y H5 => ∃ ys, H5 D = some (.lst ys) ∧ ys.length < sizeLine ∧ N σ3 (upd H5 D (.lst (ys ++ [y]))) else N σ3 H4) := by
  refine ⟨fun i m σ H => m = xs.length - i ∧ i ≤ xs.length ∧ Pv i σ H, ⟨xs.length, by simp, Nat.zero_le _, h0⟩, ?_⟩
  rintro i m σ H ⟨rfl, hi, p⟩
  have q := hl i σ H hi p
  by_cases hlt : i < xs.length
  · refine .inr ⟨⟨xs, xs[i], q, by simp [hlt]⟩, Pv (i + 1), fun σ' H' p' => ⟨xs.length - (i + 1), by omega, rfl, hlt, p'⟩, fun x H' y => ?_⟩
    obtain ⟨e, y⟩ := y
    subst e
    exact hs i x σ _ (y xs q) p
  · have e : i = xs.length := by omega
    subst e
    exact .inl ⟨⟨xs, q, Nat.le_refl _⟩, hd σ H p⟩
def ifBody : Stmt → List Stmt
  | .If _ b _ _ => b
  | _ => []
def asgVal : Stmt → Expr
  | .Assign _ v _ => v
  | _ => .Constant .none 0 ⟨0, 0, 0, 0⟩
def lcScope (d : Scope) : Expr → Scope
  | .ListComp _ _ s _ => s
  | _ => d
def nth (l : List Stmt) (i : Nat) : Stmt := l.getD i (.Pass ⟨0, 0, 0, 0⟩)
theorem ixt {X : Cx} {K' : PySem.W.Frag} (h : X.K = K') : IxR X (rIxT K') := h ▸ ix_tup
end L2
set_option maxRecDepth 100000
namespace L2
open PySem PySem.Spec PyProof.Rows Geo
section
variable {X : Cx} {pins : List (Addr × Obj)} {σ : St} {H : Hp} {s : Shared} {h' : Heap}
theorem Inv.turnedNew {ch : List Addr} {T : Addr} {o : HO} {t' : Nat} (I : Inv X pins σ H s) (k : ∀ b u, b ∉ ch → s.heap.get? b = some u → h'.get? b = some u) (hf : ∀ b ∈ ch, FpOk X pins H b) (hT : s.heap.objs.size ≤ T)
    (new : ObjOk X.prog X.w (upd H T o) h' T o) : Inv X pins σ (upd H T o) { s with heap := h', toks := t' } := by
  have nT : H T = none := I.hok.fresh hT
  have neT : ∀ b u, H b = some u → b ≠ T := fun b u e => ne_of_none e nT
  have nch : ∀ b u, H b = some u → b ∉ ch := fun b u e hb => by
    have := (hf b hb).1
    rw [e] at this; cases this
  refine I.step (g' := s.gens) (d' := s.drawn) (ch := ch) (fun b hb => ?_) (fun b o _ _ hc e _ => k b o hc e) (fun b o _ _ hc e _ => ⟨o.slots, k b o hc e⟩) (fun b o _ e n => ?_) (fun b o hc e => ⟨o, k b o hc e⟩)
    (fun b xs e => by rw [upd_ne (neT b _ e)]; exact e) (fun b ob u e => by rw [upd_ne (neT b _ e)]; exact e) (fun b ps e => ⟨#[], by rw [upd_ne (neT b _ e), e]; simp⟩) (fun m hm => ?_) (fun b u e => ?_) I.bare
  · obtain ⟨f0, f1, f2, f3, f4, f5⟩ := hf b hb
    exact ⟨f3, f1, f4, f5⟩
  · have : b ≠ T := Nat.ne_of_lt (Nat.lt_of_lt_of_le (Heap.lt_size e) hT)
    rw [upd_ne this]; exact n
  · obtain ⟨o, es, ep, ho, r⟩ := hm
    exact ⟨o, es, ep, k _ o (fun hb => (hf _ hb).2.1 rfl) ho, r⟩
  · by_cases hb : b = T
    · subst hb; rw [upd_same] at e; cases e; exact new
    · rw [upd_ne hb] at e
      refine (I.hok b u e).stay (fun c v hc q => k c v ?_ q) (fun c q => by rw [upd_ne (neT c _ q)]; exact q) fun c xs q => by rw [upd_ne (neT c _ q)]; exact q
      rcases hc with z | z
      · rw [z]; exact nch b u e
      · exact nch c _ z
theorem Inv.turnedL {ch : List Addr} {t' : Nat} (I : Inv X pins σ H s) (k : ∀ b u, b ∉ ch → s.heap.get? b = some u → h'.get? b = some u) (hf : ∀ b ∈ ch, FpOk X pins H b) : Inv X pins σ H { s with heap := h', toks := t' } := by
  have nch : ∀ b u, H b = some u → b ∉ ch := fun b u e hb => by
    have := (hf b hb).1
    rw [e] at this; cases this
  refine I.step (g' := s.gens) (d' := s.drawn) (ch := ch) (fun b hb => ?_) (fun b o _ _ hc e _ => k b o hc e) (fun b o _ _ hc e _ => ⟨o.slots, k b o hc e⟩) (fun _ _ _ _ n => n) (fun b o hc e => ⟨o, k b o hc e⟩)
    (fun _ _ e => e) (fun _ _ _ e => e) (fun b ps e => ⟨#[], by rw [e]; simp⟩) (fun m hm => ?_) (fun b u e => ?_) I.bare
  · obtain ⟨f0, f1, f2, f3, f4, f5⟩ := hf b hb
    exact ⟨f3, f1, f4, f5⟩
  · obtain ⟨o, es, ep, ho, r⟩ := hm
    exact ⟨o, es, ep, k _ o (fun hb => (hf _ hb).2.1 rfl) ho, r⟩
  · refine (I.hok b u e).stay (fun c v hc q => k c v ?_ q) (fun _ q => q) fun _ _ q => q
    rcases hc with z | z
    · rw [z]; exact nch b u e
    · exact nch c _ z
end
end L2
set_option maxRecDepth 100000
namespace L2
open PySem PySem.Spec PyProof.Rows Geo
def IsTri (H : Hp) (v : V) (t : Tri) : Prop := ∃ a, v = .ref a ∧ H a = some (.tup [.int t.1, .int t.2.1, .int t.2.2])
abbrev AreTri (H : Hp) : List V → List Tri → Prop := Paired (IsTri H)
theorem IsTri.keep {H H' : Hp} {v : V} {p : Tri} (h : IsTri H v p) (k : Keep H H') : IsTri H' v p := by
  obtain ⟨a, e, h⟩ := h; exact ⟨a, e, k _ _ h⟩
theorem IsTri.same {H H' : Hp} {v : V} {p : Tri} (h : IsTri H v p) (k : Same H H') : IsTri H' v p := h.keep k.keep
theorem AreTri.keep {H H' : Hp} {vs : List V} {ps : List Tri} (h : AreTri H vs ps) (k : Keep H H') : AreTri H' vs ps := Paired.mapP h fun _ _ z => z.keep k
theorem AreTri.same {H H' : Hp} {vs : List V} {ps : List Tri} (h : AreTri H vs ps) (k : Same H H') : AreTri H' vs ps := h.keep k.keep
theorem ArePts.same {H H' : Hp} {vs : List V} {ps : List Pt} (h : ArePts H vs ps) (k : Same H H') : ArePts H' vs ps := ArePts.keep h k.keep
def IsSh (H : Hp) (v : V) (e : Pt × Int) : Prop := ∃ a c, v = .ref a ∧ H a = some (.tup [c, .int e.2]) ∧ IsPt H c e.1
abbrev AreSh (H : Hp) : List V → List (Pt × Int) → Prop := Paired (IsSh H)
theorem IsSh.keep {H H' : Hp} {v : V} {p : Pt × Int} (h : IsSh H v p) (k : Keep H H') : IsSh H' v p := by
  obtain ⟨a, c, e, h, h2⟩ := h; exact ⟨a, c, e, k _ _ h, h2.keep k⟩
theorem AreSh.same {H H' : Hp} {vs : List V} {ps : List (Pt × Int)} (h : AreSh H vs ps) (k : Same H H') : AreSh H' vs ps := Paired.mapP h fun _ _ z => z.keep k.keep
theorem mulR (i j : Int) (h1 : -4611686018427387904 ≤ j) (h2 : j ≤ 4611686018427387904) : CMul i j := by
  right; constructor <;> omega
theorem mulL (i j : Int) (h1 : -4611686018427387904 ≤ i) (h2 : i ≤ 4611686018427387904) : CMul i j := by
  left; constructor <;> omega
end L2
namespace L2
open PySem
theorem take_snoc {α : Type} {l : List α} {i : Nat} {x : α} (h : l[i]? = some x) : l.take (i + 1) = l.take i ++ [x] := by rw [List.take_add_one, h]; rfl
end L2
set_option maxRecDepth 100000
set_option linter.all false
namespace L2
open PySem PySem.Spec PyProof.Rows
section
variable {κ : Type} [DecidableEq κ]
def valV (kvs : List (κ × V)) (k : κ) : Option V := (kvs.find? fun kv => decide (kv.1 = k)).map (·.2)
def putK (kvs : List (κ × V)) (k : κ) (v : V) : List (κ × V) :=
  if (kvs.any fun kv => decide (kv.1 = k)) = true then kvs.map (fun kv => if kv.1 = k then (kv.1, v) else kv) else kvs ++ [(k, v)]
def dropK (kvs : List (κ × V)) (k : κ) : List (κ × V) := kvs.filter fun kv => decide (kv.1 ≠ k)
theorem valV_pos {p : κ × V} {r : List (κ × V)} {k : κ} (e : p.1 = k) : valV (p :: r) k = some p.2 := by simp [valV, List.find?_cons, e]
theorem valV_neg {p : κ × V} {r : List (κ × V)} {k : κ} (e : ¬ p.1 = k) : valV (p :: r) k = valV r k := by simp [valV, List.find?_cons, e]
theorem RelO.getD {o : Option V} {u : Option Value} {d : V} {d' : Value} (r : RelO o u) (rd : RelV d d') : RelV (o.getD d) (u.getD d') := by
  cases o with
  | none => cases u with
    | none => exact rd
    | some _ => exact (show False from r).elim
  | some _ => cases u with
    | none => exact (show False from r).elim
    | some _ => exact r
theorem KV.val {kvs : List (κ × V)} {vs : List (κ × Value)} (r : KV kvs vs) (k : κ) : RelO (valV kvs k) (valueAt vs k) := by
  unfold KV at r
  induction r with
  | nil => exact True.intro
  | @cons p q ps qs h t ih =>
    obtain ⟨h1, h2⟩ := h
    by_cases e : p.1 = k
    · have e' : q.1 = k := h1.symm.trans e
      have b : valueAt (q :: qs) k = some q.2 := by simp [valueAt, List.find?_cons, e']
      rw [valV_pos e, b]; exact h2
    · have e' : ¬ q.1 = k := fun z => e (h1.trans z)
      have b : valueAt (q :: qs) k = valueAt qs k := by simp [valueAt, List.find?_cons, e']
      rw [valV_neg e, b]; exact ih
theorem KV.any {kvs : List (κ × V)} {vs : List (κ × Value)} (r : KV kvs vs) (k : κ) : (kvs.any fun kv => decide (kv.1 = k)) = vs.any fun kv => decide (kv.1 = k) := by
  unfold KV at r
  induction r with
  | nil => rfl
  | cons h t ih => rw [List.any_cons, List.any_cons, ih, h.1]
theorem KV.drop {kvs : List (κ × V)} {vs : List (κ × Value)} (r : KV kvs vs) (k : κ) : KV (dropK kvs k) (without vs k) := by
  unfold KV at r ⊢
  unfold dropK without
  induction r with
  | nil => exact .nil
  | @cons p q ps qs h t ih =>
    obtain ⟨h1, h2⟩ := h
    rw [List.filter_cons, List.filter_cons]
    by_cases e : p.1 = k
    · have a : ¬ decide (p.1 ≠ k) = true := by simp [e]
      have b : ¬ decide (q.1 ≠ k) = true := by simp [h1.symm.trans e]
      rw [if_neg a, if_neg b]; exact ih
    · have e' : ¬ q.1 = k := fun z => e (h1.trans z)
      have a : decide (p.1 ≠ k) = true := by simp [e]
      have b : decide (q.1 ≠ k) = true := by simp [e']
      rw [if_pos a, if_pos b]; exact .cons ⟨h1, h2⟩ ih
theorem KV.keys {kvs : List (κ × V)} {vs : List (κ × Value)} (r : KV kvs vs) : kvs.map (·.1) = vs.map (·.1) := by
  unfold KV at r
  induction r with
  | nil => rfl
  | cons h t ih => rw [List.map_cons, List.map_cons, ih, h.1]
theorem KV.length {kvs : List (κ × V)} {vs : List (κ × Value)} (r : KV kvs vs) : kvs.length = vs.length := Paired.length r
end
abbrev KT (H : Hp) : List (List Key × V) → List (List Key × Addr × Value) → Prop := Paired fun p q => p.1 = q.1 ∧ H q.2.1 = some (.tup (p.1.map kV)) ∧ RelV p.2 q.2.2
theorem KT.val {H : Hp} {kvs : List (List Key × V)} {xs : List (List Key × Addr × Value)} (r : KT H kvs xs) (k : List Key) : RelO (valV kvs k) ((atKey xs k).map (·.2)) := by
  induction r with
  | nil => exact True.intro
  | @cons p q ps qs h t ih =>
    obtain ⟨h1, _, h2⟩ := h
    by_cases e : p.1 = k
    · have e' : q.1 = k := h1.symm.trans e
      have b : atKey (q :: qs) k = some q.2 := by simp [atKey, List.find?_cons, e']
      rw [valV_pos e, b]; exact h2
    · have e' : ¬ q.1 = k := fun z => e (h1.trans z)
      have b : atKey (q :: qs) k = atKey qs k := by simp [atKey, List.find?_cons, e']
      rw [valV_neg e, b]; exact ih
theorem KT.keeps {H H' : Hp} {kvs : List (List Key × V)} {xs : List (List Key × Addr × Value)} (r : KT H kvs xs) (ht : ∀ b ys, H b = some (.tup ys) → H' b = some (.tup ys)) : KT H' kvs xs :=
  Paired.mapP r fun _ _ z => ⟨z.1, ht _ _ z.2.1, z.2.2⟩
section
variable {P : Program} {w : World} {H : Hp} {h : Heap} {a : Addr}
end
def DGet (H : Hp) (a : Addr) (y : V) (r : Option V) : Prop :=
  (∃ kvs k, Rd H a (.dK kvs) ∧ y = kV k ∧ r = valV kvs k) ∨ ∃ kvs k b, Rd H a (.dT kvs) ∧ y = .ref b ∧ H b = some (.tup (k.map kV)) ∧ r = valV kvs k
def DPut (H : Hp) (a : Addr) (y v : V) (H' : Hp) : Prop :=
  (∃ kvs k, H a = some (.dK kvs) ∧ y = kV k ∧ kvs.length < sizeLine ∧ H' = upd H a (.dK (putK kvs k v))) ∨
  ∃ kvs k b, H a = some (.dT kvs) ∧ y = .ref b ∧ H b = some (.tup (k.map kV)) ∧ kvs.length < sizeLine ∧ H' = upd H a (.dT (putK kvs k v))
theorem DGet.k {H : Hp} {a : Addr} {kvs : List (Key × V)} {k : Key} (e : H a = some (.dK kvs)) : DGet H a (kV k) (valV kvs k) := .inl ⟨kvs, k, .inl e, rfl, rfl⟩
theorem DGet.t {H : Hp} {a b : Addr} {kvs : List (List Key × V)} {k : List Key} (e : H a = some (.dT kvs)) (eb : H b = some (.tup (k.map kV))) : DGet H a (.ref b) (valV kvs k) := .inr ⟨kvs, k, b, .inl e, rfl, eb, rfl⟩
theorem DPut.k {H : Hp} {a : Addr} {kvs : List (Key × V)} {k : Key} {v : V} (e : H a = some (.dK kvs)) (hl : kvs.length < sizeLine) : DPut H a (kV k) v (upd H a (.dK (putK kvs k v))) := .inl ⟨kvs, k, e, rfl, hl, rfl⟩
theorem DPut.t {H : Hp} {a b : Addr} {kvs : List (List Key × V)} {k : List Key} {v : V} (e : H a = some (.dT kvs)) (eb : H b = some (.tup (k.map kV))) (hl : kvs.length < sizeLine) :
    DPut H a (.ref b) v (upd H a (.dT (putK kvs k v))) := .inr ⟨kvs, k, b, e, rfl, eb, hl, rfl⟩
section
variable {X : Cx} {pins : List (Addr × Obj)} {σ : St} {H : Hp} {s : Shared} {a : Addr} {y v : V} {u r : Value} {o : Option V} {A : Around} {E : Value → Shared → Prop}
theorem Inv.big (I : Inv X pins σ H s) : sysModules < s.heap.objs.size := by
  have h : mainGlobals < s.heap.objs.size := (I.mod.glob.keeps I.bk).lt
  exact Nat.lt_trans (by decide) h
end
section
variable {X : Cx} {pins : List (Addr × Obj)} {σ : St} {H : Hp} {s : Shared} {a : Addr} {kvs : List (Key × V)} {k : Key} {u : Value} {A : Around} {E : Value → Shared → Prop}
end
section
variable {X : Cx} {o i e value : Expr} {pos pos' tpos : Pos} {td ty tv : TE}
end
section
variable {X : Cx} {pos : Pos}
end
structure M1 (X : Cx) (o : Expr) (m : Str) (apos : Pos) (e : Expr) (cpos : Pos) : Prop where
  base : attributeBase o m X.env (eval o X.env) = eval o X.env
  few : ((backTo cpos (starEach [e] X.env)).all (fun x => !x.1) && (backToKw cpos (keywordEach [] X.env)).all (fun x => x.1.isSome)
    && decide (([e] : List Expr).length + ([] : List Keyword).length + (if ([] : List Keyword).isEmpty then 0 else 1) < 30)) = true
  line : (apos.endLine == cpos.line) = true
  trees : backTo cpos (starEach [e] X.env) = [(false, eval e X.env)]
structure M2 (X : Cx) (o : Expr) (m : Str) (apos : Pos) (e f : Expr) (cpos : Pos) : Prop where
  base : attributeBase o m X.env (eval o X.env) = eval o X.env
  few : ((backTo cpos (starEach [e, f] X.env)).all (fun x => !x.1) && (backToKw cpos (keywordEach [] X.env)).all (fun x => x.1.isSome)
    && decide (([e, f] : List Expr).length + ([] : List Keyword).length + (if ([] : List Keyword).isEmpty then 0 else 1) < 30)) = true
  line : (apos.endLine == cpos.line) = true
  trees : backTo cpos (starEach [e, f] X.env) = [(false, eval e X.env), (false, eval f X.env)]
section
variable {X : Cx} {pins : List (Addr × Obj)} {σ : St} {H : Hp} {s : Shared} {a : Addr} {y d : V} {u r : Value} {o : Option V} {A : Around} {E : Value → Shared → Prop}
end
section
variable {X : Cx} {o e f : Expr} {apos cpos : Pos} {td ty tx : TE}
end
section
variable {X : Cx} {pins : List (Addr × Obj)} {σ : St} {H : Hp} {s : Shared} {a : Addr} {kvs : List (Key × V)} {A : Around} {E : Value → Shared → Prop}
end
section
variable {X : Cx} {pins : List (Addr × Obj)} {σ : St} {H : Hp} {s : Shared} {a : Addr} {y : V} {u : Value} {A : Around} {E : Value → Shared → Prop}
end
end L2
namespace L2
open PySem PySem.Spec PyProof.Rows
section
variable {X : Cx}
end
section
variable {κ : Type} [DecidableEq κ]
end
end L2
set_option maxRecDepth 100000
namespace L2
open PySem PySem.Spec PyProof.Rows Geo
section
variable {prog : Program} {w : World} {A : Around} {E : Value → Shared → Prop} {s : Shared}
structure Feed (prog : Program) (w : World) (A : Around) (it S : Addr) (n : Nat) (J : Nat → List Value → Heap → Prop) (Fin : List Value → Heap → Prop) : Prop where
  off : ∀ i acc h h', J i acc h → (∀ b o, b ≠ S → h.get? b = some o → h'.get? b = some o) → J i acc h'
  item : ∀ i acc (s : Shared) (Q : Option Value → Shared → Prop) (E : Value → Shared → Prop), i < n → J i acc s.heap → (∃ o, s.heap.get? S = some o) →
    (∀ v h' tk, J (i + 1) (acc ++ [v]) h' → (∀ o, s.heap.get? S = some o → h'.get? S = some o) → Q (some v) { s with heap := h', toks := tk }) → wpAny (model prog w) A (pyNext (.ref it)) Q E s
  done : ∀ acc (s : Shared) (Q : Option Value → Shared → Prop) (E : Value → Shared → Prop), J n acc s.heap →
    (∀ h' tk, Fin acc h' → (∀ o, s.heap.get? S = some o → h'.get? S = some o) → Q none { s with heap := h', toks := tk }) → wpAny (model prog w) A (pyNext (.ref it)) Q E s
end
end L2
set_option maxRecDepth 100000
namespace L2
open PySem PySem.Spec PyProof.Rows Geo
section
variable {prog : Program} {w : World} {A : Around} {E : Value → Shared → Prop} {s : Shared}
end
end L2
set_option maxRecDepth 100000
namespace L2
open PySem PySem.Spec PyProof.Rows Geo
section
variable {prog : Program} {w : World} {A : Around} {E : Value → Shared → Prop} {s : Shared}
end
end L2
set_option maxRecDepth 100000
namespace L2
open PySem PySem.Spec PyProof.Rows Geo PySem.W
section
variable {prog : Program} {w : World} {A : Around} {E : Value → Shared → Prop} {s : Shared}
end
end L2
set_option maxRecDepth 100000
namespace L2
open PySem PySem.Spec PyProof.Rows Geo PySem.W
section
variable {prog : Program} {w : World} {A : Around} {E : Value → Shared → Prop} {s : Shared}
end
end L2
set_option maxRecDepth 100000
namespace L2
open PySem PySem.Spec PyProof.Rows Geo
def Ite (K : PySem.W.Frag) (l : Addr) : It :=
  ⟨fun i H => ∃ xs x, SqL K H l xs ∧ xs[i]? = some x,
   fun i H v H' => ∃ T, v = .ref T ∧ H T = none ∧ ∀ xs, SqL K H l xs → ∃ x, xs[i]? = some x ∧ H' = upd H T (.tup [.int (i : Nat), x]),
   fun i H => ∃ xs, SqL K H l xs ∧ xs.length ≤ i⟩
theorem turn_enum {P : Program} {w : World} {K : PySem.W.Frag} {elts : List Expr} {kt : Nat} {pt : Pos} {e it l : Addr} (hei : e ≠ it) :
    Turn P w K (.Tuple elts kt pt) (Ite K l) [e, it] e (fun i h => (∃ old, IsEnum h e it (i : Nat) old) ∧ h.IsListIter it l i) where
  mem := by simp
  obj := fun i h st b hb => by
    obtain ⟨⟨old, he⟩, ⟨o1, e1, c1, d1⟩⟩ := st
    simp only [List.mem_cons, List.not_mem_nil, or_false] at hb
    rcases hb with rfl | rfl
    · exact ⟨_, he, fun v z => by have z' : Data.fields _ = Data.cell v := z; cases z'⟩
    · exact ⟨o1, e1, fun v z => by rw [d1] at z; cases z⟩
  keep := fun i h h' st k => by
    obtain ⟨⟨old, he⟩, h1⟩ := st
    exact ⟨⟨old, k e (by simp) _ he⟩, h1.at fun o q => k it (by simp) o q⟩
  item := by
    intro X hP hw hK hc i pins s σ H E I hf st hg
    subst hP hw hK
    obtain ⟨xs, x, q1, hx⟩ := hg
    obtain ⟨its, rv, p, _⟩ := I.list q1
    obtain ⟨u, hu, ru⟩ := rv.get hx
    obtain ⟨⟨old, he⟩, h1⟩ := st
    have l1 : it < s.heap.objs.size := by obtain ⟨_, q, _⟩ := h1; exact Heap.lt_size q
    have l2 : e < s.heap.objs.size := Heap.lt_size he
    refine wpAny_pyNext_enum_item he h1 p.isList (x := u) (by simpa using hu) hei fun h' ho hit' hT hsz hk => ?_
    refine ⟨.ref s.heap.objs.size, rfl, ?_⟩
    refine wpAny_letOwnedTupleGo_enum (s := { s with heap := h', toks := s.toks + 1 }) ho fun h'' he' hs' => ?_
    have kk : ∀ b v, b ∉ [e, it] → s.heap.get? b = some v → h''.get? b = some v := fun b v hb q => by
      simp only [List.mem_cons, List.not_mem_nil, or_false, not_or] at hb
      exact hs'.extBut _ _ hb.1 (hk b v hb.1 hb.2 q)
    have tup := hs'.extBut _ _ (Nat.ne_of_gt l2) hT
    have I1 : Inv X pins σ (upd H s.heap.objs.size (.tup [.int (i : Nat), x])) { s with heap := h'', toks := s.toks + 1 } := I.turnedNew (ch := [e, it]) kk (fun b hb => hf b hb) (Nat.le_refl _) ⟨by show 2 ≤ sizeLine; decide, [_, u], .cons ⟨_, rfl⟩ (.cons ru .nil), ⟨_, tup, rfl, _, rfl⟩⟩
    refine ⟨.ref s.heap.objs.size, _, I1, rfl, ⟨s.heap.objs.size, rfl, I.hok.fresh (Nat.le_refl _), fun ys e1 => ⟨x, ?_, rfl⟩⟩, ⟨⟨u, by simpa using he'⟩, hit'.at fun o q => hs'.extBut _ _ hei.symm q⟩, fun b hb => ?_⟩
    · rw [I.list_inj e1 q1]; exact hx
    · have lb : b < s.heap.objs.size := by
        simp only [List.mem_cons, List.not_mem_nil, or_false] at hb
        rcases hb with rfl | rfl
        · exact l2
        · exact l1
      rw [upd_ne (Nat.ne_of_lt lb)]
      exact (hf b hb).1
  done := by
    intro X hP hw hK hc i pins s σ H E I hf st hg
    subst hP hw hK
    obtain ⟨xs, q1, hl⟩ := hg
    obtain ⟨its, rv, p, _⟩ := I.list q1
    obtain ⟨⟨old, he⟩, h1⟩ := st
    have e1 := rv.length
    refine wpAny_pyNext_enum_end (I.ok.hd hc) he h1 p.isList (by simp; omega) fun h' eb => ⟨rfl, ?_⟩
    refine I.turnedL (t' := s.toks) (ch := [e, it]) (fun b u hb q => ?_) (fun b hb => hf b hb)
    simp only [List.mem_cons, List.not_mem_nil, or_false, not_or] at hb
    exact eb b u hb.2 q
  self := fun _ _ _ _ _ st h => by
    obtain ⟨⟨old, he⟩, _⟩ := st
    exact wpAny_pyIter_enum he h
def iEnum (K : PySem.W.Frag) (ta : TA) : TI := fun σ H R => ta σ H fun vs H1 => ∃ a, vs = [.ref a] ∧ (∃ xs, SqL K H1 a xs) ∧ R (Ite K a) H1
theorem boot_enum' : bootBuiltins "enumerate" = some (.type "enumerate") := by decide +kernel
theorem pi_enum {X : Cx} {a : Expr} {ta : TA} {p pos : Pos} {elts : List Expr} {kt : Nat} {pt : Pos} (hg : Gl X "enumerate") (hm : X.mg "enumerate" = none) (ha : PA X [a] ta) (hs : starEach [a] X.env = [(false, eval a X.env)] := by rfl) :
    PI X (.Tuple elts kt pt) (.Call (.Name "enumerate" p) [a] [] pos) (iEnum X.K ta) := by
  intro pins s σ H R I h
  refine Call_ (ld_blt I hg hm boot_enum' (PyProof.Rows.callWith_type1 (thn (ha pos pins s σ H _ I h) fun us s1 ⟨vs, H1, I1, r1, q1⟩ => ?_) hs rfl))
  obtain ⟨l, e, ⟨xs, q1⟩, q⟩ := q1
  subst e
  cases r1 with
  | cons r rr =>
    cases rr
    cases r
    obtain ⟨its, rv, p1, _⟩ := I1.list q1
    refine call_enumerate_list p1.isList fun h' he hi hsz hk => wpAny_pyIter_enum he ?_
    refine ⟨_, [s1.heap.objs.size + 1, s1.heap.objs.size], _, _, H1, rfl, I1.kept (t' := s1.toks) hk, turn_enum (Nat.succ_ne_self _), ⟨⟨_, he⟩, hi⟩, fun b hb => ?_, q⟩
    have hb' : s1.heap.objs.size ≤ b := by
      simp only [List.mem_cons, List.not_mem_nil, or_false] at hb
      rcases hb with rfl | rfl <;> omega
    exact I1.fpOk hb' (I1.hok.fresh hb')
theorem for_enum {K : PySem.W.Frag} {a : Addr} {xs : List V} {g : TG} {tb : TS} {D : Ends} {σ : St} {H : Hp} (Pv : Nat → St → Hp → Prop) (h0 : Pv 0 σ H) (hl : ∀ i σ H, i ≤ xs.length → Pv i σ H → SqL K H a xs)
    (hs : ∀ i x T σ H, xs[i]? = some x → Pv i σ H → H T = none → g (.ref T) σ (upd H T (.tup [.int (i : Nat), x])) fun σ2 H2 => tb { D with nx := Pv (i + 1), ct := Pv (i + 1), bk := D.nx } σ2 H2) (hd : ∀ σ H, Pv xs.length σ H → D.nx σ H) :
    ∃ W : Nat → Nat → St → Hp → Prop, (∃ m, W 0 m σ H) ∧ ∀ i m σ H, W i m σ H →
      ((Ite K a).stop i H ∧ D.nx σ H) ∨ ((Ite K a).go i H ∧ ∃ N : St → Hp → Prop, (∀ σ' H', N σ' H' → ∃ m', m' < m ∧ W (i + 1) m' σ' H') ∧ ∀ x H', (Ite K a).yld i H x H' → g x σ H' fun σ2 H2 => tb { D with nx := N, ct := N, bk := D.nx } σ2 H2) := by
  refine ⟨fun i m σ H => m = xs.length - i ∧ i ≤ xs.length ∧ Pv i σ H, ⟨xs.length, by simp, Nat.zero_le _, h0⟩, ?_⟩
  rintro i m σ H ⟨rfl, hi, p⟩
  have q := hl i σ H hi p
  by_cases hlt : i < xs.length
  · refine .inr ⟨⟨xs, xs[i], q, by simp [hlt]⟩, Pv (i + 1), fun σ' H' p' => ⟨xs.length - (i + 1), by omega, rfl, hlt, p'⟩, fun x H' y => ?_⟩
    obtain ⟨T, rfl, nT, hy⟩ := y
    obtain ⟨x', e1, rfl⟩ := hy xs q
    exact hs i x' T σ _ e1 p nT
  · have e : i = xs.length := by omega
    subst e
    exact .inl ⟨⟨xs, q, Nat.le_refl _⟩, hd σ H p⟩
end L2
set_option maxRecDepth 100000
namespace L2
open PySem PySem.Spec PyProof.Rows Geo PySem.W STab
section
variable {A : Around} {s : Shared}
end
section
variable {X : Cx}
def rNotInP2 (K : PySem.W.Frag) : R2 := fun x y H Q => ∃ a b c d xs us vs ps qs rs, x = .ref a ∧ y = .ref b ∧ SqL K H b [.ref c, .ref d] ∧ SqL K H a xs ∧ ArePts H xs ps ∧ SqL K H c us ∧ ArePts H us qs ∧ SqL K H d vs ∧ ArePts H vs rs ∧ c ≠ d ∧ c ≠ a ∧ d ≠ a ∧ Q (.bl (!(decide (qs = ps) || decide (rs = ps)))) H
theorem op_notInP2 (hu : X.A.units + 16 < cLine) : OpR X (compareOp .NotIn) (rNotInP2 X.K) := by
  intro pins s σ H x y v u Q I rx ry h
  obtain ⟨a, b, c, d, xs, us, vs, ps, qs, rs, rfl, rfl, hb, ha, hp, hc, hq, hd, hr, cd, ca, da, k⟩ := h
  obtain rfl := rx
  obtain rfl := ry
  obtain ⟨is, r0, l0, _⟩ := I.list hb
  obtain ⟨xs', r1, l1, _⟩ := I.list ha
  obtain ⟨us', r2, l2, _⟩ := I.list hc
  obtain ⟨vs', r3, l3, _⟩ := I.list hd
  cases r0 with
  | cons e0 r0 =>
    cases r0 with
    | cons e1 r0 =>
      cases r0
      obtain rfl := e0
      obtain rfl := e1
      refine SeqAt.notIn_listAt (fun u => match u with | .ref z => if z = c then decide (qs = ps) else decide (rs = ps) | _ => false) l0.isList (fun w hw => ?_) ⟨.bl _, H, I, rfl, ?_⟩
      · have hw' : w = .ref c ∨ w = .ref d := by simpa using hw
        rcases hw' with e | e
        · subst e
          dsimp only
          rw [if_pos rfl]
          exact SeqAt.EqAt.of_refs ca (rc_pts (by show X.A.units + 1 + 1 < cLine; omega) l2.isList l1.isList (I.tupsAt r2 hq) (I.tupsAt r1 hp))
        · subst e
          dsimp only
          rw [if_neg (Ne.symm cd)]
          exact SeqAt.EqAt.of_refs da (rc_pts (by show X.A.units + 1 + 1 < cLine; omega) l3.isList l1.isList (I.tupsAt r3 hr) (I.tupsAt r1 hp))
      · simp only [List.any_toArray, List.any_cons, List.any_nil, Bool.or_false, if_pos, if_neg (Ne.symm cd)]
        exact k
end
end L2
set_option maxRecDepth 100000
namespace L2
open PySem PySem.Spec PyProof.Rows Geo PySem.W STab SeqAt
theorem op_fdivB {X : Cx} : OpR X (binaryOp .FloorDiv) (rI (fun _ j => 0 < j ∧ j < 2 ^ 200) fun i j => .int (i / j)) := opI fun i j _ _ _ _ _ hc q => by
  have p : (0 : Int) < j := hc.1
  have b : j < 2 ^ 200 := hc.2
  have l : j.natAbs.log2 < 9000 := by
    have : j.natAbs < 2 ^ 200 := by omega
    have := (Nat.log2_lt (n := j.natAbs) (k := 200) (by omega)).mpr this
    omega
  exact floordiv_int (by omega) (by rw [Int.fdiv_eq_ediv_of_nonneg i (by omega)]; exact q) (.inl (PyProof.noPylong_of_log2 l))
def LtAt (A : Around) (s : Shared) (x y : Value) (c : Bool) : Prop := ∀ (prog : Program) (w : World) (E : Value → Shared → Prop) (Q : Value → Shared → Prop), Q (.bool c) s → wpAny (model prog w) A (richCompare .Lt x y) Q E s
def firstLt (e lt : Nat → Bool) : List Nat → Bool
  | [] => false
  | i :: r => if e i then firstLt e lt r else lt i
theorem tup_lt (p q : Addr) (xs ys : Array Value) (n m : Nat) (dp dq : Option Addr) (sp sq : Array (Option Value)) (e lt : Nat → Bool) (hz : xs.size = ys.size) :
    Meets (Builtin.«tuple.__lt__» ⟨[.ref p, .ref q], []⟩) (fun A R s => s.heap.get? p = some { cls := .type "tuple", dict := dp, data := .seq xs n, slots := sp } ∧ s.heap.get? q = some { cls := .type "tuple", dict := dq, data := .seq ys m, slots := sq } ∧
      (∀ j (h1 : j < xs.size) (h2 : j < ys.size), EqAt A.in1 s xs[j] ys[j] (e j) ∧ (e j = false → LtAt A.in1 s xs[j] ys[j] (lt j))) ∧ R (.ok (.ret (.bool (firstLt e lt (List.range xs.size))))) s) :=
  .of_wp fun prog w A R s h => by
    obtain ⟨hp, g, d, tk, os⟩ := s; obtain ⟨hl, hb, he, h⟩ := h
    have f2 := AutoSeq1.sub_tuple_tuple
    have len : (xs.toList.zip ys.toList).length = xs.size := by simp [hz]
    wp_walk using wpAny_loadPart' hl, wpAny_loadPart' hb, wpAny_forIn_list _ (fun rest b s' => b.1 = none ∧ s' = ⟨hp, g, d, tk, os⟩ ∧ ∃ i, rest = (xs.toList.zip ys.toList).drop i ∧ R (.ok (.ret (.bool (firstLt e lt ((List.range xs.size).drop i))))) ⟨hp, g, d, tk, os⟩) _
    case turn =>
      rintro ⟨y, x⟩ rest b s' ⟨hb', rfl, i, hzz, hR⟩
      have hi : i < (xs.toList.zip ys.toList).length := by
        rcases Nat.lt_or_ge i (xs.toList.zip ys.toList).length with c | c; exact c; rw [List.drop_of_length_le c] at hzz; cases hzz
      have h1 : i < xs.size := len ▸ hi
      have h2 : i < ys.size := hz ▸ h1
      rw [List.drop_eq_getElem_cons hi] at hzz
      injection hzz with hyx hrest
      have e1 : y = xs[i] := by have := congrArg Prod.fst hyx; simpa using this
      have e2 : x = ys[i] := by have := congrArg Prod.snd hyx; simpa using this
      subst e1 e2
      have hd : (List.range xs.size).drop i = i :: (List.range xs.size).drop (i + 1) := by simp [List.drop_eq_getElem_cons, h1]
      rw [hd] at hR
      obtain ⟨he1, he2⟩ := he i h1 h2
      refine wpAny_bind (he1 prog w _ _ ?_)
      cases q : e i with
      | true => (rw [firstLt, q] at hR); wp_walk; exact ⟨rfl, rfl, i + 1, hrest, by simpa using hR⟩
      | false =>
        (rw [firstLt, q] at hR)
        simp only [Bool.not_false, if_true]
        refine wpAny_bind (wpAny_rule ?_)
        refine wpAny_bind (he2 q prog w _ _ ?_)
        wp_walk
        exact ⟨_, rfl, by simpa using hR⟩
    case fin =>
      rintro ⟨b1, b2⟩ s' ⟨hb', rfl, i, hzz, hR⟩
      (simp only at hb'); subst hb'
      have hge : xs.size ≤ i := by
        rcases Nat.lt_or_ge i (xs.toList.zip ys.toList).length with c | c
        · (rw [List.drop_eq_getElem_cons c] at hzz); cases hzz
        · exact len ▸ c
      rw [List.drop_of_length_le (by simpa using hge)] at hR
      wp_walk
      exact ⟨_, rfl, by simpa [Builtin.Tuple.tupleCompareSizes, hz, firstLt] using hR⟩
    case h => (exact ⟨rfl, rfl, 0, rfl, by simpa using h⟩)
section
variable {prog : Program} {w : World} {A : Around} {R : Result → Shared → Prop} {I S : Addr} {fp wr : List Addr} {n : Nat} {P : Nat → Value → Prop} {St : Nat → Heap → Prop} {Kp : Heap → Prop} {bt : Nat → Nat → Bool}
abbrev two (S : Addr) (v : Value) (c : Nat) (h : Heap) : Prop := h.get? S = some { cls := .type "list", dict := none, data := .seq #[v, v] c, slots := #[] }
theorem min_turns (W : Walks prog w A.in1 I fp wr n P St) (cmp : ∀ i j vi vj (s : Shared) (Q : Value → Shared → Prop) (E : Value → Shared → Prop), Kp s.heap → P i vi → P j vj → Q (.bool (bt i j)) s → wpAny (model prog w) A.in1 (richCompare .Lt vi vj) Q E s)
    (nS : S ∉ fp) (kp : ∀ h h', Kp h → (∀ b o, b ∉ wr → b ≠ S → h.get? b = some o → h'.get? b = some o) → Kp h') :
    ∀ (k j : Nat) (s : Shared) (v : Value) (c : Nat), n - (j + 1) = k → j + 1 ≤ n → Kp s.heap → St (j + 1) s.heap → P (argBest bt j) v → two S v c s.heap →
      (∀ u h' tk, P (argBest bt (n - 1)) u → (∀ b o, b ∉ wr → b ≠ S → s.heap.get? b = some o → h'.get? b = some o) → R (.ok (.ret u)) { s with heap := h', toks := tk }) → codeAny (model prog w) A (.builtin "min.loop" ⟨[.ref I, .none, .ref S], []⟩) R s := by
  have wS : S ∉ wr := fun z => nS (W.sub _ z)
  have nm : (toString "min" ++ toString ".loop" : String) = "min.loop" := by decide
  intro k
  induction k with
  | zero =>
    intro j s v c hk hj hK hst hP hS hR
    have e : j + 1 = n := by omega
    refine codeAny_builtin F.entry_min_loop ?_; rw [Around.under_plainId F.plain_min_loop _]
    (show wpAny _ A.in1 (seqItems? (.ref S) >>= _) _ _ s); refine wpAny_bind (wpAny_seqItems hS rfl ?_)
    (show wpAny _ A.in1 (tryCatch (pyNext (.ref I)) _ >>= _) _ _ s)
    refine wpAny_bind (wpAny_tryCatch (W.done s _ _ (e ▸ hst) fun h1 t1 k1 => ?_))
    have hS1 := k1 S _ wS hS
    (show wpAny _ A.in1 (updateSeq S (fun _ => #[]) >>= _) _ _ _)
    refine wpAny_bind (wpAny_updateSeq hS1 rfl (wpAny_bind (wpAny_letGo (wpAny_pure ?_))))
    exact hR v _ t1 (by rw [← e]; exact hP) fun b o b1 b2 q => (Heap.get?_update_other _ _ (Ne.symm b2)).trans (k1 b o b1 q)
  | succ k ih =>
    intro j s v c hk hj hK hst hP hS hR
    have lt : j + 1 < n := by omega
    refine codeAny_builtin F.entry_min_loop ?_; rw [Around.under_plainId F.plain_min_loop _]
    (show wpAny _ A.in1 (seqItems? (.ref S) >>= _) _ _ s); refine wpAny_bind (wpAny_seqItems hS rfl ?_)
    (show wpAny _ A.in1 (tryCatch (pyNext (.ref I)) _ >>= _) _ _ s)
    refine wpAny_bind (wpAny_tryCatch (W.item (j + 1) s _ _ lt hst fun u h1 t1 hu hst1 k1 => ?_))
    have hS1 := k1 S _ wS hS
    have hK1 : Kp h1 := kp _ _ hK fun b o b1 _ q => k1 b o b1 q
    (show wpAny _ A.in1 (tryCatch (holding [u, u] (richCompare .Lt u v >>= _)) _ >>= _) _ _ _)
    refine wpAny_bind (wpAny_tryCatch (wpAny_holding (wpAny_bind (cmp (j + 1) (argBest bt j) u v _ _ _ hK1 hu hP ?_))))
    refine wpAny_bind (wpAny_holding (wpAny_truthy_bool ?_)); refine wpAny_bind (wpAny_letGo (wpAny_pure ?_))
    cases q : bt (j + 1) (argBest bt j) with
    | true =>
      simp only [if_true]
      refine wpAny_bind (wpAny_updateSeq hS1 rfl (wpAny_bind (wpAny_letGo ?_))); rw [nm]
      refine wpAny_pure ⟨plainId_quiet F.plain_min_loop _, ih (j + 1) _ u _ (by omega) lt (kp _ _ hK1 fun b o _ b2 z => (Heap.get?_update_other _ _ (Ne.symm b2)).trans z) (W.frame _ _ _ hst1 fun b hb o z => ?_) (by simp only [argBest, q, if_true]; exact hu) (Heap.get?_update_self _ hS1 rfl) fun u2 h2 t2 hu2 k2 => ?_⟩
      · exact (Heap.get?_update_other _ _ (fun z : S = b => nS (z ▸ hb))).trans z
      · exact hR u2 h2 t2 hu2 fun b o b1 b2 z => k2 b o b1 b2 ((Heap.get?_update_other _ _ (Ne.symm b2)).trans (k1 b o b1 z))
    | false =>
      simp only [Bool.false_eq_true, if_false]
      refine wpAny_bind (wpAny_letGo ?_); rw [nm]
      refine wpAny_pure ⟨plainId_quiet F.plain_min_loop _, ih (j + 1) _ v c (by omega) lt hK1 hst1 (by simp only [argBest, q, Bool.false_eq_true, if_false]; exact hP) hS1 fun u2 h2 t2 hu2 k2 => ?_⟩
      exact hR u2 h2 t2 hu2 fun b o b1 b2 z => k2 b o b1 b2 (k1 b o b1 z)
end
section
variable {prog : Program} {w : World} {A : Around} {E : Value → Shared → Prop} {s : Shared} {l : Addr} {xs : Array Value} {bt : Nat → Nat → Bool}
theorem min_of_list {Q : Value → Shared → Prop} (hh : A.handled = none) (hl : s.heap.IsList l xs) (hn : 0 < xs.size)
    (cmp : ∀ i j vi vj (s1 : Shared) (Q : Value → Shared → Prop) (E : Value → Shared → Prop), (∀ b o, s.heap.get? b = some o → s1.heap.get? b = some o) → xs[i]? = some vi → xs[j]? = some vj → Q (.bool (bt i j)) s1 → wpAny (model prog w) A.in1 (richCompare .Lt vi vj) Q E s1)
    (h : ∀ v h' tk, xs[argBest bt (xs.size - 1)]? = some v → (∀ b o, s.heap.get? b = some o → h'.get? b = some o) → Q v { s with heap := h', toks := tk }) :
    wpAny (model prog w) A (call (.builtin "min") [.ref l]) Q E s := by
  have nm : (toString "min" ++ toString ".loop" : String) = "min.loop" := by decide
  have ll : l < s.heap.objs.size := by obtain ⟨_, e, _⟩ := hl; exact Heap.lt_size e
  refine PySem.call_function_tree F.kind_min F.plain_min F.entry_min (F.args_min1 _) ?_
  (show wpAny _ A.in1 (Builtin.Builtins.bindParams "min" ["key", "default"] 0 ⟨[], []⟩ >>= _) _ _ s)
  refine wpAny_bind (wpAny_of_eq (show Builtin.Builtins.bindParams "min" ["key", "default"] 0 ⟨[], []⟩ = pure [none, none] from rfl) (wpAny_bind (wpAny_pure ?_)))
  refine wpAny_bind (wpAny_pyIter_list hl ?_)
  have ps : (s.heap.push { cls := .type "list_iterator", data := .fields #[.ref l, .int 0 0] }).objs.size = s.heap.objs.size + 1 := Heap.size_push ..
  have W := Walks.list (prog := prog) (w := w) (A := A.in1) hh s.heap.objs.size l (Nat.ne_of_lt ll) xs
  have st0 : (s.heap.push { cls := .type "list_iterator", data := .fields #[.ref l, .int 0 0] }).IsListIter s.heap.objs.size l 0 ∧ (s.heap.push { cls := .type "list_iterator", data := .fields #[.ref l, .int 0 0] }).IsList l xs := ⟨⟨_, Heap.get?_push_size _ rfl, rfl, rfl⟩, hl.push _⟩
  refine wpAny_bind (wpAny_newObj_type ?_)
  rw [nm]
  refine wpAny_pure ⟨plainId_quiet F.plain_min_loop _, ?_⟩
  generalize hH : s.heap.push { cls := .type "list_iterator", data := .fields #[.ref l, .int 0 0] } = H1 at ps st0
  have old : ∀ b o, s.heap.get? b = some o → H1.get? b = some o := fun b o e => by rw [← hH]; exact Heap.get?_push_of_some _ e
  have nS : H1.objs.size ∉ [s.heap.objs.size, l] := fun z => by
    rcases List.mem_cons.mp z with e | z
    · have : s.heap.objs.size + 1 = s.heap.objs.size := ps.symm.trans e
      omega
    · rcases List.mem_cons.mp z with e | z
      · have : s.heap.objs.size + 1 < s.heap.objs.size := by rw [← ps, e]; exact ll
        omega
      · cases z
  have far : ∀ b o, s.heap.get? b = some o → b ∉ [s.heap.objs.size] ∧ b ≠ H1.objs.size := fun b o e => by
    have lt := Heap.lt_size e
    refine ⟨fun z => ?_, fun z => ?_⟩
    · rcases List.mem_cons.mp z with q | q
      · rw [q] at lt; exact Nat.lt_irrefl _ lt
      · cases q
    · rw [z, ps] at lt; exact Nat.lt_irrefl _ (Nat.lt_of_succ_lt lt)
  have wS : H1.objs.size ∉ [s.heap.objs.size] := fun z => nS (W.sub _ z)
  have hS0 : (H1.push { cls := .type "list", data := .seq #[] }).get? H1.objs.size = some { cls := .type "list", data := .seq #[] } := Heap.get?_push_size _ rfl
  have hst : (H1.push { cls := .type "list", data := .seq #[] }).IsListIter s.heap.objs.size l 0 ∧ (H1.push { cls := .type "list", data := .seq #[] }).IsList l xs := W.frame 0 _ _ st0 fun b _ o e => Heap.get?_push_of_some _ e
  refine codeAny_builtin F.entry_min_loop ?_; rw [Around.under_plainId F.plain_min_loop _]
  (show wpAny _ A.in1 (seqItems? (.ref H1.objs.size) >>= _) _ _ _); refine wpAny_bind (wpAny_seqItems hS0 rfl ?_)
  (show wpAny _ A.in1 (tryCatch (pyNext (.ref s.heap.objs.size)) _ >>= _) _ _ _)
  refine wpAny_bind (wpAny_tryCatch (W.item 0 _ _ _ hn hst fun v h1 t1 hv hst1 k1 => ?_))
  have hS1 := k1 H1.objs.size _ wS hS0
  (show wpAny _ A.in1 (updateSeq H1.objs.size (fun _ => #[v, v]) >>= _) _ _ _)
  refine wpAny_bind (wpAny_updateSeq hS1 rfl ?_); rw [nm]
  have kept : ∀ b o, s.heap.get? b = some o → h1.get? b = some o := fun b o e => k1 b o (far b o e).1 (Heap.get?_push_of_some _ (old b o e))
  refine wpAny_pure ⟨plainId_quiet F.plain_min_loop _, min_turns (bt := bt) (Kp := fun h => ∀ b o, s.heap.get? b = some o → h.get? b = some o) W (fun i j vi vj s1 Q E hK h1 h2 q => cmp i j vi vj s1 Q E hK h1 h2 q) nS (fun h h' hK kp b o e => kp b o (far b o e).1 (far b o e).2 (hK b o e)) _ 0 _ v _ rfl hn ?_ (W.frame _ _ _ hst1 fun b hb o z => ?_) hv (Heap.get?_update_self _ hS1 rfl) fun u h2 t2 hu k2 => ?_⟩
  · exact fun b o e => (Heap.get?_update_other _ _ (Ne.symm (far b o e).2)).trans (kept b o e)
  · exact (Heap.get?_update_other _ _ (fun z : H1.objs.size = b => nS (z ▸ hb))).trans z
  · exact h u h2 t2 hu fun b o e => k2 b o (far b o e).1 (far b o e).2 ((Heap.get?_update_other _ _ (Ne.symm (far b o e).2)).trans (kept b o e))
end
theorem best_min {bt : Nat → Nat → Bool} {f : Nat → Int} (h1 : ∀ i j, bt i j = true → f i ≤ f j) (h2 : ∀ i j, bt i j = false → f j ≤ f i) : ∀ k, argBest bt k ≤ k ∧ ∀ j, j ≤ k → f (argBest bt k) ≤ f j
  | 0 => ⟨Nat.le_refl _, fun j hj => by rw [show j = 0 by omega]; exact Int.le_refl _⟩
  | k + 1 => by
    obtain ⟨a, b⟩ := best_min h1 h2 k
    unfold argBest
    cases q : bt (k + 1) (argBest bt k) with
    | true =>
      rw [if_pos rfl]
      refine ⟨Nat.le_refl _, fun j hj => ?_⟩
      have := h1 _ _ q
      rcases Nat.lt_or_ge j (k + 1) with c | c
      · have := b j (by omega); omega
      · rw [show j = k + 1 by omega]; exact Int.le_refl _
    | false =>
      rw [if_neg (by simp)]
      refine ⟨by omega, fun j hj => ?_⟩
      have := h2 _ _ q
      rcases Nat.lt_or_ge j (k + 1) with c | c
      · exact b j (by omega)
      · rw [show j = k + 1 by omega]; exact this
section
variable {A : Around} {s : Shared}
theorem lt_int_at (i j : Int) (t u : Tok) : LtAt A s (.int i t) (.int j u) (decide (i < j)) := fun prog w E Q q =>
  richCompare_gives (op := .Lt) (typeIs_int s _ t) (typeIs_int s _ u) F.slot_int_lt F.entry_int_lt (F.args_int_lt_2 _ _) (gives_int_lt _ _ t u) (fun x => nomatch x) q
theorem lt_tup {p q : Addr} {xs ys : Array Value} {e lt : Nat → Bool} (hp : s.heap.IsTuple p xs) (hq : s.heap.IsTuple q ys) (hz : xs.size = ys.size) (hu : A.units < cLine)
    (he : ∀ j (h1 : j < xs.size) (h2 : j < ys.size), EqAt A.in1 s xs[j] ys[j] (e j) ∧ (e j = false → LtAt A.in1 s xs[j] ys[j] (lt j))) : LtAt A s (.ref p) (.ref q) (firstLt e lt (List.range xs.size)) := fun prog w E Q h => by
  obtain ⟨⟨c1, d1, a1, l1⟩, g1, k1, n1, e1⟩ := id hp
  obtain ⟨⟨c2, d2, a2, l2⟩, g2, k2, n2, e2⟩ := id hq
  simp only at k1 e1 k2 e2
  subst k1 e1 k2 e2
  exact richCompare_meets_room (op := .Lt) ⟨_, g1, rfl⟩ ⟨_, g2, rfl⟩ F.slot_tuple_lt F.entry_tuple_lt (F.args_tuple_lt_2 _ _) (tup_lt p q xs ys n1 n2 d1 d2 l1 l2 e lt hz)
    ⟨g1, g2, he, show Value.bool (firstLt e lt (List.range xs.size)) ≠ Value.notImplemented ∧ Q (.bool (firstLt e lt (List.range xs.size))) s from ⟨(fun x => nomatch x), h⟩⟩ hu
def TriAt (h : Heap) (u : Value) (t : Tri) : Prop := ∃ (b : Addr) (o : Obj) (a1 a2 a3 : Tok) (n : Nat), u = .ref b ∧ h.get? b = some o ∧ o.cls = .type "tuple" ∧ o.data = .seq #[.int t.1 a1, .int t.2.1 a2, .int t.2.2 a3] n
def CntAt (h : Heap) (u : Value) (c : Int × Tri) : Prop := ∃ (b : Addr) (o : Obj) (a1 : Tok) (v : Value) (n : Nat), u = .ref b ∧ h.get? b = some o ∧ o.cls = .type "tuple" ∧ o.data = .seq #[.int c.1 a1, v] n ∧ TriAt h v c.2
theorem TriAt.keep {h h' : Heap} {u : Value} {t : Tri} (x : TriAt h u t) (k : ∀ b o, h.get? b = some o → h'.get? b = some o) : TriAt h' u t := by
  obtain ⟨b, o, a1, a2, a3, n, e, g, c, d⟩ := x; exact ⟨b, o, a1, a2, a3, n, e, k _ _ g, c, d⟩
theorem CntAt.keep {h h' : Heap} {u : Value} {c : Int × Tri} (x : CntAt h u c) (k : ∀ b o, h.get? b = some o → h'.get? b = some o) : CntAt h' u c := by
  obtain ⟨b, o, a1, v, n, e, g, q, d, t⟩ := x; exact ⟨b, o, a1, v, n, e, k _ _ g, q, d, t.keep k⟩
theorem TriAt.inj {h : Heap} {u : Value} {t t' : Tri} (x : TriAt h u t) (y : TriAt h u t') : t = t' := by
  obtain ⟨b, o, a1, a2, a3, n, rfl, g, c, d⟩ := x
  obtain ⟨b', o', a1', a2', a3', n', e', g', c', d'⟩ := y
  cases e'
  rw [g] at g'; cases g'
  rw [d] at d'
  injection d' with d1 _
  have d2 := congrArg Array.toList d1
  simp at d2
  exact Prod.ext d2.1.1 (Prod.ext d2.2.1.1 d2.2.2.1)
def eqJ (t t' : Tri) (j : Nat) : Bool := if j = 0 then t.1 == t'.1 else if j = 1 then t.2.1 == t'.2.1 else t.2.2 == t'.2.2
def ltJ (t t' : Tri) (j : Nat) : Bool := if j = 0 then decide (t.1 < t'.1) else if j = 1 then decide (t.2.1 < t'.2.1) else decide (t.2.2 < t'.2.2)
theorem tri_parts {t t' : Tri} (a1 a2 a3 b1 b2 b3 : Tok) (j : Nat) (h1 : j < (#[Value.int t.1 a1, Value.int t.2.1 a2, Value.int t.2.2 a3] : Array Value).size) (h2 : j < (#[Value.int t'.1 b1, Value.int t'.2.1 b2, Value.int t'.2.2 b3] : Array Value).size) :
    EqAt A s (#[Value.int t.1 a1, Value.int t.2.1 a2, Value.int t.2.2 a3] : Array Value)[j] (#[Value.int t'.1 b1, Value.int t'.2.1 b2, Value.int t'.2.2 b3] : Array Value)[j] (eqJ t t' j) ∧
    LtAt A s (#[Value.int t.1 a1, Value.int t.2.1 a2, Value.int t.2.2 a3] : Array Value)[j] (#[Value.int t'.1 b1, Value.int t'.2.1 b2, Value.int t'.2.2 b3] : Array Value)[j] (ltJ t t' j) := by
  match j, h1, h2 with
  | 0, _, _ => exact ⟨EqAt.int_int _ _ _ _, lt_int_at _ _ _ _⟩
  | 1, _, _ => exact ⟨EqAt.int_int _ _ _ _, lt_int_at _ _ _ _⟩
  | 2, _, _ => exact ⟨EqAt.int_int _ _ _ _, lt_int_at _ _ _ _⟩
theorem tri_all (t t' : Tri) : ((List.range (min 3 3)).all (eqJ t t') && (3 : Nat) == 3) = decide (t = t') := by
  have e : (List.range (min 3 3)) = [0, 1, 2] := rfl
  rw [e]
  by_cases h : t = t'
  · subst h; simp [eqJ]
  · rw [decide_eq_false h]
    by_cases h1 : t.1 = t'.1
    · by_cases h2 : t.2.1 = t'.2.1
      · have h3 : t.2.2 ≠ t'.2.2 := fun z => h (Prod.ext h1 (Prod.ext h2 z))
        simp [eqJ, h3]
      · simp [eqJ, h2]
    · simp [eqJ, h1]
theorem rc_tri {u v : Value} {t t' : Tri} (hu : A.units < cLine) (x : TriAt s.heap u t) (y : TriAt s.heap v t') : RcAt A s u v (decide (t = t')) := by
  obtain ⟨b, o, a1, a2, a3, n, rfl, g, c, d⟩ := x
  obtain ⟨b', o', b1, b2, b3, n', rfl, g', c', d'⟩ := y
  rw [← tri_all]
  exact RcAt.tuples (items := #[.int t.1 a1, .int t.2.1 a2, .int t.2.2 a3]) (items2 := #[.int t'.1 b1, .int t'.2.1 b2, .int t'.2.2 b3]) ⟨o, g, c, n, d⟩ ⟨o', g', c', n', d'⟩ hu fun j h1 h2 => (tri_parts a1 a2 a3 b1 b2 b3 j h1 h2).1
theorem rcNe_tri {u v : Value} {t t' : Tri} (hu : A.units < cLine) (x : TriAt s.heap u t) (y : TriAt s.heap v t') : RcNeAt A s u v (!decide (t = t')) := by
  obtain ⟨b, o, a1, a2, a3, n, rfl, g, c, d⟩ := x
  obtain ⟨b', o', b1, b2, b3, n', rfl, g', c', d'⟩ := y
  rw [← tri_all]
  exact RcNeAt.tuples (items := #[.int t.1 a1, .int t.2.1 a2, .int t.2.2 a3]) (items2 := #[.int t'.1 b1, .int t'.2.1 b2, .int t'.2.2 b3]) ⟨o, g, c, n, d⟩ ⟨o', g', c', n', d'⟩ hu fun j h1 h2 => (tri_parts a1 a2 a3 b1 b2 b3 j h1 h2).1
theorem eq_tri {u v : Value} {t t' : Tri} (hu : A.units < cLine) (x : TriAt s.heap u t) (y : TriAt s.heap v t') : EqAt A s u v (decide (t = t')) := by
  have r := rc_tri hu x y
  obtain ⟨b, o, _, _, _, _, rfl, _⟩ := id x
  obtain ⟨b', o', _, _, _, _, rfl, _⟩ := id y
  by_cases e : b = b'
  · subst e; rw [decide_eq_true (x.inj y)]; exact EqAt.same _
  · exact EqAt.of_refs e r
def lexT (t t' : Tri) : Bool := firstLt (eqJ t t') (ltJ t t') (List.range 3)
theorem lt_tri {u v : Value} {t t' : Tri} (hu : A.units < cLine) (x : TriAt s.heap u t) (y : TriAt s.heap v t') : LtAt A s u v (lexT t t') := by
  obtain ⟨b, o, a1, a2, a3, n, rfl, g, c, d⟩ := x
  obtain ⟨b', o', b1, b2, b3, n', rfl, g', c', d'⟩ := y
  exact lt_tup (xs := #[.int t.1 a1, .int t.2.1 a2, .int t.2.2 a3]) (ys := #[.int t'.1 b1, .int t'.2.1 b2, .int t'.2.2 b3]) ⟨o, g, c, n, d⟩ ⟨o', g', c', n', d'⟩ rfl hu fun j h1 h2 => ⟨(tri_parts a1 a2 a3 b1 b2 b3 j h1 h2).1, fun _ => (tri_parts a1 a2 a3 b1 b2 b3 j h1 h2).2⟩
def lexC (x y : Int × Tri) : Bool := firstLt (fun j => if j = 0 then x.1 == y.1 else decide (x.2 = y.2)) (fun j => if j = 0 then decide (x.1 < y.1) else lexT x.2 y.2) (List.range 2)
theorem lexC_t {x y : Int × Tri} (h : lexC x y = true) : x.1 ≤ y.1 := by
  unfold lexC at h
  have e : List.range 2 = [0, 1] := rfl
  rw [e] at h
  simp only [firstLt, if_true] at h
  by_cases q : x.1 = y.1
  · omega
  · rw [if_neg (by simpa using q)] at h; have := of_decide_eq_true h; omega
theorem lexC_f {x y : Int × Tri} (h : lexC x y = false) : y.1 ≤ x.1 := by
  unfold lexC at h
  have e : List.range 2 = [0, 1] := rfl
  rw [e] at h
  simp only [firstLt, if_true] at h
  by_cases q : x.1 = y.1
  · omega
  · rw [if_neg (by simpa using q)] at h; have := of_decide_eq_false h; omega
theorem lt_cnt {u v : Value} {x y : Int × Tri} (hu : A.units + 1 < cLine) (hx : CntAt s.heap u x) (hy : CntAt s.heap v y) : LtAt A s u v (lexC x y) := by
  obtain ⟨b, o, a1, w1, n, rfl, g, c, d, t⟩ := hx
  obtain ⟨b', o', b1, w2, n', rfl, g', c', d', t'⟩ := hy
  refine lt_tup (xs := #[.int x.1 a1, w1]) (ys := #[.int y.1 b1, w2]) ⟨o, g, c, n, d⟩ ⟨o', g', c', n', d'⟩ rfl (by omega) fun j h1 h2 => ?_
  match j, h1, h2 with
  | 0, _, _ => exact ⟨EqAt.int_int _ _ _ _, fun _ => lt_int_at _ _ _ _⟩
  | 1, _, _ => exact ⟨eq_tri (by show A.units + 1 < cLine; exact hu) t t', fun _ => lt_tri (by show A.units + 1 < cLine; exact hu) t t'⟩
end
section
variable {X : Cx} {pins : List (Addr × Obj)} {σ : St} {H : Hp} {s : Shared}
def IsCnt (H : Hp) (v : V) (c : Int × Tri) : Prop := ∃ a y, v = .ref a ∧ H a = some (.tup [.int c.1, y]) ∧ IsTri H y c.2
theorem Inv.triAt (I : Inv X pins σ H s) {v : V} {u : Value} {t : Tri} (r : RelV v u) (h : IsTri H v t) : TriAt s.heap u t := by
  obtain ⟨a, rfl, h⟩ := h
  obtain rfl : u = Value.ref a := r
  obtain ⟨_, its, rv, ob, e, c, n, d⟩ := I.hok a _ h
  cases rv with
  | cons r1 rv =>
    cases rv with
    | cons r2 rv =>
      cases rv with
      | cons r3 rv =>
        cases rv
        obtain ⟨t1, rfl⟩ := r1
        obtain ⟨t2, rfl⟩ := r2
        obtain ⟨t3, rfl⟩ := r3
        exact ⟨a, ob, t1, t2, t3, n, rfl, e, c, d⟩
theorem Inv.cntAt (I : Inv X pins σ H s) {v : V} {u : Value} {c : Int × Tri} (r : RelV v u) (h : IsCnt H v c) : CntAt s.heap u c := by
  obtain ⟨a, y, rfl, h, k⟩ := h
  obtain rfl : u = Value.ref a := r
  obtain ⟨_, its, rv, ob, e, q, n, d⟩ := I.hok a _ h
  cases rv with
  | cons r1 rv =>
    cases rv with
    | cons r2 rv =>
      cases rv
      obtain ⟨t1, rfl⟩ := r1
      exact ⟨a, ob, t1, _, n, rfl, e, q, d, I.triAt r2 k⟩
theorem op_neT (hu : X.A.units + 16 < cLine) : OpR X (compareOp .NotEq) (fun x y H Q => ∃ p q, IsTri H x p ∧ IsTri H y q ∧ Q (.bl (!decide (p = q))) H) := by
  intro pins s σ H x y v u Q I rx ry h
  obtain ⟨p, q, hp, hq, k⟩ := h
  exact rcNe_tri (by omega) (I.triAt rx hp) (I.triAt ry hq) X.prog X.w X.xe _ ⟨.bl _, H, I, rfl, k⟩
theorem call_minC (hh : X.A.handled = none) (hu : X.A.units + 16 < cLine) : CallR X (.builtin "min") (fun xs H Q => ∃ (p : Addr) (ys : List V) (cs : List (Int × Tri)), xs = [.ref p] ∧ SqL X.K H p ys ∧ Paired (IsCnt H) ys cs ∧ cs ≠ [] ∧
    ∀ (y : V) (c : Int × Tri), IsCnt H y c → c ∈ cs → (∀ d ∈ cs, c.1 ≤ d.1) → Q y H) := by
  intro pins s σ H xs us Q I rv h
  obtain ⟨p, ys, cs, rfl, hq, hp, hne, k⟩ := h
  cases rv with
  | cons r1 rv =>
    cases rv
    obtain rfl := r1
    obtain ⟨its, r, pl, hz⟩ := I.list hq
    have l1 := r.length
    have l2 := hp.length
    have lc : 0 < cs.length := List.length_pos_iff.mpr hne
    have at_ : ∀ {i : Nat} {v : Value}, its.toArray[i]? = some v → ∃ (y : V) (c : Int × Tri), ys[i]? = some y ∧ cs[i]? = some c ∧ RelV y v ∧ IsCnt H y c ∧ CntAt s.heap v c := fun {i v} e => by
      have e' : its[i]? = some v := by simpa using e
      obtain ⟨y, y1, y2⟩ := Pair.get' r e'
      obtain ⟨c, c1, c2⟩ := Pair.get hp y1
      exact ⟨y, c, y1, c1, y2, c2, I.cntAt y2 c2⟩
    refine min_of_list (bt := fun i j => lexC (cs.getD i (0, 0, 0, 0)) (cs.getD j (0, 0, 0, 0))) hh pl.isList (by simp; omega) (fun i j vi vj s1 Q1 E1 kp e1 e2 q => ?_) fun v h' tk hv kp => ?_
    · obtain ⟨_, ci, _, c1, _, _, c2⟩ := at_ e1
      obtain ⟨_, cj, _, d1, _, _, d2⟩ := at_ e2
      rw [List.getD_eq_getElem?_getD, List.getD_eq_getElem?_getD, c1, d1] at q
      exact lt_cnt (A := X.A.in1) (by show X.A.units + 1 + 1 < cLine; omega) (c2.keep kp) (d2.keep kp) X.prog X.w E1 Q1 q
    · obtain ⟨y, c, y1, c1, ry, hc, _⟩ := at_ hv
      obtain ⟨b1, b2⟩ := best_min (bt := fun i j => lexC (cs.getD i (0, 0, 0, 0)) (cs.getD j (0, 0, 0, 0))) (f := fun i => (cs.getD i (0, 0, 0, 0)).1) (fun _ _ => lexC_t) (fun _ _ => lexC_f) (its.toArray.size - 1)
      refine ⟨y, H, I.kept (t' := tk) kp, ry, k y c hc (List.mem_of_getElem? c1) fun d hd => ?_⟩
      obtain ⟨j, hj⟩ := List.mem_iff_getElem?.mp hd
      have hjl := (List.getElem?_eq_some_iff.mp hj).1
      have := b2 j (by simp; omega)
      rw [List.getD_eq_getElem?_getD, List.getD_eq_getElem?_getD, c1, hj] at this
      exact this
end
end L2
set_option maxRecDepth 100000
namespace Toy
open PySem L2 Geo
def top (i : Nat) : Stmt := PySem.Challenge.pw_hullpart_k08_whole_depth.main.body.getD i (.Pass ⟨0, 0, 0, 0⟩)
abbrev sChk : Stmt := top 7
abbrev sChks : Stmt := top 8
abbrev sCkSpot : Stmt := top 9
abbrev sWorth : Stmt := top 10
abbrev sGcd : Stmt := top 11
abbrev sLowest : Stmt := top 12
abbrev sDepth : Stmt := top 14
abbrev sThru : Stmt := top 15
abbrev sCnt : Stmt := top 16
abbrev sWays : Stmt := top 17
abbrev sStep : Stmt := top 18
abbrev sPairs : Stmt := top 19
abbrev sCell : Stmt := top 21
abbrev sWhole : Stmt := top 22
abbrev sNext : Stmt := top 23
abbrev sPts : Stmt := top 24
abbrev sCommon : Stmt := top 25
abbrev sIsLine : Stmt := top 26
abbrev sAt : Stmt := top 27
abbrev sLDepth : Stmt := top 28
abbrev sLSpot : Stmt := top 29
abbrev sLaw : Stmt := top 30
structure Txt (mg : Str → Option Value) : Prop where
  len : mg "len" = none
  abs : mg "abs" = none
  sorted : mg "sorted" = none
  set : mg "set" = none
  list : mg "list" = none
  reversed : mg "reversed" = none
  range : mg "range" = none
  isinstance : mg "isinstance" = none
  int : mg "int" = none
  bool : mg "bool" = none
  tuple : mg "tuple" = none
  min : mg "min" = none
  max : mg "max" = none
  all : mg "all" = none
  sum : mg "sum" = none
  zip : mg "zip" = none
  any : mg "any" = none
  str : mg "str" = none
  enumerate : mg "enumerate" = none
  valueError : mg "ValueError" = none
  far : ∃ t, mg "FARTHEST" = some (.int 1000 t)
  most : ∃ t, mg "MOST_POINTS" = some (.int 12 t)
end Toy
set_option maxRecDepth 100000
namespace Toy
open PySem L2 Geo
section
variable {P : Program} {w : World} {K : PySem.W.Frag} {mg : Str → Option Value} {base : Heap}
def spChk : Sp := fun vs H Q _ => ∃ v p, vs = [v] ∧ IsPt H v p ∧ Bd p ∧ Q .non H
theorem scChk : FnScope ["point"] ["point"] (defScope sChk) := ⟨rfl, rfl, rfl, by decide +kernel, rfl, by decide +kernel, by decide +kernel⟩
theorem abs_le {i : Int} (h1 : -1000 ≤ i) (h2 : i ≤ 1000) : decide ((1000 : Int) < (if i < 0 then -i else i)) = false := decide_eq_false (by split <;> omega)
theorem ok_chk {f : Addr} {fd : FuncData} (F : Fun K "check_point" "check_point" sChk f fd) (T : Txt mg) : FnOk P w K mg base CX0 1 f fd ["point"] spChk := by
  refine F.ok scChk (fun vs H Q E h => ?_) (fun cdv A outer s H vs Q E hr h => ?_)
  · obtain ⟨v, p, rfl, _⟩ := h; rfl
  · obtain ⟨v, p, rfl, hp, hb, k⟩ := h
    obtain ⟨t, hf⟩ := T.far
    obtain ⟨a, rfl, ha⟩ := hp
    refine ⟨_, pss_one (ps_if (PW.pt (pw_or (pt_cmpR op_ne (pe_callB call_len_seq rfl T.len PySem.boot_len (pa_cons (pv 0) pa_nil)) pe_int (nomark _))
      (pw_or (pt_cmpR op_gt (pe_callB call_abs rfl T.abs PyProof.Rows.boot_abs (pa_cons (pe_ix ix_tup (pv 0) pe_int (fun _ _ => rfl)) pa_nil)) (pe_glob (v := .int 1000) rfl hf ⟨t, rfl⟩) (nomark _))
        (pw_or1 (pt_cmpR op_gt (pe_callB call_abs rfl T.abs PyProof.Rows.boot_abs (pa_cons (pe_ix ix_tup (pv 0) pe_int (fun _ _ => rfl)) pa_nil)) (pe_glob (v := .int 1000) rfl hf ⟨t, rfl⟩) (nomark _))))))
      pss_never pss_nil), ?_⟩
    refine ⟨_, rfl, a, _, rfl, .inr (SqT.of ha), rfl, _, rfl, ?_⟩
    refine iteF ?_
    refine ⟨_, rfl, a, _, _, _, rfl, rfl, SqT.of ha, atI_nat (j := 0) rfl, _, rfl, _, _, rfl, rfl, _, rfl, ?_⟩
    rw [abs_le hb.1 hb.2.1]
    refine iteF ?_
    refine ⟨_, rfl, a, _, _, _, rfl, rfl, SqT.of ha, atI_nat (j := 1) rfl, _, rfl, _, _, rfl, rfl, _, rfl, ?_⟩
    rw [abs_le hb.2.2.1 hb.2.2.2]
    exact iteF k
def spChks (K : PySem.W.Frag) : Sp := fun vs H Q _ => ∃ a xs ps, vs = [.ref a] ∧ SqL K H a xs ∧ ArePts H xs ps ∧ ps.length ≤ 12 ∧ (∀ p ∈ ps, Bd p) ∧ Q .non H
theorem scChks : FnScope ["points", "point"] ["points"] (defScope sChks) := ⟨rfl, rfl, rfl, by decide +kernel, rfl, by decide +kernel, by decide +kernel⟩
theorem ok_chks {f g : Addr} {fd gd : FuncData} (F : Fun K "check_points" "check_points" sChks f fd) (T : Txt mg) (G : FnOk P w K mg base CX0 1 g gd ["point"] spChk) (bG : Binds K gd ["point"] []) (kG : PySem.W.keepIn K (.ref g) = true) (mG : mg "check_point" = some (.ref g)) :
    FnOk P w K mg base CX0 2 f fd ["points"] (spChks K) := by
  refine F.ok scChks (fun vs H Q E h => ?_) (fun cdv A outer s H vs Q E hr h => ?_)
  · obtain ⟨a, xs, ps, rfl, _⟩ := h; rfl
  · obtain ⟨a, xs, ps, rfl, hq, hp, hl, hb, k⟩ := h
    obtain ⟨t, hm⟩ := T.most
    have ln := hp.length
    refine ⟨_, pss_cons (ps_if (pt_cmpR op_gt (pe_callB call_len_seq rfl T.len PySem.boot_len (pa_cons (pv 0) pa_nil)) (pe_glob (v := .int 12) rfl hm ⟨t, rfl⟩) (nomark _)) pss_never pss_nil)
      (pss_one (ps_for PassesOwn.never rfl (pi_list (pv 0)) (pg_name (i := 1) scChks.nd rfl (Or.inl rfl)) (pss_one (ps_expr (pe_call G hr rfl mG kG bG .nil pass0 (pa_cons (pv 1) pa_nil)))))), ?_⟩
    refine ⟨_, rfl, a, _, rfl, .inl hq, _, _, rfl, rfl, _, rfl, ?_⟩
    rw [decide_eq_false (show ¬ (12 : Int) < (xs.length : Int) by omega)]
    refine iteF ?_
    refine ⟨_, rfl, a, rfl, ⟨_, hq⟩, for_list (K := K) (a := a) (xs := xs) (fun i σ H2 => H2 = H ∧ ∃ v, σ = [some (.ref a), v]) ⟨rfl, none, rfl⟩ (fun i σ H2 _ ⟨e, _⟩ => by rw [e]; exact hq) ?_ ?_⟩
    · rintro i y σ H2 hi ⟨rfl, v, rfl⟩
      obtain ⟨p, h1, h2⟩ := Pair.get hp hi
      exact ⟨_, rfl, y, p, rfl, h2, hb p (List.mem_of_getElem? h1), rfl, some y, rfl⟩
    · rintro σ H2 ⟨rfl, v, rfl⟩
      exact k
end
end Toy
set_option maxRecDepth 100000
namespace Toy
open PySem L2 Geo
section
variable {P : Program} {w : World} {K : PySem.W.Frag} {mg : Str → Option Value} {base : Heap}
def IsPtK (K : PySem.W.Frag) (H : Hp) (v : V) (p : Pt) : Prop := ∃ a, v = .ref a ∧ SqT K H a [.int p.1, .int p.2]
theorem _root_.L2.IsPt.k {K : PySem.W.Frag} {H : Hp} {v : V} {p : Pt} (h : IsPt H v p) : IsPtK K H v p := by
  obtain ⟨a, e, h⟩ := h; exact ⟨a, e, SqT.of h⟩
theorem _root_.L2.Same.seqT {K : PySem.W.Frag} {H H' : Hp} {a : Addr} {xs : List V} (e : Same H H') (h : SqT K H a xs) : SqT K H' a xs := by
  rcases h with (h | ⟨o, h⟩) | h
  · exact .inl (.inl (e _ _ h))
  · exact .inl (.inr ⟨o, e _ _ h⟩)
  · exact .inr h
theorem IsPtK.same {K : PySem.W.Frag} {H H' : Hp} {v : V} {p : Pt} (h : IsPtK K H v p) (s : Same H H') : IsPtK K H' v p := by
  obtain ⟨a, e, h⟩ := h; exact ⟨a, e, s.seqT h⟩
end
end Toy
set_option maxRecDepth 100000
namespace Toy
open PySem L2 Geo
section
variable {P : Program} {w : World} {K : PySem.W.Frag} {mg : Str → Option Value} {base : Heap}
def spWorth (K : PySem.W.Frag) : Sp := fun vs H Q _ => ∃ u v l p, vs = [u, v] ∧ IsTri H u l ∧ IsPtK K H v p ∧ Bw p ∧ Q (.int (wrt l p)) H
theorem scWorth : FnScope ["line", "point"] ["line", "point"] (defScope sWorth) := ⟨rfl, rfl, rfl, by decide +kernel, rfl, by decide +kernel, by decide +kernel⟩
theorem ok_worth {f : Addr} {fd : FuncData} (F : Fun K "worth" "worth" sWorth f fd) : FnOk P w K mg base CX0 1 f fd ["line", "point"] (spWorth K) := by
  refine F.ok scWorth (fun vs H Q E h => ?_) (fun cdv A outer s H vs Q E hr h => ?_)
  · obtain ⟨u, v, l, p, rfl, _⟩ := h; rfl
  · obtain ⟨u, v, l, p, rfl, ⟨a, rfl, ha⟩, ⟨b, rfl, hb⟩, bp, k⟩ := h
    refine ⟨_, pss_one (ps_ret (pe_op op_add (pe_op op_add
      (pe_op op_mul (pe_ix ix_tup (pv 0) pe_int (fun _ _ => rfl)) (pe_ix ix_tup (pv 1) pe_int (fun _ _ => rfl)))
      (pe_op op_mul (pe_ix ix_tup (pv 0) pe_int (fun _ _ => rfl)) (pe_ix ix_tup (pv 1) pe_int (fun _ _ => rfl))))
      (pe_ix ix_tup (pv 0) pe_int (fun _ _ => rfl)))), ?_⟩
    refine ⟨_, rfl, a, _, _, _, rfl, rfl, SqT.of ha, atI_nat (j := 0) rfl, _, rfl, b, _, _, _, rfl, rfl, hb, atI_nat (j := 0) rfl, _, _, rfl, rfl, mulR _ _ bp.1 bp.2.1, ?_⟩
    refine ⟨_, rfl, a, _, _, _, rfl, rfl, SqT.of ha, atI_nat (j := 1) rfl, _, rfl, b, _, _, _, rfl, rfl, hb, atI_nat (j := 1) rfl, _, _, rfl, rfl, mulR _ _ bp.2.2.1 bp.2.2.2, ?_⟩
    exact ⟨_, _, rfl, rfl, _, rfl, a, _, _, _, rfl, rfl, SqT.of ha, atI_nat (j := 2) rfl, _, _, rfl, rfl, k⟩
end
end Toy
set_option maxRecDepth 100000
namespace Toy
open PySem L2 Geo
section
variable {P : Program} {w : World} {K : PySem.W.Frag} {mg : Str → Option Value} {base : Heap}
def spGcd : Sp := fun vs H Q _ => ∃ a b : Int, vs = [.int a, .int b] ∧ 0 ≤ a ∧ 0 ≤ b ∧ Q (.int (Int.gcd a b : Nat)) H
theorem scGcd : FnScope ["one", "other", "rest"] ["one", "other"] (defScope sGcd) := ⟨rfl, rfl, rfl, by decide +kernel, rfl, by decide +kernel, by decide +kernel⟩
theorem ok_gcd {f : Addr} {fd : FuncData} (F : Fun K "greatest_divisor" "greatest_divisor" sGcd f fd) : FnOk P w K mg base CX0 1 f fd ["one", "other"] spGcd := by
  refine F.ok scGcd (fun vs H Q E h => ?_) (fun cdv A outer s H vs Q E hr h => ?_)
  · obtain ⟨a, b, rfl, _⟩ := h; rfl
  · obtain ⟨a, b, rfl, ha, hb, k⟩ := h
    refine ⟨_, pss_cons (ps_while PassesOwn.never (pt_cmpR op_gt (pv 1) pe_int (nomark _))
        (pss_cons (ps_set (i := 2) scGcd.nd rfl (Or.inl rfl) (pe_op op_mod (pv 0) (pv 1)))
        (pss_cons (ps_set (i := 0) scGcd.nd rfl (Or.inl rfl) (pv 1))
        (pss_one (ps_set (i := 1) scGcd.nd rfl (Or.inl rfl) (pv 2))))))
      (pss_one (ps_ret (pv 0))), ?_⟩
    refine ⟨fun m σ' H3 => ∃ x y v, σ' = [some (.int x), some (.int y), v] ∧ H3 = H ∧ m = y.toNat ∧ 0 ≤ x ∧ 0 ≤ y ∧ Int.gcd x y = Int.gcd a b, ⟨_, a, b, none, rfl, rfl, rfl, ha, hb, rfl⟩, ?_⟩
    rintro m σ' H3 ⟨x, y, v, rfl, rfl, rfl, hx, hy, e⟩
    refine ⟨_, rfl, _, _, rfl, rfl, _, rfl, ?_⟩
    by_cases hy0 : 0 < y
    · rw [decide_eq_true hy0]
      refine iteT ⟨fun σ4 H4 => ∃ v, σ4 = [some (.int y), some (.int (x % y)), v] ∧ H4 = H3, fun σ4 H4 ⟨v, e4, e5⟩ => ⟨(x % y).toNat, ?_, y, x % y, v, e4, e5, rfl, hy, Int.emod_nonneg _ (by omega), ?_⟩, ?_⟩
      · have := Int.emod_lt_of_pos x hy0
        have := Int.emod_nonneg x (show y ≠ 0 by omega)
        omega
      · rw [gcd_step hx hy0]; exact e
      · exact ⟨_, rfl, _, rfl, _, _, rfl, rfl, hy0, _, rfl, _, rfl, _, rfl, rfl⟩
    · rw [decide_eq_false hy0]
      refine iteF ⟨_, rfl, ?_⟩
      have y0 : y = 0 := by omega
      subst y0
      have := gcd_zero hx
      rw [← e, this] at k
      exact k
end
end Toy
set_option maxRecDepth 100000
namespace Toy
open PySem L2 Geo
section
variable {P : Program} {w : World} {K : PySem.W.Frag} {mg : Str → Option Value} {base : Heap}
def spLowest : Sp := fun vs H Q _ => ∃ v t, vs = [v] ∧ IsTri H v t ∧ 0 < gcd3 t ∧ gcd3 t < 2 ^ 200 ∧ ∀ r, H r = none → Q (.ref r) (upd H r (.tup [.int (lowM t).1, .int (lowM t).2.1, .int (lowM t).2.2]))
theorem scLowest : FnScope ["three", "common"] ["three"] (defScope sLowest) := ⟨rfl, rfl, rfl, by decide +kernel, rfl, by decide +kernel, by decide +kernel⟩
theorem absI (i : Int) : (if i < 0 then -i else i) = (i.natAbs : Int) := by split <;> omega
theorem gcd3_abs (t : Tri) : Int.gcd (Int.gcd (t.1.natAbs : Int) (t.2.1.natAbs : Int) : Nat) (t.2.2.natAbs : Int) = gcd3 t := by
  unfold gcd3
  simp only [Int.gcd, Int.natAbs_natCast]
theorem ok_lowest {f g : Addr} {fd gd : FuncData} (F : Fun K "lowest" "lowest" sLowest f fd) (T : Txt mg) (G : FnOk P w K mg base CX0 1 g gd ["one", "other"] spGcd) (bG : Binds K gd ["one", "other"] []) (kG : PySem.W.keepIn K (.ref g) = true) (mG : mg "greatest_divisor" = some (.ref g)) :
    FnOk P w K mg base CX0 2 f fd ["three"] spLowest := by
  refine F.ok scLowest (fun vs H Q E h => ?_) (fun cdv A' outer s H vs Q E hr h => ?_)
  · obtain ⟨v, t, rfl, _⟩ := h; rfl
  · obtain ⟨v, t, rfl, ⟨a, rfl, ha⟩, g0, g1, k⟩ := h
    refine ⟨_, pss_cons (ps_set (i := 1) scLowest.nd rfl (Or.inl rfl) (pe_call G hr rfl mG kG bG .nil pass0 (pa_cons (pe_call G hr rfl mG kG bG .nil pass0 (pa_cons (pe_callB call_abs rfl T.abs PyProof.Rows.boot_abs (pa_cons (pe_ix ix_tup (pv 0) pe_int (fun _ _ => rfl)) pa_nil)) (pa_cons (pe_callB call_abs rfl T.abs PyProof.Rows.boot_abs (pa_cons (pe_ix ix_tup (pv 0) pe_int (fun _ _ => rfl)) pa_nil)) pa_nil))) (pa_cons (pe_callB call_abs rfl T.abs PyProof.Rows.boot_abs (pa_cons (pe_ix ix_tup (pv 0) pe_int (fun _ _ => rfl)) pa_nil)) pa_nil))))
      (pss_one (ps_ret (pe_tup (pa_cons (pe_op op_fdivB (pe_ix ix_tup (pv 0) pe_int (fun _ _ => rfl)) (pv 1)) (pa_cons (pe_op op_fdivB (pe_ix ix_tup (pv 0) pe_int (fun _ _ => rfl)) (pv 1)) (pa_cons (pe_op op_fdivB (pe_ix ix_tup (pv 0) pe_int (fun _ _ => rfl)) (pv 1)) pa_nil)))))), ?_⟩
    refine ⟨_, rfl, a, _, _, _, rfl, rfl, SqT.of ha, atI_nat (j := 0) rfl, _, rfl, _, rfl, a, _, _, _, rfl, rfl, SqT.of ha, atI_nat (j := 1) rfl, _, rfl, (t.1.natAbs : Int), (t.2.1.natAbs : Int), by rw [absI, absI]; rfl, by omega, by omega, ?_⟩
    refine ⟨_, rfl, a, _, _, _, rfl, rfl, SqT.of ha, atI_nat (j := 2) rfl, _, rfl, ((Int.gcd (t.1.natAbs : Int) (t.2.1.natAbs : Int) : Nat) : Int), (t.2.2.natAbs : Int), by rw [absI]; rfl, by omega, by omega, ?_⟩
    rw [gcd3_abs]
    have p0 : (0 : Int) < (gcd3 t : Nat) := by omega
    have p1 : ((gcd3 t : Nat) : Int) < 2 ^ 200 := by omega
    refine ⟨_, rfl, a, _, _, _, rfl, rfl, SqT.of ha, atI_nat (j := 0) rfl, _, rfl, _, _, rfl, rfl, ⟨p0, p1⟩, ?_⟩
    refine ⟨_, rfl, a, _, _, _, rfl, rfl, SqT.of ha, atI_nat (j := 1) rfl, _, rfl, _, _, rfl, rfl, ⟨p0, p1⟩, ?_⟩
    refine ⟨_, rfl, a, _, _, _, rfl, rfl, SqT.of ha, atI_nat (j := 2) rfl, _, rfl, _, _, rfl, rfl, ⟨p0, p1⟩, ?_⟩
    exact ⟨(by show 3 ≤ sizeLine; decide), fun r hr' => k r hr'⟩
end
end Toy
set_option maxRecDepth 100000
namespace Toy
open PySem L2 Geo
section
variable {P : Program} {w : World} {K : PySem.W.Frag} {mg : Str → Option Value} {base : Heap}
def spCell (K : PySem.W.Frag) : Sp := fun vs H Q _ => ∃ (a : Addr) (ns : List Int) (k : Int), vs = [.ref a, .int k] ∧ SqL K H a (ns.map V.int) ∧ 0 ≤ k ∧ ∀ z : Int, z = ns.getD k.toNat 0 → Q (.int z) H
theorem scCell : FnScope ["script", "k"] ["script", "k"] (defScope sCell) := ⟨rfl, rfl, rfl, by decide +kernel, rfl, by decide +kernel, by decide +kernel⟩
theorem ok_cell {f : Addr} {fd : FuncData} (F : Fun K "_law_cell_at" "_law_cell_at" sCell f fd) (T : Txt mg) : FnOk P w K mg base CX0 1 f fd ["script", "k"] (spCell K) := by
  refine F.ok scCell (fun vs H Q E h => ?_) (fun cdv A outer s H vs Q E hr h => ?_)
  · obtain ⟨a, ns, k, rfl, _⟩ := h; rfl
  · obtain ⟨a, ns, k, rfl, hq, h0, q⟩ := h
    refine ⟨_, pss_cons (ps_if (pt_cmpR op_lt (pv 1) (pe_callB call_len_seq rfl T.len PySem.boot_len (pa_cons (pv 0) pa_nil)) (nomark _)) (pss_one (ps_ret (pe_ix ix_list (pv 0) (pv 1) (fun _ _ => rfl)))) pss_nil) (pss_one (ps_ret pe_int)), ?_⟩
    refine ⟨_, rfl, _, rfl, a, _, rfl, .inl hq, _, _, rfl, rfl, _, rfl, ?_⟩
    refine ite2 (fun c => ?_) (fun c => ?_)
    · have c' : k < ((ns.map V.int).length : Int) := of_decide_eq_true c
      rw [List.length_map] at c'
      have hk : k.toNat < ns.length := by omega
      have e : atI (ns.map V.int) k = some (.int ns[k.toNat]) := by
        have := atI_nat (xs := ns.map V.int) (j := k.toNat) (v := .int ns[k.toNat]) (by simp [hk])
        rw [show ((k.toNat : Nat) : Int) = k by omega] at this
        exact this
      exact ⟨_, rfl, _, rfl, a, _, _, _, rfl, rfl, hq, e, q _ (by rw [List.getD_eq_getElem?_getD, List.getElem?_eq_getElem hk]; rfl)⟩
    · have c' : ¬ k < ((ns.map V.int).length : Int) := of_decide_eq_false (Bool.eq_false_iff.mpr c)
      rw [List.length_map] at c'
      exact q 0 (by rw [List.getD_eq_getElem?_getD, List.getElem?_eq_none (by omega)]; rfl)
def spNext : Sp := fun vs H Q _ => ∃ x : Int, vs = [.int x] ∧ ∀ r : Int, 0 ≤ r → r < 2147483629 → Q (.int r) H
theorem scNext : FnScope ["seed"] ["seed"] (defScope sNext) := ⟨rfl, rfl, rfl, by decide +kernel, rfl, by decide +kernel, by decide +kernel⟩
theorem ok_next {f : Addr} {fd : FuncData} (F : Fun K "_law_next" "_law_next" sNext f fd) : FnOk P w K mg base CX0 1 f fd ["seed"] spNext := by
  refine F.ok scNext (fun vs H Q E h => ?_) (fun cdv A outer s H vs Q E hr h => ?_)
  · obtain ⟨x, rfl, _⟩ := h; rfl
  · obtain ⟨x, rfl, q⟩ := h
    refine ⟨_, pss_cons (ps_set (i := 0) scNext.nd rfl (Or.inl rfl) (pe_op op_mod (pe_op op_add (pv 0) pe_int) pe_int))
      (pss_one (ps_ret (pe_op op_mod (pe_op op_add (pe_op op_add (pe_op op_mul (pv 0) (pv 0)) (pe_op op_mul pe_int (pv 0))) pe_int) pe_int))), ?_⟩
    refine ⟨_, rfl, _, _, rfl, rfl, _, _, rfl, rfl, (by show (0 : Int) < 2147483647; decide), ?_⟩
    have h1 := Int.emod_nonneg (x + 7919) (show (2147483647 : Int) ≠ 0 by decide)
    have h2 := Int.emod_lt_of_pos (x + 7919) (show (0 : Int) < 2147483647 by decide)
    refine ⟨_, rfl, _, rfl, _, _, rfl, rfl, .inl ⟨Int.lt_of_lt_of_le (by decide) h1, Int.lt_trans h2 (by decide)⟩, _, rfl, _, _, rfl, rfl, .inl ⟨by decide, by decide⟩, _, _, rfl, rfl, _, _, rfl, rfl, _, _, rfl, rfl, (by show (0 : Int) < 2147483629; decide), ?_⟩
    exact q _ (Int.emod_nonneg _ (by decide)) (Int.emod_lt_of_pos _ (by decide))
end
end Toy
set_option maxRecDepth 100000
namespace Toy
open PySem L2 Geo
section
variable {P : Program} {w : World} {K : PySem.W.Frag} {mg : Str → Option Value} {base : Heap}
def spWhole : Sp := fun vs H Q _ => ∃ x : Int, vs = [.int x] ∧ Q (.bl true) H
theorem scWhole : FnScope ["found"] ["found"] (defScope sWhole) := ⟨rfl, rfl, rfl, by decide +kernel, rfl, by decide +kernel, by decide +kernel⟩
theorem ok_whole {f : Addr} {fd : FuncData} (F : Fun K "_law_whole" "_law_whole" sWhole f fd) (T : Txt mg) : FnOk P w K mg base CX0 1 f fd ["found"] spWhole := by
  refine F.ok scWhole (fun vs H Q E h => ?_) (fun cdv A outer s H vs Q E hr h => ?_)
  · obtain ⟨x, rfl, _⟩ := h; rfl
  · obtain ⟨x, rfl, q⟩ := h
    refine ⟨_, pss_one (ps_ret (pe_and (pe_callB call_isi rfl T.isinstance PyProof.Rows.boot_isinstance (pa_cons (pv 0) (pa_cons (pe_bltn (v := .ty "int") rfl T.int PyProof.Rows.boot_int rfl) pa_nil)))
      (pe_one (pe_not (pe_callB call_isi rfl T.isinstance PyProof.Rows.boot_isinstance (pa_cons (pv 0) (pa_cons (pe_bltn (v := .ty "bool") rfl T.bool PyProof.Rows.boot_bool rfl) pa_nil))))))), ?_⟩
    refine ⟨_, rfl, _, "int", "int", true, rfl, rfl, kit_int_int, _, rfl, ?_⟩
    refine iteT ?_
    exact ⟨_, rfl, _, "int", "bool", false, rfl, rfl, kit_int_bool, _, rfl, q⟩
end
end Toy
set_option maxRecDepth 100000
namespace Toy
open PySem L2 Geo
section
variable {P : Program} {w : World} {K : PySem.W.Frag} {mg : Str → Option Value} {base : Heap}
def spPts (K : PySem.W.Frag) : Sp := fun vs H Q _ => ∃ (a : Addr) (ns : List Int) (i m : Int), vs = [.ref a, .int i, .int m] ∧ SqL K H a (ns.map V.int) ∧ 0 ≤ i ∧ 0 ≤ m ∧ m ≤ 12 ∧
  ∀ r zs ps H', H r = none → Same H H' → H' r = some (.lst zs) → ArePts H' zs ps → ps.length = (ns.getD i.toNat 0 % (m + 1)).toNat → (ps.length : Int) ≤ m → (∀ p ∈ ps, Bd p) → Q (.ref r) H'
theorem scPts : FnScope ["script", "at", "most", "many", "span", "points", "k", "seed", "wide", "across"] ["script", "at", "most"] (defScope sPts) := ⟨rfl, rfl, rfl, by decide +kernel, rfl, by decide +kernel, by decide +kernel⟩
abbrev cPts : Scope := lcScope (defScope sPts) (asgVal (nth (ifBody (nth (defBody sPts) 4)) 1))
theorem cs_pts {cdv : Value} {A : Around} {outer : List Env} {s : Shared} {H : Hp} {E : XK} {f : Addr} :
    CompScope (cxOf CX0 P w K mg base ["script", "at", "most", "many", "span", "points", "k", "seed", "wide", "across"] "_law_points" (defScope sPts) f cdv A outer s H E).nox cPts ["point", "across"] [none, some 9] where
  kind := rfl
  nocell := by decide +kernel
  names := by decide +kernel
  frees := by show ∀ z ∈ cPts.names, z.2 = .free → (defScope sPts).names.lookup z.1 = some .cell; decide +kernel
  nd := by decide +kernel
  len := rfl
  cap := fun i j h => match i, h with
    | 0, h => by simp at h
    | 1, h => by
      simp at h; subst h
      exact ⟨"across", rfl, rfl, by decide +kernel, rfl, .inl rfl⟩
    | n + 2, h => by simp at h
theorem span_at (z : Int) : ∃ sp : Int, atI ([.int 2, .int 4, .int 1000, .int 1] : List V) (z % 4) = some (.int sp) ∧ 1 ≤ sp ∧ sp ≤ 1000 := by
  have h : z % 4 = 0 ∨ z % 4 = 1 ∨ z % 4 = 2 ∨ z % 4 = 3 := by omega
  rcases h with h | h | h | h
  · rw [h]; exact ⟨2, atI_nat (j := 0) rfl, by decide, by decide⟩
  · rw [h]; exact ⟨4, atI_nat (j := 1) rfl, by decide, by decide⟩
  · rw [h]; exact ⟨1000, atI_nat (j := 2) rfl, by decide, by decide⟩
  · rw [h]; exact ⟨1, atI_nat (j := 3) rfl, by decide, by decide⟩
theorem pt_bd {a b sp : Int} (h1 : 1 ≤ sp) (h2 : sp ≤ 1000) : Bd (a % (2 * sp + 1) - sp, b % (2 * sp + 1) - sp) := by
  have a1 := Int.emod_nonneg a (show (2 * sp + 1) ≠ 0 by omega)
  have a2 := Int.emod_lt_of_pos a (show 0 < 2 * sp + 1 by omega)
  have b1 := Int.emod_nonneg b (show (2 * sp + 1) ≠ 0 by omega)
  have b2 := Int.emod_lt_of_pos b (show 0 < 2 * sp + 1 by omega)
  generalize a % (2 * sp + 1) = x at *
  generalize b % (2 * sp + 1) = y at *
  refine ⟨?_, ?_, ?_, ?_⟩ <;> dsimp only <;> omega
theorem ac_bd {p : Pt} {z : Int} (h : Bd p) : Bd (p.1, (z % 3 - 1) * p.1) := by
  have e : z % 3 - 1 = -1 ∨ z % 3 - 1 = 0 ∨ z % 3 - 1 = 1 := by omega
  obtain ⟨h1, h2, _, _⟩ := h
  rcases e with e | e | e <;> rw [e] <;> refine ⟨h1, h2, ?_, ?_⟩ <;> dsimp only <;> omega
theorem cs_nd : ((["point", "across"] : List Str)).Nodup := by decide +kernel
theorem ok_pts {f g h : Addr} {fd gd hd : FuncData} (F : Fun K "_law_points" "_law_points" sPts f fd) (T : Txt mg) (G : FnOk P w K mg base CX0 1 g gd ["script", "k"] (spCell K)) (bG : Binds K gd ["script", "k"] []) (kG : PySem.W.keepIn K (.ref g) = true) (mG : mg "_law_cell_at" = some (.ref g))
    (R : FnOk P w K mg base CX0 1 h hd ["seed"] spNext) (bR : Binds K hd ["seed"] []) (kR : PySem.W.keepIn K (.ref h) = true) (mR : mg "_law_next" = some (.ref h)) :
    FnOk P w K mg base CX0 2 f fd ["script", "at", "most"] (spPts K) := by
  refine F.ok scPts (fun vs H Q E h => ?_) (fun cdv A outer s H vs Q E hr h => ?_)
  · obtain ⟨a, ns, i, m, rfl, _⟩ := h; rfl
  · obtain ⟨a, ns, i, m, rfl, hq, i0, m0, m1, k⟩ := h
    refine ⟨_, pss_cons (ps_set (i := 3) scPts.nd rfl (Or.inl rfl) (pe_op op_mod (pe_call G hr rfl mG kG bG .nil pass0 (pa_cons (pv 0) (pa_cons (pv 1) pa_nil))) (pe_op op_add (pv 2) pe_int)))
      (pss_cons (ps_set (i := 4) scPts.nd rfl (Or.inl rfl) (pe_ix ix_list (pe_lst (pa_cons pe_int (pa_cons pe_int (pa_cons pe_int (pa_cons pe_int pa_nil))))) (pe_op op_mod (pe_call G hr rfl mG kG bG .nil pass0 (pa_cons (pv 0) (pa_cons (pe_op op_add (pv 1) pe_int) pa_nil))) pe_int) (fun _ _ => rfl)))
      (pss_cons (ps_set (i := 5) scPts.nd rfl (Or.inl rfl) (pe_lst pa_nil))
      (pss_cons (ps_for PassesOwn.never rfl (pi_range1 rfl T.range (pa_cons (pv 3) pa_nil)) (pg_name (i := 6) scPts.nd rfl (Or.inl rfl))
        (pss_cons (ps_set (i := 7) scPts.nd rfl (Or.inl rfl) (pe_call R hr rfl mR kR bR .nil pass0 (pa_cons (pe_op op_add (pe_call G hr rfl mG kG bG .nil pass0 (pa_cons (pv 0) (pa_cons (pe_op op_add (pe_op op_add (pv 1) pe_int) (pe_op op_mod (pv 6) pe_int)) pa_nil))) (pe_op op_mul pe_int (pv 6))) pa_nil)))
        (pss_cons (ps_set (i := 8) scPts.nd rfl (Or.inl rfl) (pe_op op_add (pe_op op_mul pe_int (pv 4)) pe_int))
        (pss_one (ps_expr (pe_bm PySem.F.plainAttrs_list PySem.F.slot_list_append PySem.F.type_list_append mt_append (pv 5) (pa_cons (pe_tup (pa_cons (pe_op op_sub (pe_op op_mod (pe_op op_fdiv (pv 7) pe_int) (pv 8)) (pv 4)) (pa_cons (pe_op op_sub (pe_op op_mod (pe_op op_fdiv (pe_op op_fdiv (pv 7) pe_int) (pv 8)) (pv 8)) (pv 4)) pa_nil))) pa_nil)))))))
      (pss_cons (ps_if (pt_cmpR op_eq (pe_op op_mod (pe_op op_fdiv (pe_call G hr rfl mG kG bG .nil pass0 (pa_cons (pv 0) (pa_cons (pe_op op_add (pv 1) pe_int) pa_nil))) pe_int) pe_int) pe_int (nomark _))
        (pss_cons (ps_set (i := 9) scPts.nd rfl (Or.inr rfl) (pe_op op_sub (pe_op op_mod (pe_call G hr rfl mG kG bG .nil pass0 (pa_cons (pv 0) (pa_cons (pe_op op_add (pv 1) pe_int) pa_nil))) pe_int) pe_int))
        (pss_one (ps_setC (i := 5) scPts.nd rfl rfl cs_pts rfl (pi_list (pv 5)) (fun _ _ _ _ _ => pg_name (i := 0) cs_nd rfl (Or.inl rfl)) (fun _ _ _ _ _ => pif_nil)
          (fun _ _ _ _ _ => pe_tup (pa_cons (pe_ix (ixt (K' := K) rfl) (pv 0) pe_int (fun _ _ => rfl)) (pa_cons (pe_op op_mul (pv 1) (pe_ix (ixt (K' := K) rfl) (pv 0) pe_int (fun _ _ => rfl))) pa_nil))) rfl))) pss_nil)
      (pss_one (ps_ret (pv 5))))))), ?_⟩
    refine ⟨_, rfl, _, rfl, a, ns, i, rfl, hq, i0, fun z1 hz1 => ?_⟩
    refine ⟨_, rfl, _, _, rfl, rfl, _, _, rfl, rfl, (by show (0 : Int) < m + 1; omega), ?_⟩
    have n1 := Int.emod_nonneg z1 (show m + 1 ≠ 0 by omega)
    have n2 := Int.emod_lt_of_pos z1 (show 0 < m + 1 by omega)
    refine ⟨(by show 4 ≤ sizeLine; decide), fun l hl => ?_⟩
    have s1 : Same H (upd H l (.lst [.int 2, .int 4, .int 1000, .int 1])) := same_upd (Same.refl H) hl
    refine ⟨_, rfl, _, rfl, _, _, rfl, rfl, a, ns, i + 1, rfl, s1.seq hq, by omega, fun z2 _ => ?_⟩
    obtain ⟨sp, e2, b1, b2⟩ := span_at z2
    refine ⟨_, _, rfl, rfl, (by show (0 : Int) < 4; decide), l, _, _, _, rfl, rfl, SqL.of upd_same, e2, ?_⟩
    refine ⟨(by show 0 ≤ sizeLine; decide), fun r hr0 => ?_⟩
    have hr1 : H r = none := s1.free hr0
    have s2 : Same H (upd (upd H l (.lst [.int 2, .int 4, .int 1000, .int 1])) r (.lst [])) := same_upd s1 hr1
    refine ⟨_, rfl, z1 % (m + 1), rfl, by omega, by omega, ?_⟩
    refine for_range (n := (z1 % (m + 1)).toNat) (fun j σ H2 => ∃ vk vs vw zs ps, σ = [some (.ref a), some (.int i), some (.int m), some (.int (z1 % (m + 1))), some (.int sp), some (.ref r), vk, vs, vw, none] ∧ Same H H2 ∧ H2 r = some (.lst zs) ∧ ArePts H2 zs ps ∧ ps.length = j ∧ ∀ p ∈ ps, Bd p)
      ⟨none, none, none, [], [], rfl, s2, upd_same, .nil, rfl, fun p hp => by simp at hp⟩ ?_ ?_
    · rintro j σ H2 hj ⟨vk, vs, vw, zs, ps, rfl, s3, h3, hp, hl', hb⟩
      have lz := hp.length
      refine ⟨_, rfl, _, rfl, _, _, rfl, rfl, _, rfl, _, _, rfl, rfl, (by show (0 : Int) < 8; decide), _, _, rfl, rfl, a, ns, _, rfl, s3.seq hq, (by omega), fun z3 _ => ?_⟩
      refine ⟨_, rfl, _, _, rfl, rfl, .inl ⟨by decide, by decide⟩, _, _, rfl, rfl, _, rfl, fun sd sd0 sd1 => ?_⟩
      refine ⟨_, rfl, _, _, rfl, rfl, .inl ⟨by decide, by decide⟩, _, _, rfl, rfl, ?_⟩
      have wp : (0 : Int) < 2 * sp + 1 := by omega
      refine ⟨_, rfl, .inl ⟨rfl, _, SqL.of h3⟩, ?_⟩
      refine ⟨_, rfl, _, _, rfl, rfl, ⟨by decide, by decide⟩, _, rfl, _, _, rfl, rfl, wp, _, rfl, _, _, rfl, rfl, ?_⟩
      refine ⟨_, rfl, _, _, rfl, rfl, ⟨by decide, by decide⟩, _, rfl, _, _, rfl, rfl, ⟨wp, (by omega)⟩, _, rfl, _, _, rfl, rfl, wp, _, rfl, _, _, rfl, rfl, ?_⟩
      refine ⟨(by show 2 ≤ sizeLine; decide), fun t ht => ?_⟩
      have tr : r ≠ t := ne_of_none h3 ht
      have h4 : (upd H2 t (.tup [.int (sd / 7 % (2 * sp + 1) - sp), .int (sd / 7 / (2 * sp + 1) % (2 * sp + 1) - sp)])) r = some (.lst zs) := by rw [upd_ne tr]; exact h3
      refine ⟨r, _, _, rfl, rfl, h4, small1000 (by omega), ?_⟩
      refine ⟨_, _, _, _, ps ++ [(sd / 7 % (2 * sp + 1) - sp, sd / 7 / (2 * sp + 1) % (2 * sp + 1) - sp)], rfl, same_upd (same_upd s3 (s3.free ht)) hr1, upd_same, ?_, by simp [hl'], fun p hp' => ?_⟩
      · refine Pair.append (ArePts.keep hp ((Keep.new ht _).trans (Keep.lst h4 _))) (.cons ⟨t, rfl, ?_⟩ .nil)
        rw [upd_ne tr.symm, upd_same]
      · rcases List.mem_append.mp hp' with z | z
        · exact hb p z
        · rw [List.mem_singleton] at z; rw [z]; exact pt_bd b1 b2
    · rintro σ H2 ⟨vk, vs, vw, zs, ps, rfl, s3, h3, hp, hl', hb⟩
      have lz := hp.length
      refine ⟨_, rfl, _, rfl, _, _, rfl, rfl, a, ns, _, rfl, s3.seq hq, by omega, fun z4 _ => ?_⟩
      refine ⟨_, _, rfl, rfl, ⟨by decide, by decide⟩, _, _, rfl, rfl, (by show (0 : Int) < 5; decide), rfl, _, rfl, ?_⟩
      refine ite2 (fun c => ?_) (fun c => ?_)
      · refine ⟨_, rfl, _, rfl, _, _, rfl, rfl, a, ns, _, rfl, s3.seq hq, by omega, fun z5 _ => ?_⟩
        refine ⟨_, _, rfl, rfl, (by show (0 : Int) < 3; decide), _, _, rfl, rfl, ?_⟩
        refine ⟨_, rfl, r, rfl, ⟨_, SqL.of h3⟩, fun D hD => ?_⟩
        have sD : Same H2 (upd H2 D (.lst [])) := same_upd (Same.refl H2) hD
        refine comp_list (K := K) (a := r) (xs := zs) (fun j σ' H' => ∃ v ys qs, σ' = [v, some (.int (z5 % 3 - 1))] ∧ Same H2 H' ∧ H' D = some (.lst ys) ∧ ArePts H' ys qs ∧ qs.length = j ∧ ∀ q ∈ qs, Bd q)
          ⟨none, [], [], rfl, sD, upd_same, .nil, rfl, fun p hp => by simp at hp⟩ (fun j σ' H' _ ⟨_, _, _, _, s4, _⟩ => s4.seq (SqL.of h3)) ?_ ?_
        · rintro j x σ' H' hj ⟨v, ys, qs, rfl, s4, h4, hq4, l4, b4⟩
          obtain ⟨p, p1, p2⟩ := Pair.get hp hj
          have hjl := (List.getElem?_eq_some_iff.mp hj).1
          have ly := hq4.length
          obtain ⟨t, rfl, ht⟩ := IsPt.same p2 s4
          dsimp only [gName, tYes]
          refine iteT ?_
          have bp : Bd p := hb p (List.mem_of_getElem? p1)
          refine ⟨_, rfl, t, _, _, _, rfl, rfl, SqT.of ht, atI_nat (j := 0) rfl, ?_⟩
          refine ⟨_, rfl, _, rfl, t, _, _, _, rfl, rfl, SqT.of ht, atI_nat (j := 0) rfl, _, _, rfl, rfl, mulOk _ _ (by omega) (by omega), ?_⟩
          refine ⟨(by show 2 ≤ sizeLine; decide), fun u hu => ?_⟩
          have uD : D ≠ u := ne_of_none h4 hu
          have h5 : (upd H' u (.tup [.int p.1, .int ((z5 % 3 - 1) * p.1)])) D = some (.lst ys) := by rw [upd_ne uD]; exact h4
          refine ⟨ys, h5, small1000 (by omega), _, _, qs ++ [(p.1, (z5 % 3 - 1) * p.1)], rfl, same_upd (same_upd s4 (s4.free hu)) hD, upd_same, ?_, by simp [l4], fun q hq' => ?_⟩
          · refine Pair.append (ArePts.keep hq4 ((Keep.new hu _).trans (Keep.lst h5 _))) (.cons ⟨u, rfl, ?_⟩ .nil)
            rw [upd_ne uD.symm, upd_same]
          · rcases List.mem_append.mp hq' with z | z
            · exact b4 q z
            · rw [List.mem_singleton] at z; rw [z]; exact ac_bd bp
        · rintro σ' H' ⟨v, ys, qs, rfl, s4, h4, hq4, l4, b4⟩
          refine ⟨_, rfl, k D ys qs H' (s3.free hD) (s3.trans s4) h4 hq4 (by rw [← hz1]; omega) (by omega) b4⟩
      · exact ⟨_, rfl, k r zs ps H2 hr1 s3 h3 hp (by rw [← hz1]; exact hl') (by omega) hb⟩
end
end Toy
set_option maxRecDepth 100000
namespace Geo
def dot (w u : Pt) : Int := w.1 * u.1 + w.2 * u.2
def crs (v u : Pt) : Int := v.1 * u.2 - v.2 * u.1
def cnt (us : List Pt) (w : Pt) : Nat := us.countP fun u => decide (0 ≤ dot w u)
def negP (v : Pt) : Pt := (-v.1, -v.2)
def sqP (v : Pt) : Pt := (-v.2, v.1)
def sumP (a b : Pt) : Pt := (a.1 + b.1, a.2 + b.2)
theorem crs_trans (w a b c : Pt) : dot w b * crs a c = dot w a * crs b c + dot w c * crs a b := by unfold dot crs; grind
theorem dot_vv {v : Pt} (h : v ≠ (0, 0)) : 0 < dot v v := by
  unfold dot
  have h1 : 0 ≤ v.1 * v.1 := by rcases Int.lt_or_le v.1 0 with c | c; exact Int.le_of_lt (Int.mul_pos_of_neg_of_neg c c); exact Int.mul_nonneg c c
  have h2 : 0 ≤ v.2 * v.2 := by rcases Int.lt_or_le v.2 0 with c | c; exact Int.le_of_lt (Int.mul_pos_of_neg_of_neg c c); exact Int.mul_nonneg c c
  rcases Int.lt_or_le 0 (v.1 * v.1 + v.2 * v.2) with c | c
  · exact c
  · exfalso
    have e1 : v.1 = 0 := by rcases Int.mul_eq_zero.mp (show v.1 * v.1 = 0 by omega) with k | k <;> exact k
    have e2 : v.2 = 0 := by rcases Int.mul_eq_zero.mp (show v.2 * v.2 = 0 by omega) with k | k <;> exact k
    exact h (Prod.ext e1 e2)
theorem dot_split (w v u : Pt) : dot w u * dot v v = dot w v * dot v u + crs v w * crs v u := by unfold dot crs; grind
theorem first_of (w : Pt) : ∀ us : List Pt, (∃ u ∈ us, dot w u < 0) → ∃ v ∈ us, dot w v < 0 ∧ ∀ u ∈ us, dot w u < 0 → 0 ≤ crs v u
  | [], h => by obtain ⟨u, hu, _⟩ := h; simp at hu
  | x :: r, h => by
    by_cases hr : ∃ u ∈ r, dot w u < 0
    · obtain ⟨v, hv, v1, v2⟩ := first_of w r hr
      by_cases hx : dot w x < 0
      · rcases Int.lt_or_le (crs v x) 0 with c | c
        · refine ⟨x, by simp, hx, fun u hu hw => ?_⟩
          rcases List.mem_cons.mp hu with e | e
          · rw [e]; unfold crs; rw [Int.mul_comm]; omega
          · have h1 := v2 u e hw
            have t := crs_trans w x v u
            have s1 : crs x v = - crs v x := by unfold crs; grind
            have a1 : 0 ≤ (- dot w x) * crs v u := Int.mul_nonneg (by omega) h1
            have a2 : 0 ≤ (- dot w u) * crs x v := Int.mul_nonneg (by omega) (by omega)
            rw [Int.neg_mul] at a1 a2
            exact nonneg_of_mul (show 0 < - dot w v by omega) (by rw [Int.neg_mul]; omega)
        · refine ⟨v, by simp [hv], v1, fun u hu hw => ?_⟩
          rcases List.mem_cons.mp hu with e | e
          · rw [e]; exact c
          · exact v2 u e hw
      · refine ⟨v, by simp [hv], v1, fun u hu hw => ?_⟩
        rcases List.mem_cons.mp hu with e | e
        · rw [e] at hw; exact absurd hw hx
        · exact v2 u e hw
    · obtain ⟨u, hu, hw⟩ := h
      have e : u = x := by
        rcases List.mem_cons.mp hu with e | e
        · exact e
        · exact absurd ⟨u, e, hw⟩ hr
      rw [e] at hw
      refine ⟨x, by simp, hw, fun u hu hw' => ?_⟩
      rcases List.mem_cons.mp hu with e | e
      · rw [e]; unfold crs; rw [Int.mul_comm]; omega
      · exact absurd ⟨u, e, hw'⟩ hr
theorem last_of (w : Pt) (us : List Pt) (h : ∃ u ∈ us, dot w u < 0) : ∃ v ∈ us, dot w v < 0 ∧ ∀ u ∈ us, dot w u < 0 → crs v u ≤ 0 := by
  obtain ⟨u0, hu0, h0⟩ := h
  obtain ⟨v', hv', v1, v2⟩ := first_of (w.1, -w.2) (us.map fun u => (u.1, -u.2)) ⟨(u0.1, -u0.2), List.mem_map.mpr ⟨u0, hu0, rfl⟩, by unfold dot at *; dsimp only; grind⟩
  obtain ⟨v, hv, rfl⟩ := List.mem_map.mp hv'
  refine ⟨v, hv, by unfold dot at *; dsimp only at *; grind, fun u hu hw => ?_⟩
  have := v2 (u.1, -u.2) (List.mem_map.mpr ⟨u, hu, rfl⟩) (by unfold dot at *; dsimp only; grind)
  unfold crs at *; dsimp only at *; grind
structure WaysOk (us ws : List Pt) : Prop where
  nz : ∀ w ∈ ws, w ≠ (0, 0)
  one : (1, 0) ∈ ws
  back : ∀ v ∈ us, v ≠ (0, 0) → negP v ∈ ws
  sums : ∀ v ∈ us, ∀ u ∈ us, sumP (sqP (negP v)) (sqP u) ≠ (0, 0) → sumP (sqP (negP v)) (sqP u) ∈ ws
theorem cnt_le {us : List Pt} {w w' : Pt} (h : ∀ u ∈ us, dot w u < 0 → dot w' u < 0) : cnt us w' ≤ cnt us w := by
  refine List.countP_mono_left fun u hu k => ?_
  have k := of_decide_eq_true k
  refine decide_eq_true ?_
  rcases Int.lt_or_le (dot w u) 0 with c | c
  · have := h u hu c; omega
  · exact c
theorem ways_do {us ws : List Pt} (H : WaysOk us ws) {w : Pt} : ∃ w' ∈ ws, cnt us w' ≤ cnt us w := by
  by_cases h : ∃ u ∈ us, dot w u < 0
  · obtain ⟨v, hv, v1, v2⟩ := first_of w us h
    obtain ⟨u, hu, u1, u2⟩ := last_of w us h
    have nz : ∀ {x : Pt}, dot w x < 0 → x ≠ (0, 0) := fun {x} hx e => by rw [e] at hx; unfold dot at hx; dsimp only at hx; omega
    have k := v2 u hu u1
    -- what is behind lies between the two
    rcases Int.lt_or_le 0 (crs v u) with c | c
    · have e1 : dot (sumP (sqP (negP v)) (sqP u)) v = - crs v u := by unfold dot sumP sqP negP crs; dsimp only; grind
      refine ⟨sumP (sqP (negP v)) (sqP u), H.sums v hv u hu (fun e => ?_), cnt_le fun x hx hw => ?_⟩
      · rw [e] at e1; unfold dot at e1; dsimp only at e1; omega
      · have a := v2 x hx hw
        have b := u2 x hx hw
        have e2 : dot (sumP (sqP (negP v)) (sqP u)) x = crs u x - crs v x := by unfold dot sumP sqP negP crs; dsimp only; grind
        rw [e2]
        rcases Int.lt_or_le (crs u x - crs v x) 0 with c' | c'
        · exact c'
        · exfalso
          have z1 : crs v x = 0 := by omega
          have z2 : crs u x = 0 := by omega
          have t := crs_trans w v x u
          have z3 : crs x u = 0 := by have : crs x u = - crs u x := by (unfold crs; grind)
                                      omega
          rw [z1, z3] at t
          have : dot w x * crs v u < 0 := Int.mul_neg_of_neg_of_pos hw c
          omega
    · have z : crs v u = 0 := by omega
      refine ⟨negP v, H.back v hv (nz v1), cnt_le fun x hx hw => ?_⟩
      have a := v2 x hx hw
      have b := u2 x hx hw
      have t := crs_trans w v u x
      rw [z, Int.mul_zero, Int.add_zero] at t
      have z1 : crs v x = 0 := by
        have p1 : 0 ≤ (- dot w u) * crs v x := Int.mul_nonneg (by omega) a
        have p2 : 0 ≤ (- dot w v) * (- crs u x) := Int.mul_nonneg (by omega) (by omega)
        rw [Int.neg_mul_neg] at p2
        rw [Int.neg_mul] at p1
        rcases Int.mul_eq_zero.mp (show dot w u * crs v x = 0 by omega) with k | k
        · omega
        · exact k
      have sp := dot_split w v x
      rw [z1, Int.mul_zero, Int.add_zero] at sp
      have pv := dot_vv (nz v1)
      have : dot w x * dot v v < 0 := Int.mul_neg_of_neg_of_pos hw pv
      have q : 0 < (- dot w v) * dot v x := by rw [Int.neg_mul]; omega
      have := pos_of_mul (by omega) q
      unfold dot negP at *; dsimp only at *; grind
  · refine ⟨(1, 0), H.one, cnt_le fun u hu hw => absurd ⟨u, hu, hw⟩ h⟩
structure IsDepth (us : List Pt) (m : Nat) : Prop where
  at_ : ∃ w, w ≠ (0, 0) ∧ m = cnt us w
  le : ∀ w, w ≠ (0, 0) → m ≤ cnt us w
theorem depth_of {us ws : List Pt} (H : WaysOk us ws) {m : Nat} (h1 : ∃ w ∈ ws, m = cnt us w) (h2 : ∀ w ∈ ws, m ≤ cnt us w) : IsDepth us m := by
  obtain ⟨w, hw, e⟩ := h1
  refine ⟨⟨w, H.nz w hw, e⟩, fun w' _ => ?_⟩
  obtain ⟨w2, hw2, le⟩ := ways_do H (w := w')
  exact Nat.le_trans (h2 w2 hw2) le
def lf (v : Pt) (s : Int) (u : Pt) : Bool := decide (0 < s * crs v u) || decide (u = (0, 0))
def ah (v : Pt) (s : Int) (u : Pt) : Bool := !lf v s u && (decide (s * crs v u = 0) && decide (0 < dot v u))
def bh (v : Pt) (s : Int) (u : Pt) : Bool := !lf v s u && (decide (s * crs v u = 0) && !decide (0 < dot v u))
def val (us : List Pt) (v : Pt) (s : Int) : Nat := us.countP (lf v s) + min (us.countP (ah v s)) (us.countP (bh v s))
theorem countP_sum_le {p q r : Pt → Bool} : ∀ {l : List Pt}, (∀ x ∈ l, p x = true → q x = true ∨ r x = true) → l.countP p ≤ l.countP q + l.countP r
  | [], _ => by simp
  | x :: l, h => by
    have ih := countP_sum_le (l := l) fun y hy => h y (by simp [hy])
    have hx := h x (by simp)
    simp only [List.countP_cons]
    have a : (if p x = true then 1 else 0) ≤ (if q x = true then 1 else 0) + (if r x = true then 1 else 0) := by
      clear ih; cases hp : p x <;> cases hq : q x <;> cases hr : r x <;> simp_all
    omega
theorem sum_le_countP {p q r : Pt → Bool} : ∀ {l : List Pt}, (∀ x ∈ l, (q x = true → p x = true) ∧ (r x = true → p x = true) ∧ ¬ (q x = true ∧ r x = true)) → l.countP q + l.countP r ≤ l.countP p
  | [], _ => by simp
  | x :: l, h => by
    have ih := sum_le_countP (l := l) fun y hy => h y (by simp [hy])
    have hx := h x (by simp)
    simp only [List.countP_cons]
    have a : (if q x = true then 1 else 0) + (if r x = true then 1 else 0) ≤ (if p x = true then 1 else 0) := by
      clear ih; cases hp : p x <;> cases hq : q x <;> cases hr : r x <;> simp_all
    omega
theorem val_le (us : List Pt) (w : Pt) : us.length ≤ cnt us w ∨ ∃ v ∈ us, v ≠ (0, 0) ∧ val us v (-1) ≤ cnt us w := by
  by_cases h : ∃ u ∈ us, dot w u < 0
  · right
    obtain ⟨v, hv, v1, v2⟩ := first_of w us h
    have vz : v ≠ (0, 0) := fun e => by rw [e] at v1; unfold dot at v1; dsimp only at v1; omega
    refine ⟨v, hv, vz, ?_⟩
    have : us.countP (lf v (-1)) + us.countP (bh v (-1)) ≤ cnt us w := by
      refine sum_le_countP fun x hx => ⟨fun k => ?_, fun k => ?_, fun k => ?_⟩
      · refine decide_eq_true ?_
        rcases Int.lt_or_le (dot w x) 0 with c | c
        · exfalso
          have a := v2 x hx c
          unfold lf at k
          rw [Bool.or_eq_true] at k
          rcases k with k | k
          · have := of_decide_eq_true k; omega
          · have := of_decide_eq_true k; rw [this] at c; unfold dot at c; dsimp only at c; omega
        · exact c
      · refine decide_eq_true ?_
        rcases Int.lt_or_le (dot w x) 0 with c | c
        · exfalso
          unfold bh at k
          simp only [Bool.and_eq_true, Bool.not_eq_true', decide_eq_true_eq, decide_eq_false_iff_not] at k
          obtain ⟨_, k1, k2⟩ := k
          have z : crs v x = 0 := by omega
          have sp := dot_split w v x
          rw [z, Int.mul_zero, Int.add_zero] at sp
          have pv := dot_vv vz
          have : dot w x * dot v v < 0 := Int.mul_neg_of_neg_of_pos c pv
          have q : 0 < (- dot w v) * dot v x := by rw [Int.neg_mul]; omega
          exact k2 (pos_of_mul (by omega) q)
        · exact c
      · unfold bh at k; rw [k.1] at k; simp at k
    unfold val; omega
  · left
    unfold cnt
    rw [List.countP_eq_length.mpr fun u hu => decide_eq_true (by
      rcases Int.lt_or_le (dot w u) 0 with c | c
      · exact absurd ⟨u, hu, c⟩ h
      · exact c)]
    exact Nat.le_refl _
theorem sum_ge {f : Pt → Nat} : ∀ {l : List Pt} {x : Pt}, x ∈ l → f x ≤ (l.map f).sum
  | y :: r, x, h => by
    simp only [List.map_cons, List.sum_cons]
    rcases List.mem_cons.mp h with e | e
    · rw [e]; omega
    · have := sum_ge (f := f) e; omega
theorem val_way (us : List Pt) {v : Pt} (hv : v ≠ (0, 0)) {s : Int} (hs : s = 1 ∨ s = -1) : ∃ w, w ≠ (0, 0) ∧ cnt us w ≤ val us v s := by
  have key : ∀ e : Int, e = 1 ∨ e = -1 → ∃ w, w ≠ (0, 0) ∧ ∀ u ∈ us, 0 ≤ dot w u → lf v s u = true ∨ (lf v s u = false ∧ s * crs v u = 0 ∧ 0 < e * dot v u) := fun e he => by
    have pv := dot_vv hv
    generalize hN : (((us.map fun u => (dot v u).natAbs).sum + 1 : Nat) : Int) = N
    have Npos : 0 < N := by omega
    have big : ∀ u ∈ us, -N < dot v u ∧ dot v u < N := fun u hu => by
      have := sum_ge (f := fun u => (dot v u).natAbs) hu
      omega
    have dw : ∀ u, dot (N * s * (-v.2) + e * v.1, N * s * v.1 + e * v.2) u = N * (s * crs v u) + e * dot v u := fun u => by unfold dot crs; dsimp only; grind
    refine ⟨(N * s * (-v.2) + e * v.1, N * s * v.1 + e * v.2), fun z => ?_, fun u hu h => ?_⟩
    · have := dw v
      rw [z] at this
      have c0 : crs v v = 0 := by unfold crs; rw [Int.mul_comm]; omega
      rw [c0] at this
      unfold dot at this pv; dsimp only at this
      rcases he with he | he <;> rw [he] at this <;> omega
    · rw [dw] at h
      cases hl : lf v s u with
      | true => exact .inl rfl
      | false =>
        right
        unfold lf at hl
        rw [Bool.or_eq_false_iff] at hl
        have l1 := of_decide_eq_false hl.1
        have l2 := of_decide_eq_false hl.2
        have b := big u hu
        have c0 : s * crs v u = 0 := by
          rcases Int.lt_or_le (s * crs v u) 0 with c | c
          · exfalso
            have : N * (s * crs v u) ≤ -N := by
              have : 0 ≤ N * (-1 - s * crs v u) := Int.mul_nonneg (by omega) (by omega)
              rw [Int.mul_sub] at this; omega
            rcases he with he | he <;> rw [he] at h <;> omega
          · omega
        refine ⟨rfl, c0, ?_⟩
        rw [c0, Int.mul_zero, Int.zero_add] at h
        rcases Int.lt_or_le 0 (e * dot v u) with c | c
        · exact c
        · exfalso
          have d0 : dot v u = 0 := by rcases he with he | he <;> rw [he] at h c <;> omega
          have cz : crs v u = 0 := by rcases hs with hs | hs <;> rw [hs] at c0 <;> omega
          have e1 : dot v v * u.1 = dot v u * v.1 - crs v u * v.2 := by unfold dot crs; grind
          have e2 : dot v v * u.2 = dot v u * v.2 + crs v u * v.1 := by unfold dot crs; grind
          rw [d0, cz] at e1 e2
          have u1 : u.1 = 0 := by rcases Int.mul_eq_zero.mp (show dot v v * u.1 = 0 by omega) with k | k <;> omega
          have u2 : u.2 = 0 := by rcases Int.mul_eq_zero.mp (show dot v v * u.2 = 0 by omega) with k | k <;> omega
          exact l2 (Prod.ext u1 u2)
  obtain ⟨w1, n1, h1⟩ := key 1 (.inl rfl)
  obtain ⟨w2, n2, h2⟩ := key (-1) (.inr rfl)
  have c1 : cnt us w1 ≤ us.countP (lf v s) + us.countP (ah v s) := countP_sum_le fun u hu k => by
    rcases h1 u hu (of_decide_eq_true k) with z | ⟨z1, z2, z3⟩
    · exact .inl z
    · right; unfold ah; rw [z1, decide_eq_true z2, decide_eq_true (show 0 < dot v u by omega)]; rfl
  have c2 : cnt us w2 ≤ us.countP (lf v s) + us.countP (bh v s) := countP_sum_le fun u hu k => by
    rcases h2 u hu (of_decide_eq_true k) with z | ⟨z1, z2, z3⟩
    · exact .inl z
    · right; unfold bh; rw [z1, decide_eq_true z2, decide_eq_false (show ¬ 0 < dot v u by omega)]; rfl
  unfold val
  rcases Nat.le_total (us.countP (ah v s)) (us.countP (bh v s)) with c | c
  · exact ⟨w1, n1, by omega⟩
  · exact ⟨w2, n2, by omega⟩
structure LawD (us : List Pt) (b : Nat) : Prop where
  n : b ≤ us.length
  le : ∀ v ∈ us, v ≠ (0, 0) → b ≤ val us v 1 ∧ b ≤ val us v (-1)
  at_ : b = us.length ∨ ∃ v ∈ us, v ≠ (0, 0) ∧ ∃ s : Int, (s = 1 ∨ s = -1) ∧ b = val us v s
theorem LawD.depth {us : List Pt} {b : Nat} (h : LawD us b) {m : Nat} (g : IsDepth us m) : m = b := by
  have le1 : b ≤ m := by
    obtain ⟨w, _, e⟩ := g.at_
    rcases val_le us w with k | ⟨v, hv, vz, k⟩
    · have := h.n; omega
    · have := (h.le v hv vz).2; omega
  have le2 : m ≤ b := by
    rcases h.at_ with e | ⟨v, hv, vz, s, hs, e⟩
    · have := g.le (1, 0) (by decide)
      have := List.countP_le_length (p := fun u => decide (0 ≤ dot (1, 0) u)) (l := us)
      unfold cnt at *; omega
    · obtain ⟨w, w0, k⟩ := val_way us vz hs
      have := g.le w w0
      omega
  omega
end Geo
set_option maxRecDepth 100000
namespace Toy
open PySem L2 Geo
def stepOf (sp : Tri) (p : Pt) : Pt := (p.1 * sp.2.2 - sp.1, p.2 * sp.2.2 - sp.2.1)
def lineW (sp : Tri) (w : Pt) : Tri := (w.1 * sp.2.2, w.2 * sp.2.2, -w.1 * sp.1 - w.2 * sp.2.1)
structure SpW (sp : Tri) : Prop where
  x : -1099511627776 ≤ sp.1 ∧ sp.1 ≤ 1099511627776
  y : -1099511627776 ≤ sp.2.1 ∧ sp.2.1 ≤ 1099511627776
  d : 0 < sp.2.2 ∧ sp.2.2 ≤ 1073741824
def Far (n : Int) (w : Pt) : Prop := -n ≤ w.1 ∧ w.1 ≤ n ∧ -n ≤ w.2 ∧ w.2 ≤ n
theorem mul_box {a b m n : Int} (h1 : -m ≤ a) (h2 : a ≤ m) (h3 : 0 ≤ b) (h4 : b ≤ n) : -(m * n) ≤ a * b ∧ a * b ≤ m * n := by
  have m0 : 0 ≤ m := by omega
  have k1 : 0 ≤ (m - a) * b := Int.mul_nonneg (by omega) h3
  have k2 : 0 ≤ (m + a) * b := Int.mul_nonneg (by omega) h3
  have k3 : 0 ≤ m * (n - b) := Int.mul_nonneg m0 (by omega)
  rw [Int.sub_mul] at k1; rw [Int.add_mul] at k2; rw [Int.mul_sub] at k3
  omega
theorem step_far {sp : Tri} {p : Pt} (h : SpW sp) (b : Bd p) : Far 2199023255552 (stepOf sp p) := by
  obtain ⟨b1, b2, b3, b4⟩ := b
  have m1 := mul_box (m := 1000) (n := 1073741824) b1 b2 (Int.le_of_lt h.d.1) h.d.2
  have m2 := mul_box (m := 1000) (n := 1073741824) b3 b4 (Int.le_of_lt h.d.1) h.d.2
  have := h.x; have := h.y
  unfold Far stepOf; dsimp only; omega
theorem wrt_lineW (sp : Tri) (w p : Pt) : wrt (lineW sp w) p = dot w (stepOf sp p) := by unfold wrt lineW dot stepOf; dsimp only; grind
theorem lineW_pos {sp : Tri} {w : Pt} (h : 0 < sp.2.2) (hw : w ≠ (0, 0)) : 0 < gcd3 (lineW sp w) := by
  rcases Nat.eq_zero_or_pos (gcd3 (lineW sp w)) with e | e
  · exfalso
    obtain ⟨m1, m2, _⟩ := lowM_mul (lineW sp w)
    rw [e] at m1 m2
    simp only [Int.natCast_zero, Int.mul_zero, lineW] at m1 m2
    have a1 : w.1 = 0 := by rcases Int.mul_eq_zero.mp m1.symm with k | k <;> omega
    have a2 : w.2 = 0 := by rcases Int.mul_eq_zero.mp m2.symm with k | k <;> omega
    exact hw (Prod.ext a1 a2)
  · exact e
theorem lineW_lt {sp : Tri} {w : Pt} (h : SpW sp) (hw : w ≠ (0, 0)) (f : Far 4398046511104 w) : gcd3 (lineW sp w) < 2 ^ 200 := by
  obtain ⟨d1, d2, _⟩ := gcd3_dvd (lineW sp w)
  obtain ⟨f1, f2, f3, f4⟩ := f
  have m1 := mul_box (m := 4398046511104) (n := 1073741824) f1 f2 (Int.le_of_lt h.d.1) h.d.2
  have m2 := mul_box (m := 4398046511104) (n := 1073741824) f3 f4 (Int.le_of_lt h.d.1) h.d.2
  have big : (4398046511104 * 1073741824 : Nat) < 2 ^ 200 := by decide
  have le : ∀ {x : Int}, x ≠ 0 → ((gcd3 (lineW sp w) : Nat) : Int) ∣ x → gcd3 (lineW sp w) ≤ x.natAbs := fun {x} hx hd => Nat.le_of_dvd (by omega) (Int.ofNat_dvd_left.mp hd)
  by_cases e1 : w.1 = 0
  · have e2 : w.2 ≠ 0 := fun e2 => hw (Prod.ext e1 e2)
    have nz : w.2 * sp.2.2 ≠ 0 := fun z => by rcases Int.mul_eq_zero.mp z with k | k; exact e2 k; have := h.d; omega
    have := le nz d2
    omega
  · have nz : w.1 * sp.2.2 ≠ 0 := fun z => by rcases Int.mul_eq_zero.mp z with k | k; exact e1 k; have := h.d; omega
    have := le nz d1
    omega
theorem low_side {sp : Tri} {w p : Pt} (h : 0 < sp.2.2) (hw : w ≠ (0, 0)) : 0 ≤ wrt (lowM (lineW sp w)) p ↔ 0 ≤ dot w (stepOf sp p) := by
  have g := lineW_pos h hw
  obtain ⟨m1, m2, m3⟩ := lowM_mul (lineW sp w)
  rw [← wrt_lineW]
  have e : wrt (lineW sp w) p = (gcd3 (lineW sp w) : Nat) * wrt (lowM (lineW sp w)) p := by
    conv => lhs; unfold wrt
    rw [← m1, ← m2, ← m3]
    unfold wrt; grind
  rw [e]
  constructor
  · intro k; exact Int.mul_nonneg (by omega) k
  · intro k; exact nonneg_of_mul (show (0 : Int) < (gcd3 (lineW sp w) : Nat) by omega) k
def pairS (us : List Pt) (n : Nat) : List Pt := (List.range n).flatMap fun i => (us.take i).map fun o => sumP (us.getD i (0, 0)) o
theorem pairS_succ (us : List Pt) (n : Nat) : pairS us (n + 1) = pairS us n ++ (us.take n).map fun o => sumP (us.getD n (0, 0)) o := by
  unfold pairS; rw [List.range_succ, List.flatMap_append]; simp
theorem pairS_mem {us : List Pt} {i j : Nat} {x y : Pt} (hj : j < i) (hx : us[i]? = some x) (hy : us[j]? = some y) : sumP x y ∈ pairS us us.length := by
  unfold pairS
  have hi := (List.getElem?_eq_some_iff.mp hx).1
  refine List.mem_flatMap.mpr ⟨i, List.mem_range.mpr hi, List.mem_map.mpr ⟨y, ?_, ?_⟩⟩
  · refine List.mem_iff_getElem?.mpr ⟨j, ?_⟩
    rw [List.getElem?_take, if_pos hj, hy]
  · rw [List.getD_eq_getElem?_getD, hx]; rfl
theorem pairS_far {us : List Pt} {n : Int} (h : ∀ u ∈ us, Far n u) (m : Nat) (hm : m ≤ us.length) : ∀ w ∈ pairS us m, Far (n + n) w := fun w hw => by
  unfold pairS at hw
  obtain ⟨i, hi, hw⟩ := List.mem_flatMap.mp hw
  obtain ⟨o, ho, rfl⟩ := List.mem_map.mp hw
  have hi' := List.mem_range.mp hi
  have h1 := h o (List.mem_of_mem_take ho)
  have h2 := h (us.getD i (0, 0)) (by rw [List.getD_eq_getElem?_getD, List.getElem?_eq_getElem (by omega)]; exact List.getElem_mem _)
  unfold Far sumP at *; dsimp only; omega
theorem pairS_len (us : List Pt) : ∀ n, (pairS us n).length ≤ n * n
  | 0 => by simp [pairS]
  | n + 1 => by
    rw [pairS_succ, List.length_append, List.length_map, List.length_take]
    have := pairS_len us n
    rw [Nat.add_mul, Nat.mul_add]; omega
def waysM (us : List Pt) : List Pt := us ++ us.map negP ++ pairS ((us ++ us.map negP).map sqP) ((us ++ us.map negP).map sqP).length
theorem ways_ok (us : List Pt) : WaysOk us ((1, 0) :: (waysM us).filter fun w => decide (w ≠ (0, 0))) := by
  refine ⟨fun w hw => ?_, by simp, fun v hv hz => ?_, fun v hv u hu hz => ?_⟩
  · rcases List.mem_cons.mp hw with e | e
    · rw [e]; decide
    · exact of_decide_eq_true (List.mem_filter.mp e).2
  · refine List.mem_cons_of_mem _ (List.mem_filter.mpr ⟨?_, decide_eq_true fun e => hz ?_⟩)
    · unfold waysM; simp only [List.mem_append, List.mem_map]; exact .inl (.inr ⟨v, hv, rfl⟩)
    · unfold negP at e
      have e1 := congrArg Prod.fst e; have e2 := congrArg Prod.snd e
      dsimp only at e1 e2
      exact Prod.ext (by dsimp only; omega) (by dsimp only; omega)
  · refine List.mem_cons_of_mem _ (List.mem_filter.mpr ⟨?_, decide_eq_true hz⟩)
    unfold waysM
    rw [List.mem_append]
    right
    obtain ⟨i, hi⟩ := List.mem_iff_getElem?.mp hv
    obtain ⟨j, hj⟩ := List.mem_iff_getElem?.mp hu
    have hjl := (List.getElem?_eq_some_iff.mp hj).1
    refine pairS_mem (i := us.length + i) (j := j) (by omega) ?_ ?_
    · rw [List.getElem?_map, List.getElem?_append_right (by omega), Nat.add_sub_cancel_left, List.getElem?_map, hi]; rfl
    · rw [List.getElem?_map, List.getElem?_append_left hjl, hj]; rfl
theorem ways_far {us : List Pt} {n : Int} (h : ∀ u ∈ us, Far n u) (hn : 1 ≤ n) : ∀ w ∈ (1, 0) :: (waysM us).filter fun w => decide (w ≠ (0, 0)), Far (n + n) w := fun w hw => by
  rcases List.mem_cons.mp hw with e | e
  · rw [e]; unfold Far; dsimp only; omega
  · have hb : ∀ u ∈ us ++ us.map negP, Far n u := fun u hu => by
      rcases List.mem_append.mp hu with k | k
      · exact h u k
      · obtain ⟨v, hv, rfl⟩ := List.mem_map.mp k
        have := h v hv; unfold Far negP at *; dsimp only; omega
    have e := (List.mem_filter.mp e).1
    unfold waysM at e
    rcases List.mem_append.mp e with k | k
    · have := hb w k; unfold Far at *; omega
    · refine pairS_far (fun u hu => ?_) _ (Nat.le_refl _) w k
      obtain ⟨v, hv, rfl⟩ := List.mem_map.mp hu
      have := hb v hv; unfold Far sqP at *; dsimp only; omega
end Toy
set_option maxRecDepth 100000
namespace Toy
open PySem L2 Geo
section
variable {P : Program} {w : World} {K : PySem.W.Frag} {mg : Str → Option Value} {base : Heap}
def spCkSpot : Sp := fun vs H Q _ => ∃ v t, vs = [v] ∧ IsTri H v t ∧ SpOk t ∧ ∀ H', Same H H' → Q .non H'
theorem scCkSpot : FnScope ["spot"] ["spot"] (defScope sCkSpot) := ⟨rfl, rfl, rfl, by decide +kernel, rfl, by decide +kernel, by decide +kernel⟩
theorem low_self {t : Tri} (h : SpOk t) : lowM t = t := by
  obtain ⟨m1, m2, m3⟩ := lowM_mul t
  rw [h.low] at m1 m2 m3
  exact Prod.ext (by simpa using m1) (Prod.ext (by simpa using m2) (by simpa using m3))
theorem ok_ckspot {f g : Addr} {fd gd : FuncData} (F : Fun K "check_spot" "check_spot" sCkSpot f fd) (T : Txt mg)
    (L : FnOk P w K mg base CX0 2 g gd ["three"] spLowest) (bL : Binds K gd ["three"] []) (kL : PySem.W.keepIn K (.ref g) = true) (mL : mg "lowest" = some (.ref g)) : FnOk P w K mg base CX0 3 f fd ["spot"] spCkSpot := by
  refine F.ok scCkSpot (fun vs H Q E h => ?_) (fun cdv A outer s H vs Q E hr h => ?_)
  · obtain ⟨v, t, rfl, _⟩ := h; rfl
  · obtain ⟨v, t, rfl, ⟨a, rfl, ha⟩, ok, k⟩ := h
    have hu : (A.deeper (PyProof.Rows.envOfC "check_spot" (defScope sCkSpot) s.heap.objs.size f cdv)).units + 16 < cLine := by have := hr.units; omega
    refine ⟨_, pss_one (ps_if (PW.pt (pw_or (pt_cmpR op_ne (pe_callB call_len_seq rfl T.len PySem.boot_len (pa_cons (pv 0) pa_nil)) pe_int (nomark _))
      (pw_or (pt_cmpR op_le (pe_ix ix_tup (pv 0) pe_int (fun _ _ => rfl)) pe_int (nomark _))
      (pw_or1 (pt_cmpR (op_neT hu) (pe_call L hr rfl mL kL bL .nil pass0 (pa_cons (pv 0) pa_nil)) (pv 0) (nomark _)))))) pss_never pss_nil), ?_⟩
    refine ⟨_, rfl, a, _, rfl, .inr (SqT.of ha), rfl, _, rfl, iteF ?_⟩
    refine ⟨_, rfl, a, _, _, _, rfl, rfl, SqT.of ha, atI_nat (j := 2) rfl, _, _, rfl, rfl, false, (by show V.bl (decide (t.2.2 ≤ 0)) = V.bl false; rw [decide_eq_false (by have := ok.pos; omega)]), iteF ?_⟩
    refine ⟨_, rfl, .ref a, t, rfl, ⟨a, rfl, ha⟩, by rw [ok.low]; decide, by rw [ok.low]; decide, fun r nr => ?_⟩
    have s1 := same_upd (o := .tup [.int (lowM t).1, .int (lowM t).2.1, .int (lowM t).2.2]) (Same.refl H) nr
    refine ⟨_, rfl, lowM t, t, ⟨r, rfl, upd_same⟩, ⟨a, rfl, s1 _ _ ha⟩, false, (by show V.bl (!decide (lowM t = t)) = V.bl false; rw [decide_eq_true (low_self ok)]; rfl), iteF ?_⟩
    exact k _ s1
def spStep : Sp := fun vs H Q _ => ∃ u v p t, vs = [u, v] ∧ IsPt H u p ∧ IsTri H v t ∧ Bd p ∧ ∀ r, H r = none → Q (.ref r) (upd H r (.tup [.int (stepOf t p).1, .int (stepOf t p).2]))
theorem scStep : FnScope ["point", "spot"] ["point", "spot"] (defScope sStep) := ⟨rfl, rfl, rfl, by decide +kernel, rfl, by decide +kernel, by decide +kernel⟩
theorem ok_step {f : Addr} {fd : FuncData} (F : Fun K "step_to" "step_to" sStep f fd) : FnOk P w K mg base CX0 1 f fd ["point", "spot"] spStep := by
  refine F.ok scStep (fun vs H Q E h => ?_) (fun cdv A outer s H vs Q E hr h => ?_)
  · obtain ⟨u, v, p, t, rfl, _⟩ := h; rfl
  · obtain ⟨u, v, p, t, rfl, ⟨a, rfl, ha⟩, ⟨b, rfl, hb⟩, bp, k⟩ := h
    refine ⟨_, pss_one (ps_ret (pe_tup (pa_cons (pe_op op_sub (pe_op op_mul (pe_ix ix_tup (pv 0) pe_int (fun _ _ => rfl)) (pe_ix ix_tup (pv 1) pe_int (fun _ _ => rfl))) (pe_ix ix_tup (pv 1) pe_int (fun _ _ => rfl)))
      (pa_cons (pe_op op_sub (pe_op op_mul (pe_ix ix_tup (pv 0) pe_int (fun _ _ => rfl)) (pe_ix ix_tup (pv 1) pe_int (fun _ _ => rfl))) (pe_ix ix_tup (pv 1) pe_int (fun _ _ => rfl))) pa_nil)))), ?_⟩
    refine ⟨_, rfl, a, _, _, _, rfl, rfl, SqT.of ha, atI_nat (j := 0) rfl, _, rfl, b, _, _, _, rfl, rfl, SqT.of hb, atI_nat (j := 2) rfl, _, _, rfl, rfl, mulL _ _ (by have := bp.1; omega) (by have := bp.2.1; omega), ?_⟩
    refine ⟨_, rfl, b, _, _, _, rfl, rfl, SqT.of hb, atI_nat (j := 0) rfl, _, _, rfl, rfl, ?_⟩
    refine ⟨_, rfl, a, _, _, _, rfl, rfl, SqT.of ha, atI_nat (j := 1) rfl, _, rfl, b, _, _, _, rfl, rfl, SqT.of hb, atI_nat (j := 2) rfl, _, _, rfl, rfl, mulL _ _ (by have := bp.2.2.1; omega) (by have := bp.2.2.2; omega), ?_⟩
    exact ⟨_, rfl, b, _, _, _, rfl, rfl, SqT.of hb, atI_nat (j := 1) rfl, _, _, rfl, rfl, (by show 2 ≤ sizeLine; decide), fun r nr => k r nr⟩
def spThru : Sp := fun vs H Q _ => ∃ v u t w, vs = [v, u] ∧ IsTri H v t ∧ IsPt H u w ∧ SpW t ∧ w ≠ (0, 0) ∧ Far 4398046511104 w ∧ ∀ r H', H r = none → Same H H' → IsTri H' (.ref r) (lowM (lineW t w)) → Q (.ref r) H'
theorem scThru : FnScope ["spot", "way"] ["spot", "way"] (defScope sThru) := ⟨rfl, rfl, rfl, by decide +kernel, rfl, by decide +kernel, by decide +kernel⟩
theorem ok_thru {f g : Addr} {fd gd : FuncData} (F : Fun K "line_through" "line_through" sThru f fd)
    (L : FnOk P w K mg base CX0 2 g gd ["three"] spLowest) (bL : Binds K gd ["three"] []) (kL : PySem.W.keepIn K (.ref g) = true) (mL : mg "lowest" = some (.ref g)) : FnOk P w K mg base CX0 3 f fd ["spot", "way"] spThru := by
  refine F.ok scThru (fun vs H Q E h => ?_) (fun cdv A outer s H vs Q E hr h => ?_)
  · obtain ⟨v, u, t, x, rfl, _⟩ := h; rfl
  · obtain ⟨v, u, t, x, rfl, ⟨a, rfl, ha⟩, ⟨b, rfl, hb⟩, sw, nz, fa, k⟩ := h
    refine ⟨_, pss_one (ps_ret (pe_call L hr rfl mL kL bL .nil pass0 (pa_cons (pe_tup (pa_cons (pe_op op_mul (pe_ix ix_tup (pv 1) pe_int (fun _ _ => rfl)) (pe_ix ix_tup (pv 0) pe_int (fun _ _ => rfl)))
      (pa_cons (pe_op op_mul (pe_ix ix_tup (pv 1) pe_int (fun _ _ => rfl)) (pe_ix ix_tup (pv 0) pe_int (fun _ _ => rfl)))
      (pa_cons (pe_op op_sub (pe_op op_mul (pe_un un_neg (pe_ix ix_tup (pv 1) pe_int (fun _ _ => rfl))) (pe_ix ix_tup (pv 0) pe_int (fun _ _ => rfl))) (pe_op op_mul (pe_ix ix_tup (pv 1) pe_int (fun _ _ => rfl)) (pe_ix ix_tup (pv 0) pe_int (fun _ _ => rfl)))) pa_nil)))) pa_nil))), ?_⟩
    obtain ⟨f1, f2, f3, f4⟩ := fa
    have m1 : ∀ j, CMul x.1 j := fun j => mulL _ _ (by omega) (by omega)
    have m2 : ∀ j, CMul x.2 j := fun j => mulL _ _ (by omega) (by omega)
    have m3 : ∀ j, CMul (-x.1) j := fun j => mulL _ _ (by omega) (by omega)
    refine ⟨_, rfl, b, _, _, _, rfl, rfl, SqT.of hb, atI_nat (j := 0) rfl, _, rfl, a, _, _, _, rfl, rfl, SqT.of ha, atI_nat (j := 2) rfl, _, _, rfl, rfl, m1 _, ?_⟩
    refine ⟨_, rfl, b, _, _, _, rfl, rfl, SqT.of hb, atI_nat (j := 1) rfl, _, rfl, a, _, _, _, rfl, rfl, SqT.of ha, atI_nat (j := 2) rfl, _, _, rfl, rfl, m2 _, ?_⟩
    refine ⟨_, rfl, b, _, _, _, rfl, rfl, SqT.of hb, atI_nat (j := 0) rfl, _, rfl, _, rfl, a, _, _, _, rfl, rfl, SqT.of ha, atI_nat (j := 0) rfl, _, _, rfl, rfl, m3 _, ?_⟩
    refine ⟨_, rfl, b, _, _, _, rfl, rfl, SqT.of hb, atI_nat (j := 1) rfl, _, rfl, a, _, _, _, rfl, rfl, SqT.of ha, atI_nat (j := 1) rfl, _, _, rfl, rfl, m2 _, _, _, rfl, rfl, (by show 3 ≤ sizeLine; decide), fun l nl => ?_⟩
    have s1 := same_upd (o := .tup [.int (lineW t x).1, .int (lineW t x).2.1, .int (lineW t x).2.2]) (Same.refl H) nl
    refine ⟨.ref l, lineW t x, rfl, ⟨l, rfl, upd_same⟩, lineW_pos sw.d.1 nz, lineW_lt sw nz ⟨f1, f2, f3, f4⟩, fun r nr => ?_⟩
    exact k r _ (s1.free nr) (s1.trans (same_upd (Same.refl _) nr)) ⟨r, rfl, upd_same⟩
abbrev n_sCnt : List Str := ["points", "line"]
def spCnt (K : PySem.W.Frag) : Sp := fun vs H Q _ => ∃ a xs ps v l, vs = [.ref a, v] ∧ SqL K H a xs ∧ ArePts H xs ps ∧ ps.length ≤ 13 ∧ (∀ q ∈ ps, Bd q) ∧ IsTri H v l ∧ ∀ H', Same H H' → Q (.int (ps.countP fun p => decide (0 ≤ wrt l p) : Nat)) H'
theorem scCnt : FnScope n_sCnt ["points", "line"] (defScope sCnt) := ⟨rfl, rfl, rfl, by decide +kernel, rfl, by decide +kernel, by decide +kernel⟩
abbrev c_cnt : Scope := { kind := .function, names := [(".0", .local), ("point", .local), ("worth", .globalImplicit), ("line", .free)], isGenerator := false, isCoroutine := false }
theorem cs_cnt {cdv : Value} {A : Around} {outer : List Env} {s : Shared} {H : Hp} {E : XK} {f : Addr} : CompScope (cxOf CX0 P w K mg base n_sCnt "count_along" (defScope sCnt) f cdv A outer s H E).nox c_cnt ["point", "line"] [none, some 1] where
  kind := rfl
  nocell := by decide +kernel
  names := by decide +kernel
  frees := by show ∀ z ∈ c_cnt.names, z.2 = .free → (defScope sCnt).names.lookup z.1 = some .cell; decide +kernel
  nd := by decide +kernel
  len := rfl
  cap := fun i j h => match i, h with
    | 0, h => by simp at h
    | 1, h => by
      simp at h; subst h
      exact ⟨"line", rfl, rfl, by decide +kernel, rfl, .inl rfl⟩
    | n + 2, h => by simp at h
theorem nd_cnt : (["point", "line"] : List Str).Nodup := by decide +kernel
theorem ok_cnt {f g : Addr} {fd gd : FuncData} (F : Fun K "count_along" "count_along" sCnt f fd) (T : Txt mg)
    (WO : FnOk P w K mg base CX0 1 g gd ["line", "point"] (spWorth K)) (b3 : Binds K gd ["line", "point"] []) (k3 : PySem.W.keepIn K (.ref g) = true) (m3 : mg "worth" = some (.ref g)) : FnOk P w K mg base CX0 2 f fd ["points", "line"] (spCnt K) := by
  refine F.ok scCnt (fun vs H Q E h => ?_) (fun cdv A outer s H vs Q E hr h => ?_)
  · obtain ⟨a, xs, ps, v, l, rfl, _⟩ := h; rfl
  · obtain ⟨a, xs, ps, v, l, rfl, ha, hx, lp, bd, hv, k⟩ := h
    have lx := hx.length
    refine ⟨_, pss_one (ps_ret (pe_callB call_len_seq rfl T.len PySem.boot_len (pa_cons (pe_comp cs_cnt rfl (pi_list (pv 0)) (fun _ _ _ _ _ => pg_name (i := 0) nd_cnt rfl (Or.inl rfl))
      (fun _ _ _ _ _ => pif_one (pt_cmpR op_ge (pe_call WO hr rfl m3 k3 b3 .nil pass0 (pa_cons (pv 1) (pa_cons (pv 0) pa_nil))) pe_int (nomark _))) (fun _ _ _ _ _ => pv 0)) pa_nil))), ?_⟩
    refine ⟨_, rfl, a, rfl, ⟨_, ha⟩, fun D hD => ?_⟩
    refine comp_list (K := K) (a := a) (xs := xs) (fun j σ' H' => ∃ v1 us, σ' = [v1, some v] ∧ Same H H' ∧ H' D = some (.lst us) ∧ us.length = (ps.take j).countP fun p => decide (0 ≤ wrt l p))
      ⟨none, [], rfl, same_upd (Same.refl H) hD, upd_same, rfl⟩ (fun j σ' H' _ ⟨_, _, _, s4, _⟩ => s4.seq ha) ?_ ?_
    · rintro j x σ' H' hj ⟨v1, us, rfl, s4, h4, l4⟩
      obtain ⟨p, p1, p2⟩ := Pair.get hx hj
      have hjl := (List.getElem?_eq_some_iff.mp p1).1
      have le : us.length ≤ 13 := by
        have := List.countP_le_length (p := fun p => decide (0 ≤ wrt l p)) (l := ps.take j)
        rw [List.length_take] at this; omega
      dsimp only [gName]
      refine ⟨_, rfl, _, rfl, v, x, l, p, rfl, hv.same s4, (p2.same s4).k, (bd p (List.mem_of_getElem? p1)).w, _, _, rfl, rfl, decide (0 ≤ wrt l p), rfl, ?_⟩
      have e : (ps.take (j + 1)).countP (fun p => decide (0 ≤ wrt l p)) = us.length + if decide (0 ≤ wrt l p) = true then 1 else 0 := by
        rw [take_snoc p1, List.countP_append, l4]; simp [List.countP_cons]
      by_cases hc : 0 ≤ wrt l p
      · rw [decide_eq_true hc] at e ⊢
        refine iteT ⟨_, rfl, us, h4, small1000 (by omega), _, us ++ [x], rfl, same_upd s4 hD, upd_same, ?_⟩
        rw [e]; simp
      · rw [decide_eq_false hc] at e ⊢
        exact iteF ⟨_, us, rfl, s4, h4, by rw [e]; simp⟩
    · rintro σ' H' ⟨v1, us, rfl, s4, h4, l4⟩
      rw [List.take_of_length_le (by omega)] at l4
      refine ⟨D, us, rfl, .inl (SqL.of h4), ?_⟩
      rw [l4]
      exact k H' s4
end
end Toy
set_option maxRecDepth 100000
namespace Toy
open PySem L2 Geo
theorem cut_upto (xs : List V) (i : Nat) (h : i ≤ xs.length) : cutV xs none (some (i : Int)) = xs.take i := by
  unfold cutV
  have e : HT.sIx xs.length xs.length (some (i : Int)) = i := by rw [HT.sIx_nat]; omega
  rw [e, show HT.sIx xs.length 0 none = 0 from rfl]; simp
section
variable {P : Program} {w : World} {K : PySem.W.Frag} {mg : Str → Option Value} {base : Heap}
abbrev n_sPairs : List Str := ["steps", "sums", "number", "step", "other"]
def spPairs (K : PySem.W.Frag) : Sp := fun vs H Q _ => ∃ a xs us, vs = [.ref a] ∧ SqL K H a xs ∧ ArePts H xs us ∧ us.length ≤ 26 ∧
  ∀ r zs H', H r = none → Same H H' → H' r = some (.lst zs) → ArePts H' zs (pairS us us.length) → Q (.ref r) H'
theorem scPairs : FnScope n_sPairs ["steps"] (defScope sPairs) := ⟨rfl, rfl, rfl, by decide +kernel, rfl, by decide +kernel, by decide +kernel⟩
theorem ok_pairs {f : Addr} {fd : FuncData} (F : Fun K "pair_sums" "pair_sums" sPairs f fd) (T : Txt mg) : FnOk P w K mg base CX0 1 f fd ["steps"] (spPairs K) := by
  refine F.ok scPairs (fun vs H Q E h => ?_) (fun cdv A' outer s H vs Q E hr h => ?_)
  · obtain ⟨a, xs, us, rfl, _⟩ := h; rfl
  · obtain ⟨a, xs, us, rfl, ha, hx, lu, k⟩ := h
    have lx := hx.length
    refine ⟨_, pss_cons (ps_set (i := 1) scPairs.nd rfl (Or.inl rfl) (pe_lst pa_nil))
      (pss_cons (ps_for PassesOwn.never rfl (pi_enum rfl T.enumerate (pa_cons (pv 0) pa_nil)) (pg_tup (n := 2) rfl (pgs_cons (pg_name (i := 2) scPairs.nd rfl (Or.inl rfl)) (pgs_cons (pg_name (i := 3) scPairs.nd rfl (Or.inl rfl)) pgs_nil)))
        (pss_one (ps_for PassesOwn.never rfl (pi_list (pe_slice sl_list (pv 0) po_none (po_some (pv 2)))) (pg_name (i := 4) scPairs.nd rfl (Or.inl rfl))
          (pss_one (ps_expr (pe_bm PySem.F.plainAttrs_list PySem.F.slot_list_append PySem.F.type_list_append mt_append (pv 1) (pa_cons (pe_tup (pa_cons (pe_op op_add (pe_ix ix_tup (pv 3) pe_int (fun _ _ => rfl)) (pe_ix ix_tup (pv 4) pe_int (fun _ _ => rfl)))
            (pa_cons (pe_op op_add (pe_ix ix_tup (pv 3) pe_int (fun _ _ => rfl)) (pe_ix ix_tup (pv 4) pe_int (fun _ _ => rfl))) pa_nil))) pa_nil)))))))
      (pss_one (ps_ret (pv 1)))), ?_⟩
    refine ⟨(by show 0 ≤ sizeLine; decide), fun r hr0 => ?_⟩
    have s1 := same_upd (o := .lst []) (Same.refl H) hr0
    refine ⟨_, rfl, a, rfl, ⟨_, s1.seq ha⟩, for_enum (K := K) (a := a) (xs := xs)
      (fun i σ H2 => ∃ v2 v3 v4 zs, σ = [some (.ref a), some (.ref r), v2, v3, v4] ∧ Same H H2 ∧ H2 r = some (.lst zs) ∧ ArePts H2 zs (pairS us i))
      ⟨none, none, none, [], rfl, s1, upd_same, .nil⟩ (fun i σ H2 _ ⟨_, _, _, _, _, s2, _⟩ => s2.seq ha) ?_ ?_⟩
    · rintro i x TT σ H2 hi ⟨v2, v3, v4, zs, rfl, s2, h2, p2⟩ nT
      obtain ⟨p, p1, px⟩ := Pair.get hx hi
      have hil := (List.getElem?_eq_some_iff.mp p1).1
      refine ⟨TT, _, rfl, SqT.of upd_same, rfl, _, _, rfl, _, _, rfl, rfl, ?_⟩
      have s3 := same_upd (o := .tup [.int (i : Nat), x]) (Same.refl H2) nT
      have s23 := s2.trans s3
      have h3 := s3 _ _ h2
      have p3 := p2.same s3
      generalize (upd H2 TT (.tup [.int (i : Nat), x])) = H3 at s23 h3 p3
      refine ⟨_, rfl, _, rfl, _, rfl, a, _, rfl, s23.seq ha, fun c nc => ?_⟩
      rw [cut_upto xs i (by omega)]
      have s4 := same_upd (o := .lst (xs.take i)) (Same.refl H3) nc
      have hcr : c ≠ r := fun e => by rw [e] at nc; rw [h3] at nc; cases nc
      have hc4 : (upd H3 c (.lst (xs.take i))) c = some (.lst (xs.take i)) := upd_same
      have h4 := s4 _ _ h3
      have p4 := p3.same s4
      have s24 := s23.trans s4
      generalize (upd H3 c (.lst (xs.take i))) = H4 at hc4 h4 p4 s24
      refine ⟨c, rfl, ⟨_, SqL.of hc4⟩, for_list (K := K) (a := c) (xs := xs.take i)
        (fun j σ H5 => ∃ v4 zs, σ = [some (.ref a), some (.ref r), some (.int (i : Nat)), some x, v4] ∧ Same H H5 ∧ H5 c = some (.lst (xs.take i)) ∧ H5 r = some (.lst zs) ∧ ArePts H5 zs (pairS us i ++ ((us.take i).take j).map (sumP p)))
        ⟨_, zs, rfl, s24, hc4, h4, by simpa using p4⟩ (fun j σ H5 _ ⟨_, _, _, _, h5, _⟩ => SqL.of h5) ?_ ?_⟩
      · rintro j y σ H5 hj ⟨v4, zs5, rfl, s5, c5, h5, p5⟩
        rw [List.getElem?_take] at hj
        have hji : j < i := by
          rcases Nat.lt_or_ge j i with z | z
          · exact z
          · rw [if_neg (by omega)] at hj; cases hj
        rw [if_pos hji] at hj
        obtain ⟨q, q1, qy⟩ := Pair.get hx hj
        obtain ⟨ap, rfl, hap⟩ := px.same s5
        obtain ⟨aq, rfl, haq⟩ := qy.same s5
        have l5 := p5.length
        rw [List.length_append, List.length_map, List.length_take, List.length_take] at l5
        have lps := pairS_len us i
        have lsq : i * i ≤ 26 * 26 := Nat.mul_le_mul (by omega) (by omega)
        refine ⟨_, rfl, .inl ⟨rfl, _, SqL.of h5⟩, ?_⟩
        refine ⟨_, rfl, ap, _, _, _, rfl, rfl, SqT.of hap, atI_nat (j := 0) rfl, _, rfl, aq, _, _, _, rfl, rfl, SqT.of haq, atI_nat (j := 0) rfl, _, _, rfl, rfl, ?_⟩
        refine ⟨_, rfl, ap, _, _, _, rfl, rfl, SqT.of hap, atI_nat (j := 1) rfl, _, rfl, aq, _, _, _, rfl, rfl, SqT.of haq, atI_nat (j := 1) rfl, _, _, rfl, rfl, (by show 2 ≤ sizeLine; decide), fun u nu => ?_⟩
        have s6 := same_upd (o := .tup [.int (p.1 + q.1), .int (p.2 + q.2)]) (Same.refl H5) nu
        have h6 := s6 _ _ h5
        have c6 := s6 _ _ c5
        have hur : u ≠ r := fun e => by rw [e] at nu; rw [h5] at nu; cases nu
        refine ⟨r, _, _, rfl, rfl, h6, small1000 (by omega), ?_⟩
        refine ⟨_, _, rfl, same_upd (s5.trans s6) hr0, by rw [upd_ne hcr]; exact c6, upd_same, ?_⟩
        have ht : ((us.take i).take (j + 1)).map (sumP p) = ((us.take i).take j).map (sumP p) ++ [sumP p q] := by
          rw [take_snoc (show (us.take i)[j]? = some q by rw [List.getElem?_take, if_pos hji]; exact q1), List.map_append]; rfl
        rw [ht, ← List.append_assoc]
        refine Pair.append (ArePts.keep p5 ((Same.keep s6).trans (Keep.lst h6 _))) (.cons ⟨u, rfl, ?_⟩ .nil)
        rw [upd_ne hur, upd_same]; rfl
      · rintro σ H5 ⟨v4, zs5, rfl, s5, c5, h5, p5⟩
        refine ⟨_, _, _, zs5, rfl, s5, h5, ?_⟩
        have e : ((us.take i).take (xs.take i).length).map (sumP p) = (us.take i).map fun o => sumP (us.getD i (0, 0)) o := by
          rw [List.take_of_length_le (by rw [List.length_take, List.length_take]; omega), List.getD_eq_getElem?_getD, p1]; rfl
        rw [e] at p5
        rw [pairS_succ]; exact p5
    · rintro σ H2 ⟨v2, v3, v4, zs, rfl, s2, h2, p2⟩
      rw [lx] at p2
      exact ⟨_, rfl, k r zs H2 hr0 s2 h2 p2⟩
abbrev n_sWays : List Str := ["points", "spot", "steps", "back", "squares", "ways"]
def spWays (K : PySem.W.Frag) : Sp := fun vs H Q _ => ∃ a xs ps v t, vs = [.ref a, v] ∧ SqL K H a xs ∧ ArePts H xs ps ∧ ps.length ≤ 13 ∧ (∀ q ∈ ps, Bd q) ∧ IsTri H v t ∧
  ∀ r zs H', H r = none → Same H H' → H' r = some (.lst zs) → ArePts H' zs ((1, 0) :: (waysM (ps.map (stepOf t))).filter fun w => decide (w ≠ (0, 0))) → Q (.ref r) H'
theorem scWays : FnScope n_sWays ["points", "spot"] (defScope sWays) := ⟨rfl, rfl, rfl, by decide +kernel, rfl, by decide +kernel, by decide +kernel⟩
abbrev c_wyS : Scope := { kind := .function, names := [(".0", .local), ("point", .local), ("step_to", .globalImplicit), ("spot", .free)], isGenerator := false, isCoroutine := false }
theorem cs_wyS {cdv : Value} {A : Around} {outer : List Env} {s : Shared} {H : Hp} {E : XK} {f : Addr} : CompScope (cxOf CX0 P w K mg base n_sWays "ways_to_try" (defScope sWays) f cdv A outer s H E).nox c_wyS ["point", "spot"] [none, some 1] where
  kind := rfl
  nocell := by decide +kernel
  names := by decide +kernel
  frees := by show ∀ z ∈ c_wyS.names, z.2 = .free → (defScope sWays).names.lookup z.1 = some .cell; decide +kernel
  nd := by decide +kernel
  len := rfl
  cap := fun i j h => match i, h with
    | 0, h => by simp at h
    | 1, h => by
      simp at h; subst h
      exact ⟨"spot", rfl, rfl, by decide +kernel, rfl, .inl rfl⟩
    | n + 2, h => by simp at h
theorem nd_wyS : (["point", "spot"] : List Str).Nodup := by decide +kernel
abbrev c_wyB : Scope := { kind := .function, names := [(".0", .local), ("step", .local)], isGenerator := false, isCoroutine := false }
theorem cs_wyB {cdv : Value} {A : Around} {outer : List Env} {s : Shared} {H : Hp} {E : XK} {f : Addr} : CompScope (cxOf CX0 P w K mg base n_sWays "ways_to_try" (defScope sWays) f cdv A outer s H E).nox c_wyB ["step"] [none] where
  kind := rfl
  nocell := by decide +kernel
  names := by decide +kernel
  frees := by show ∀ z ∈ c_wyB.names, z.2 = .free → (defScope sWays).names.lookup z.1 = some .cell; decide +kernel
  nd := by decide +kernel
  len := rfl
  cap := fun i j h => match i, h with
    | 0, h => by simp at h
    | n + 1, h => by simp at h
theorem nd_wyB : (["step"] : List Str).Nodup := by decide +kernel
abbrev c_wyQ : Scope := { kind := .function, names := [(".0", .local), ("step", .local)], isGenerator := false, isCoroutine := false }
theorem cs_wyQ {cdv : Value} {A : Around} {outer : List Env} {s : Shared} {H : Hp} {E : XK} {f : Addr} : CompScope (cxOf CX0 P w K mg base n_sWays "ways_to_try" (defScope sWays) f cdv A outer s H E).nox c_wyQ ["step"] [none] where
  kind := rfl
  nocell := by decide +kernel
  names := by decide +kernel
  frees := by show ∀ z ∈ c_wyQ.names, z.2 = .free → (defScope sWays).names.lookup z.1 = some .cell; decide +kernel
  nd := by decide +kernel
  len := rfl
  cap := fun i j h => match i, h with
    | 0, h => by simp at h
    | n + 1, h => by simp at h
theorem nd_wyQ : (["step"] : List Str).Nodup := by decide +kernel
abbrev c_wyF : Scope := { kind := .function, names := [(".0", .local), ("way", .local)], isGenerator := false, isCoroutine := false }
theorem cs_wyF {cdv : Value} {A : Around} {outer : List Env} {s : Shared} {H : Hp} {E : XK} {f : Addr} : CompScope (cxOf CX0 P w K mg base n_sWays "ways_to_try" (defScope sWays) f cdv A outer s H E).nox c_wyF ["way"] [none] where
  kind := rfl
  nocell := by decide +kernel
  names := by decide +kernel
  frees := by show ∀ z ∈ c_wyF.names, z.2 = .free → (defScope sWays).names.lookup z.1 = some .cell; decide +kernel
  nd := by decide +kernel
  len := rfl
  cap := fun i j h => match i, h with
    | 0, h => by simp at h
    | n + 1, h => by simp at h
theorem nd_wyF : (["way"] : List Str).Nodup := by decide +kernel
theorem waysM_len (us : List Pt) (h : us.length ≤ 13) : (waysM us).length ≤ 702 := by
  unfold waysM
  have := pairS_len ((us ++ us.map negP).map sqP) ((us ++ us.map negP).map sqP).length
  simp only [List.length_append, List.length_map] at *
  have : (us.length + us.length) * (us.length + us.length) ≤ 26 * 26 := Nat.mul_le_mul (by omega) (by omega)
  omega
theorem ok_ways {f g1 g2 : Addr} {fd d1 d2 : FuncData} (F : Fun K "ways_to_try" "ways_to_try" sWays f fd)
    (ST : FnOk P w K mg base CX0 1 g1 d1 ["point", "spot"] spStep) (b1 : Binds K d1 ["point", "spot"] []) (k1 : PySem.W.keepIn K (.ref g1) = true) (m1 : mg "step_to" = some (.ref g1))
    (PS : FnOk P w K mg base CX0 1 g2 d2 ["steps"] (spPairs K)) (b2 : Binds K d2 ["steps"] []) (k2 : PySem.W.keepIn K (.ref g2) = true) (m2 : mg "pair_sums" = some (.ref g2)) :
    FnOk P w K mg base CX0 2 f fd ["points", "spot"] (spWays K) := by
  refine F.ok scWays (fun vs H Q E h => ?_) (fun cdv A' outer s H vs Q E hr h => ?_)
  · obtain ⟨a, xs, ps, v, t, rfl, _⟩ := h; rfl
  · obtain ⟨a, xs, ps, v, t, rfl, ha, hx, lp, bd, hv, k⟩ := h
    have hu : (A'.deeper (PyProof.Rows.envOfC "ways_to_try" (defScope sWays) s.heap.objs.size f cdv)).units + 16 < cLine := by have := hr.units; omega
    have lx := hx.length
    refine ⟨_, pss_cons (ps_setC (i := 2) scWays.nd rfl rfl cs_wyS rfl (pi_list (pv 0)) (fun _ _ _ _ _ => pg_name (i := 0) nd_wyS rfl (Or.inl rfl)) (fun _ _ _ _ _ => pif_nil) (fun _ _ _ _ _ => pe_call ST hr rfl m1 k1 b1 .nil pass0 (pa_cons (pv 0) (pa_cons (pv 1) pa_nil))) rfl)
      (pss_cons (ps_setC (i := 3) scWays.nd rfl rfl cs_wyB rfl (pi_list (pv 2)) (fun _ _ _ _ _ => pg_name (i := 0) nd_wyB rfl (Or.inl rfl)) (fun _ _ _ _ _ => pif_nil)
        (fun _ _ _ _ _ => pe_tup (pa_cons (pe_un un_neg (pe_ix (ixt (K' := K) rfl) (pv 0) pe_int (fun _ _ => rfl))) (pa_cons (pe_un un_neg (pe_ix (ixt (K' := K) rfl) (pv 0) pe_int (fun _ _ => rfl))) pa_nil))) rfl)
      (pss_cons (ps_setC (i := 4) scWays.nd rfl rfl cs_wyQ rfl (pi_list (pe_op op_cat (pv 2) (pv 3))) (fun _ _ _ _ _ => pg_name (i := 0) nd_wyQ rfl (Or.inl rfl)) (fun _ _ _ _ _ => pif_nil)
        (fun _ _ _ _ _ => pe_tup (pa_cons (pe_un un_neg (pe_ix (ixt (K' := K) rfl) (pv 0) pe_int (fun _ _ => rfl))) (pa_cons (pe_ix (ixt (K' := K) rfl) (pv 0) pe_int (fun _ _ => rfl)) pa_nil))) rfl)
      (pss_cons (ps_set (i := 5) scWays.nd rfl (Or.inl rfl) (pe_op op_cat (pe_op op_cat (pv 2) (pv 3)) (pe_call PS hr rfl m2 k2 b2 .nil pass0 (pa_cons (pv 4) pa_nil))))
      (pss_one (ps_ret (pe_op op_cat (pe_lst (pa_cons (pe_tup (pa_cons pe_int (pa_cons pe_int pa_nil))) pa_nil)) (pe_comp cs_wyF rfl (pi_list (pv 5)) (fun _ _ _ _ _ => pg_name (i := 0) nd_wyF rfl (Or.inl rfl))
        (fun _ _ _ _ _ => pif_one (pt_cmpR (op_neP hu) (pv 0) (pe_tup (pa_cons pe_int (pa_cons pe_int pa_nil))) (nomark _))) (fun _ _ _ _ _ => pv 0)))))))), ?_⟩
    -- the steps
    refine ⟨_, rfl, a, rfl, ⟨_, ha⟩, fun D1 hD1 => ?_⟩
    refine comp_list (K := K) (a := a) (xs := xs) (fun j σ' H' => ∃ v1 us, σ' = [v1, some v] ∧ Same H H' ∧ H' D1 = some (.lst us) ∧ ArePts H' us ((ps.take j).map (stepOf t)))
      ⟨none, [], rfl, same_upd (Same.refl H) hD1, upd_same, .nil⟩ (fun j σ' H' _ ⟨_, _, _, s4, _⟩ => s4.seq ha) ?_ ?_
    · rintro j x σ' H' hj ⟨v1, us, rfl, s4, h4, w4⟩
      obtain ⟨p, p1, p2⟩ := Pair.get hx hj
      have hjl := (List.getElem?_eq_some_iff.mp p1).1
      have lw := w4.length
      rw [List.length_map, List.length_take] at lw
      dsimp only [gName, tYes]
      refine iteT ⟨_, rfl, _, rfl, x, v, p, t, rfl, p2.same s4, hv.same s4, bd p (List.mem_of_getElem? p1), fun u nu => ?_⟩
      have s5 := same_upd (o := .tup [.int (stepOf t p).1, .int (stepOf t p).2]) (Same.refl H') nu
      have hDD := s5 _ _ h4
      refine ⟨us, hDD, small1000 (by omega), _, _, rfl, same_upd (s4.trans s5) hD1, upd_same, ?_⟩
      rw [take_snoc p1, List.map_append]
      refine Pair.append (ArePts.keep w4 ((Same.keep s5).trans (Keep.lst hDD _))) (.cons ⟨u, rfl, ?_⟩ .nil)
      have : u ≠ D1 := fun e => by subst e; rw [h4] at nu; cases nu
      rw [upd_ne this, upd_same]
    rintro σ' H1 ⟨v1, z1, rfl, s1, h1, w1⟩
    rw [List.take_of_length_le (by omega)] at w1
    generalize hus : ps.map (stepOf t) = us at k w1
    have lus : us.length ≤ 13 := by rw [← hus, List.length_map]; exact lp
    have lz1 := w1.length
    -- back
    refine ⟨_, rfl, D1, rfl, ⟨_, SqL.of h1⟩, fun D2 hD2 => ?_⟩
    refine comp_list (K := K) (a := D1) (xs := z1) (fun j σ' H' => ∃ v1 zs, σ' = [v1] ∧ Same H1 H' ∧ H' D2 = some (.lst zs) ∧ ArePts H' zs ((us.take j).map negP))
      ⟨none, [], rfl, same_upd (Same.refl H1) hD2, upd_same, .nil⟩ (fun j σ' H' _ ⟨_, _, _, s4, _⟩ => SqL.of (s4 _ _ h1)) ?_ ?_
    · rintro j x σ' H' hj ⟨v1, zs, rfl, s4, h4, w4⟩
      obtain ⟨p, p1, p2⟩ := Pair.get w1 hj
      have hjl := (List.getElem?_eq_some_iff.mp p1).1
      have lw := w4.length
      rw [List.length_map, List.length_take] at lw
      obtain ⟨ax, rfl, hax⟩ := p2.same s4
      dsimp only [gName, tYes]
      refine iteT ⟨_, rfl, ax, _, _, _, rfl, rfl, SqT.of hax, atI_nat (j := 0) rfl, _, rfl, _, rfl, ax, _, _, _, rfl, rfl, SqT.of hax, atI_nat (j := 1) rfl, _, rfl, (by show 2 ≤ sizeLine; decide), fun u nu => ?_⟩
      have s5 := same_upd (o := .tup [.int (-p.1), .int (-p.2)]) (Same.refl H') nu
      have hDD := s5 _ _ h4
      refine ⟨zs, hDD, small1000 (by omega), _, _, rfl, same_upd (s4.trans s5) hD2, upd_same, ?_⟩
      rw [take_snoc p1, List.map_append]
      refine Pair.append (ArePts.keep w4 ((Same.keep s5).trans (Keep.lst hDD _))) (.cons ⟨u, rfl, ?_⟩ .nil)
      have : u ≠ D2 := fun e => by subst e; rw [h4] at nu; cases nu
      rw [upd_ne this, upd_same]; rfl
    rintro σ' H2 ⟨v1, z2, rfl, s2, h2, w2⟩
    rw [List.take_of_length_le (by omega)] at w2
    have lz2 := w2.length
    rw [List.length_map] at lz2
    have h12 := s2 _ _ h1
    -- squares
    refine ⟨_, rfl, _, rfl, D1, D2, _, _, rfl, rfl, h12, h2, Nat.le_of_lt (small1000 (by omega)), fun D3 hD3 => ?_⟩
    have s3 := same_upd (o := .lst (z1 ++ z2)) (Same.refl H2) hD3
    have h33 : (upd H2 D3 (.lst (z1 ++ z2))) D3 = some (.lst (z1 ++ z2)) := upd_same
    have w3 : ArePts (upd H2 D3 (.lst (z1 ++ z2))) (z1 ++ z2) (us ++ us.map negP) := Pair.append (w1.same (s2.trans s3)) (w2.same s3)
    have h13 := s3 _ _ h12
    have h23 := s3 _ _ h2
    generalize (upd H2 D3 (.lst (z1 ++ z2))) = H3 at s3 h33 w3 h13 h23
    refine ⟨D3, rfl, ⟨_, SqL.of h33⟩, fun D4 hD4 => ?_⟩
    refine comp_list (K := K) (a := D3) (xs := z1 ++ z2) (fun j σ' H' => ∃ v1 zs, σ' = [v1] ∧ Same H3 H' ∧ H' D4 = some (.lst zs) ∧ ArePts H' zs (((us ++ us.map negP).take j).map sqP))
      ⟨none, [], rfl, same_upd (Same.refl H3) hD4, upd_same, .nil⟩ (fun j σ' H' _ ⟨_, _, _, s4, _⟩ => SqL.of (s4 _ _ h33)) ?_ ?_
    · rintro j x σ' H' hj ⟨v1, zs, rfl, s4, h4, w4⟩
      obtain ⟨p, p1, p2⟩ := Pair.get w3 hj
      have hjl := (List.getElem?_eq_some_iff.mp p1).1
      rw [List.length_append, List.length_map] at hjl
      have lw := w4.length
      rw [List.length_map, List.length_take] at lw
      obtain ⟨ax, rfl, hax⟩ := p2.same s4
      dsimp only [gName, tYes]
      refine iteT ⟨_, rfl, ax, _, _, _, rfl, rfl, SqT.of hax, atI_nat (j := 1) rfl, _, rfl, _, rfl, ax, _, _, _, rfl, rfl, SqT.of hax, atI_nat (j := 0) rfl, (by show 2 ≤ sizeLine; decide), fun u nu => ?_⟩
      have s5 := same_upd (o := .tup [.int (-p.2), .int p.1]) (Same.refl H') nu
      have hDD := s5 _ _ h4
      refine ⟨zs, hDD, small1000 (by omega), _, _, rfl, same_upd (s4.trans s5) hD4, upd_same, ?_⟩
      rw [take_snoc p1, List.map_append]
      refine Pair.append (ArePts.keep w4 ((Same.keep s5).trans (Keep.lst hDD _))) (.cons ⟨u, rfl, ?_⟩ .nil)
      have : u ≠ D4 := fun e => by subst e; rw [h4] at nu; cases nu
      rw [upd_ne this, upd_same]; rfl
    rintro σ' H4 ⟨v1, z4, rfl, s4, h4, w4⟩
    rw [List.take_of_length_le (by rw [List.length_append, List.length_append, List.length_map]; omega)] at w4
    have s14 := s2.trans (s3.trans s4)
    have h14 := s4 _ _ h13
    have h24 := s4 _ _ h23
    -- all ways
    refine ⟨_, rfl, _, rfl, D1, D2, _, _, rfl, rfl, h14, h24, Nat.le_of_lt (small1000 (by omega)), fun D5 hD5 => ?_⟩
    have s5 := same_upd (o := .lst (z1 ++ z2)) (Same.refl H4) hD5
    have h55 : (upd H4 D5 (.lst (z1 ++ z2))) D5 = some (.lst (z1 ++ z2)) := upd_same
    generalize (upd H4 D5 (.lst (z1 ++ z2))) = H5 at s5 h55
    refine ⟨_, rfl, D4, z4, (us ++ us.map negP).map sqP, rfl, SqL.of (s5 _ _ h4), w4.same s5, by simp only [List.length_map, List.length_append]; omega, fun r6 z6 H6 n6 s6 h6 w6 => ?_⟩
    have s16 := s14.trans (s5.trans s6)
    have lwm := waysM_len us lus
    have wAll : ArePts H6 (z1 ++ z2 ++ z6) (waysM us) := by
      unfold waysM
      exact Pair.append (Pair.append (w1.same s16) (w2.same (s3.trans (s4.trans (s5.trans s6))))) w6
    have lAll := wAll.length
    rw [List.length_append, List.length_append] at lAll
    refine ⟨D5, r6, _, _, rfl, rfl, s6 _ _ h55, h6, Nat.le_of_lt (small1000 (by rw [List.length_append]; omega)), fun D7 hD7 => ?_⟩
    have s7 := same_upd (o := .lst (z1 ++ z2 ++ z6)) (Same.refl H6) hD7
    have h77 : (upd H6 D7 (.lst (z1 ++ z2 ++ z6))) D7 = some (.lst (z1 ++ z2 ++ z6)) := upd_same
    have w7 := wAll.same s7
    have s17 := s1.trans (s16.trans s7)
    generalize (upd H6 D7 (.lst (z1 ++ z2 ++ z6))) = H7 at h77 w7 s17
    refine ⟨(by show 2 ≤ sizeLine; decide), fun u8 n8 => ?_⟩
    have s8 := same_upd (o := .tup [.int 1, .int 0]) (Same.refl H7) n8
    refine ⟨(by show 1 ≤ sizeLine; decide), fun l9 n9 => ?_⟩
    have s9 := same_upd (o := .lst [.ref u8]) (Same.refl (upd H7 u8 (.tup [.int 1, .int 0]))) n9
    have s89 := s8.trans s9
    have hl9 : (upd (upd H7 u8 (.tup [.int 1, .int 0])) l9 (.lst [.ref u8])) l9 = some (.lst [.ref u8]) := upd_same
    have hu9 : IsPt (upd (upd H7 u8 (.tup [.int 1, .int 0])) l9 (.lst [.ref u8])) (.ref u8) (1, 0) := ⟨u8, rfl, s9 _ _ upd_same⟩
    generalize (upd (upd H7 u8 (.tup [.int 1, .int 0])) l9 (.lst [.ref u8])) = H9 at s89 hl9 hu9
    have h79 := s89 _ _ h77
    have w9 := w7.same s89
    refine ⟨_, rfl, D7, rfl, ⟨_, SqL.of h79⟩, fun D10 hD10 => ?_⟩
    refine comp_list (K := K) (a := D7) (xs := z1 ++ z2 ++ z6) (fun j σ' H' => ∃ v1 zs, σ' = [v1] ∧ Same H9 H' ∧ H' D10 = some (.lst zs) ∧ ArePts H' zs (((waysM us).take j).filter fun w => decide (w ≠ (0, 0))))
      ⟨none, [], rfl, same_upd (Same.refl H9) hD10, upd_same, .nil⟩ (fun j σ' H' _ ⟨_, _, _, s4, _⟩ => SqL.of (s4 _ _ h79)) ?_ ?_
    · rintro j x σ' H' hj ⟨v1, zs, rfl, s10, h10, w10⟩
      obtain ⟨p, p1, p2⟩ := Pair.get w9 hj
      have hjl := (List.getElem?_eq_some_iff.mp p1).1
      have lw := w10.length
      have lf : zs.length ≤ ((waysM us).take j).length := by rw [lw]; exact List.length_filter_le _ _
      rw [List.length_take] at lf
      dsimp only [gName]
      refine ⟨_, rfl, (by show 2 ≤ sizeLine; decide), fun u nu => ?_⟩
      have s11 := same_upd (o := .tup [.int 0, .int 0]) (Same.refl H') nu
      have hDD := s11 _ _ h10
      refine ⟨p, (0, 0), p2.same (s10.trans s11), ⟨u, rfl, upd_same⟩, decide (p ≠ (0, 0)), (by show V.bl (!decide (p = (0, 0))) = V.bl (decide (p ≠ (0, 0))); by_cases z : p = (0, 0) <;> simp [z]), ?_⟩
      by_cases hz : p = (0, 0)
      · rw [decide_eq_false (show ¬ p ≠ (0, 0) from fun h => h hz)]
        refine iteF ⟨_, zs, rfl, s10.trans s11, hDD, ?_⟩
        rw [take_snoc p1, List.filter_append, show [p].filter (fun w => decide (w ≠ (0, 0))) = [] by simp [hz], List.append_nil]
        exact w10.same s11
      · rw [decide_eq_true hz]
        refine iteT ⟨_, rfl, zs, hDD, small1000 (by omega), _, _, rfl, same_upd (s10.trans s11) hD10, upd_same, ?_⟩
        rw [take_snoc p1, List.filter_append, show [p].filter (fun w => decide (w ≠ (0, 0))) = [p] by simp [hz]]
        exact Pair.append (ArePts.keep w10 ((Same.keep s11).trans (Keep.lst hDD _))) (.cons ((p2.same (s10.trans s11)).keep (Keep.lst hDD _)) .nil)
    · rintro σ' H10 ⟨v1, z10, rfl, s10, h10, w10⟩
      rw [List.take_of_length_le (by rw [List.length_append, List.length_append]; omega)] at w10
      have lw := w10.length
      have lf : z10.length ≤ (waysM us).length := by rw [lw]; exact List.length_filter_le _ _
      refine ⟨l9, D10, _, _, rfl, rfl, s10 _ _ hl9, h10, Nat.le_of_lt (small1000 (by simp; omega)), fun r nr => ?_⟩
      have s11 := same_upd (o := .lst ([.ref u8] ++ z10)) (Same.refl H10) nr
      have sAll := s17.trans (s89.trans (s10.trans s11))
      exact k r _ _ ((s17.trans (s89.trans s10)).free nr) sAll upd_same (Pair.append (.cons (hu9.same (s10.trans s11)) .nil) (w10.same s11))
end
end Toy
set_option maxRecDepth 100000
namespace Toy
open PySem L2 Geo
theorem count_cnt {t : Tri} {x : Pt} (h : 0 < t.2.2) (hx : x ≠ (0, 0)) (ps : List Pt) : (ps.countP fun p => decide (0 ≤ wrt (lowM (lineW t x)) p)) = cnt (ps.map (stepOf t)) x := by
  unfold cnt
  rw [List.countP_map]
  refine List.countP_congr fun p _ => ?_
  simp only [Function.comp, decide_eq_true_eq]
  exact low_side h hx
section
variable {P : Program} {w : World} {K : PySem.W.Frag} {mg : Str → Option Value} {base : Heap}
abbrev n_sDepth : List Str := ["points", "spot", "lines"]
def spDepth (K : PySem.W.Frag) : Sp := fun vs H Q _ => ∃ a xs ps v t, vs = [.ref a, v] ∧ SqL K H a xs ∧ ArePts H xs ps ∧ ps.length ≤ 12 ∧ (∀ q ∈ ps, Bd q) ∧ IsTri H v t ∧ SpOk t ∧ SpW t ∧
  ∀ r tl x H', Same H H' → H' r = some (.tup [.int (cnt (ps.map (stepOf t)) x : Nat), .ref tl]) → IsTri H' (.ref tl) (lowM (lineW t x)) → x ≠ (0, 0) → IsDepth (ps.map (stepOf t)) (cnt (ps.map (stepOf t)) x) → Q (.ref r) H'
theorem scDepth : FnScope n_sDepth ["points", "spot"] (defScope sDepth) := ⟨rfl, rfl, rfl, by decide +kernel, rfl, by decide +kernel, by decide +kernel⟩
abbrev c_dpL : Scope := { kind := .function, names := [(".0", .local), ("way", .local), ("line_through", .globalImplicit), ("spot", .free)], isGenerator := false, isCoroutine := false }
theorem cs_dpL {cdv : Value} {A : Around} {outer : List Env} {s : Shared} {H : Hp} {E : XK} {f : Addr} : CompScope (cxOf CX0 P w K mg base n_sDepth "depth" (defScope sDepth) f cdv A outer s H E).nox c_dpL ["way", "spot"] [none, some 1] where
  kind := rfl
  nocell := by decide +kernel
  names := by decide +kernel
  frees := by show ∀ z ∈ c_dpL.names, z.2 = .free → (defScope sDepth).names.lookup z.1 = some .cell; decide +kernel
  nd := by decide +kernel
  len := rfl
  cap := fun i j h => match i, h with
    | 0, h => by simp at h
    | 1, h => by
      simp at h; subst h
      exact ⟨"spot", rfl, rfl, by decide +kernel, rfl, .inl rfl⟩
    | n + 2, h => by simp at h
theorem nd_dpL : (["way", "spot"] : List Str).Nodup := by decide +kernel
abbrev c_dpC : Scope := { kind := .function, names := [(".0", .local), ("line", .local), ("count_along", .globalImplicit), ("points", .free)], isGenerator := false, isCoroutine := false }
theorem cs_dpC {cdv : Value} {A : Around} {outer : List Env} {s : Shared} {H : Hp} {E : XK} {f : Addr} : CompScope (cxOf CX0 P w K mg base n_sDepth "depth" (defScope sDepth) f cdv A outer s H E).nox c_dpC ["line", "points"] [none, some 0] where
  kind := rfl
  nocell := by decide +kernel
  names := by decide +kernel
  frees := by show ∀ z ∈ c_dpC.names, z.2 = .free → (defScope sDepth).names.lookup z.1 = some .cell; decide +kernel
  nd := by decide +kernel
  len := rfl
  cap := fun i j h => match i, h with
    | 0, h => by simp at h
    | 1, h => by
      simp at h; subst h
      exact ⟨"points", rfl, rfl, by decide +kernel, rfl, .inl rfl⟩
    | n + 2, h => by simp at h
theorem nd_dpC : (["line", "points"] : List Str).Nodup := by decide +kernel
theorem IsCnt.keep {H H' : Hp} {v : V} {c : Int × Tri} (h : IsCnt H v c) (k : Keep H H') : IsCnt H' v c := by
  obtain ⟨a, y, e, h1, h2⟩ := h
  exact ⟨a, y, e, k _ _ h1, h2.keep k⟩
theorem ok_depth {f g1 g2 g3 g4 g5 : Addr} {fd d1 d2 d3 d4 d5 : FuncData} (F : Fun K "depth" "depth" sDepth f fd) (T : Txt mg)
    (C : FnOk P w K mg base CX0 2 g1 d1 ["points"] (spChks K)) (b1 : Binds K d1 ["points"] []) (k1 : PySem.W.keepIn K (.ref g1) = true) (m1 : mg "check_points" = some (.ref g1))
    (S : FnOk P w K mg base CX0 3 g2 d2 ["spot"] spCkSpot) (b2 : Binds K d2 ["spot"] []) (k2 : PySem.W.keepIn K (.ref g2) = true) (m2 : mg "check_spot" = some (.ref g2))
    (L : FnOk P w K mg base CX0 3 g3 d3 ["spot", "way"] spThru) (b3 : Binds K d3 ["spot", "way"] []) (k3 : PySem.W.keepIn K (.ref g3) = true) (m3 : mg "line_through" = some (.ref g3))
    (Y : FnOk P w K mg base CX0 2 g4 d4 ["points", "spot"] (spWays K)) (b4 : Binds K d4 ["points", "spot"] []) (k4 : PySem.W.keepIn K (.ref g4) = true) (m4 : mg "ways_to_try" = some (.ref g4))
    (N : FnOk P w K mg base CX0 2 g5 d5 ["points", "line"] (spCnt K)) (b5 : Binds K d5 ["points", "line"] []) (k5 : PySem.W.keepIn K (.ref g5) = true) (m5 : mg "count_along" = some (.ref g5)) :
    FnOk P w K mg base CX0 4 f fd ["points", "spot"] (spDepth K) := by
  refine F.ok scDepth (fun vs H Q E h => ?_) (fun cdv A' outer s H vs Q E hr h => ?_)
  · obtain ⟨a, xs, ps, v, t, rfl, _⟩ := h; rfl
  · obtain ⟨a, xs, ps, v, t, rfl, ha, hx, lp, bd, hv, ok, sw, k⟩ := h
    have hu : (A'.deeper (PyProof.Rows.envOfC "depth" (defScope sDepth) s.heap.objs.size f cdv)).units + 16 < cLine := by have := hr.units; omega
    have hr2 : Room 2 _ := hr.mono (by decide)
    have lx := hx.length
    refine ⟨_, pss_cons (ps_expr (pe_call C hr2 rfl m1 k1 b1 .nil pass0 (pa_cons (pv 0) pa_nil)))
      (pss_cons (ps_expr (pe_call S hr rfl m2 k2 b2 .nil pass0 (pa_cons (pv 1) pa_nil)))
      (pss_cons (ps_setC (i := 2) scDepth.nd rfl rfl cs_dpL rfl (pi_list (pe_call Y hr2 rfl m4 k4 b4 .nil pass0 (pa_cons (pv 0) (pa_cons (pv 1) pa_nil)))) (fun _ _ _ _ _ => pg_name (i := 0) nd_dpL rfl (Or.inl rfl)) (fun _ _ _ _ _ => pif_nil)
        (fun _ _ _ _ _ => pe_call L hr rfl m3 k3 b3 .nil pass0 (pa_cons (pv 1) (pa_cons (pv 0) pa_nil))) rfl)
      (pss_one (ps_ret (pe_callB (call_minC hr.hd hu) rfl T.min PyProof.Rows.boot_min (pa_cons (pe_comp cs_dpC rfl (pi_list (pv 2)) (fun _ _ _ _ _ => pg_name (i := 0) nd_dpC rfl (Or.inl rfl)) (fun _ _ _ _ _ => pif_nil)
        (fun _ _ _ _ _ => pe_tup (pa_cons (pe_call N hr2 rfl m5 k5 b5 .nil pass0 (pa_cons (pv 1) (pa_cons (pv 0) pa_nil))) (pa_cons (pv 0) pa_nil)))) pa_nil)))))), ?_⟩
    refine ⟨_, rfl, a, xs, ps, rfl, ha, hx, lp, bd, ?_⟩
    refine ⟨_, rfl, v, t, rfl, hv, ok, fun H0 s0 => ?_⟩
    refine ⟨_, rfl, _, rfl, a, xs, ps, v, t, rfl, s0.seq ha, hx.same s0, by omega, bd, hv.same s0, fun r1 z1 H1 n1 s1 h1 w1 => ?_⟩
    have s01 := s0.trans s1
    generalize hus : ps.map (stepOf t) = us at k w1
    have lus : us.length ≤ 13 := by rw [← hus, List.length_map]; omega
    have hwo := ways_ok us
    have hwf : ∀ x ∈ (1, 0) :: (waysM us).filter (fun w => decide (w ≠ (0, 0))), Far 4398046511104 x := by
      have := ways_far (us := us) (n := 2199023255552) (fun u hu => by
        rw [← hus] at hu
        obtain ⟨p, hp, rfl⟩ := List.mem_map.mp hu
        exact step_far sw (bd p hp)) (by decide)
      exact this
    have lws : ((1, 0) :: (waysM us).filter (fun w => decide (w ≠ (0, 0)))).length ≤ 703 := by
      have a1 := waysM_len us lus
      have a2 : ((waysM us).filter (fun w => decide (w ≠ (0, 0)))).length ≤ (waysM us).length := List.length_filter_le _ _
      simp only [List.length_cons]; omega
    generalize hws : (1, 0) :: (waysM us).filter (fun w => decide (w ≠ (0, 0))) = ws at w1 hwo hwf lws
    have lz1 := w1.length
    refine ⟨r1, rfl, ⟨_, SqL.of h1⟩, fun D1 hD1 => ?_⟩
    refine comp_list (K := K) (a := r1) (xs := z1) (fun j σ' H' => ∃ v1 ls, σ' = [v1, some v] ∧ Same H1 H' ∧ H' D1 = some (.lst ls) ∧ AreTri H' ls ((ws.take j).map fun x => lowM (lineW t x)))
      ⟨none, [], rfl, same_upd (Same.refl H1) hD1, upd_same, .nil⟩ (fun j σ' H' _ ⟨_, _, _, s4, _⟩ => SqL.of (s4 _ _ h1)) ?_ ?_
    · rintro j x σ' H' hj ⟨v1, ls, rfl, s4, h4, w4⟩
      obtain ⟨p, p1, p2⟩ := Pair.get w1 hj
      have hjl := (List.getElem?_eq_some_iff.mp p1).1
      have mp := List.mem_of_getElem? p1
      have lw := w4.length
      rw [List.length_map, List.length_take] at lw
      dsimp only [gName, tYes]
      refine iteT ⟨_, rfl, _, rfl, v, x, t, p, rfl, hv.same (s01.trans s4), p2.same s4, sw, hwo.nz p mp, hwf p mp, fun u H5 nu s5 i5 => ?_⟩
      have hDD := s5 _ _ h4
      refine ⟨ls, hDD, small1000 (by omega), _, _, rfl, same_upd (s4.trans s5) hD1, upd_same, ?_⟩
      rw [take_snoc p1, List.map_append]
      exact Pair.append (AreTri.keep w4 ((Same.keep s5).trans (Keep.lst hDD _))) (.cons (i5.keep (Keep.lst hDD _)) .nil)
    rintro σ' H2 ⟨v1, ls, rfl, s2, h2, w2⟩
    rw [List.take_of_length_le (by omega)] at w2
    have ll := w2.length
    rw [List.length_map] at ll
    have s02 := s01.trans s2
    refine ⟨_, rfl, D1, rfl, ⟨_, SqL.of h2⟩, fun D2 hD2 => ?_⟩
    refine comp_list (K := K) (a := D1) (xs := ls) (fun j σ' H' => ∃ v1 cz, σ' = [v1, some (.ref a)] ∧ Same H2 H' ∧ H' D2 = some (.lst cz) ∧ Paired (IsCnt H') cz ((ws.take j).map fun x => ((cnt us x : Int), lowM (lineW t x))))
      ⟨none, [], rfl, same_upd (Same.refl H2) hD2, upd_same, .nil⟩ (fun j σ' H' _ ⟨_, _, _, s4, _⟩ => SqL.of (s4 _ _ h2)) ?_ ?_
    · rintro j y σ' H' hj ⟨v1, cz, rfl, s4, h4, w4⟩
      obtain ⟨l, l1, l2⟩ := Pair.get w2 hj
      rw [List.getElem?_map] at l1
      obtain ⟨x, x1, rfl⟩ := Option.map_eq_some_iff.mp l1
      have hjl := (List.getElem?_eq_some_iff.mp x1).1
      have mx := List.mem_of_getElem? x1
      have lw := w4.length
      rw [List.length_map, List.length_take] at lw
      dsimp only [gName, tYes]
      refine iteT ⟨_, rfl, _, rfl, a, xs, ps, y, _, rfl, (s02.trans s4).seq ha, hx.same (s02.trans s4), by omega, bd, l2.same s4, fun H5 s5 => ?_⟩
      rw [count_cnt ok.pos (hwo.nz x mx), hus]
      refine ⟨_, rfl, (by show 2 ≤ sizeLine; decide), fun u nu => ?_⟩
      have s6 := same_upd (o := .tup [.int (cnt us x : Nat), y]) (Same.refl H5) nu
      have s56 := s5.trans s6
      have hDD := s56 _ _ h4
      have hud : u ≠ D2 := fun e => by have := s5 _ _ h4; rw [← e] at this; rw [this] at nu; cases nu
      refine ⟨cz, hDD, small1000 (by omega), _, _, rfl, same_upd (s4.trans s56) hD2, upd_same, ?_⟩
      rw [take_snoc x1, List.map_append]
      have kp : Keep H' (upd (upd H5 u (.tup [.int (cnt us x : Nat), y])) D2 (.lst (cz ++ [.ref u]))) := (Same.keep s56).trans (Keep.lst hDD _)
      refine Pair.append (Paired.mapP w4 fun _ _ z => IsCnt.keep z kp) (.cons ⟨u, y, rfl, ?_, (l2.same s4).keep kp⟩ .nil)
      rw [upd_ne hud, upd_same]
    · rintro σ' H3 ⟨v1, cz, rfl, s3, h3, w3⟩
      rw [List.take_of_length_le (by omega)] at w3
      have hne : ws ≠ [] := by rw [← hws]; simp
      refine ⟨D2, cz, _, rfl, SqL.of h3, w3, by simpa using hne, fun y c hc mc le => ?_⟩
      obtain ⟨x, mx, rfl⟩ := List.mem_map.mp mc
      obtain ⟨u, yl, rfl, hu1, tl, rfl, htl⟩ := hc
      refine k u tl x H3 (s02.trans s3) hu1 ⟨tl, rfl, htl⟩ (hwo.nz x mx) (depth_of hwo ⟨x, mx, rfl⟩ fun x' mx' => ?_)
      have := le _ (List.mem_map.mpr ⟨x', mx', rfl⟩)
      dsimp only at this
      omega
end
end Toy
set_option maxRecDepth 100000
namespace Toy
open PySem L2 Geo
section
variable {P : Program} {w : World} {K : PySem.W.Frag} {mg : Str → Option Value} {base : Heap}
theorem scAt : FnScope ["line", "point"] ["line", "point"] (defScope sAt) := ⟨rfl, rfl, rfl, by decide +kernel, rfl, by decide +kernel, by decide +kernel⟩
theorem ok_at {f : Addr} {fd : FuncData} (F : Fun K "_law_at" "_law_at" sAt f fd) : FnOk P w K mg base CX0 1 f fd ["line", "point"] (spWorth K) := by
  refine F.ok scAt (fun vs H Q E h => ?_) (fun cdv A outer s H vs Q E hr h => ?_)
  · obtain ⟨u, v, l, p, rfl, _⟩ := h; rfl
  · obtain ⟨u, v, l, p, rfl, ⟨a, rfl, ha⟩, ⟨b, rfl, hb⟩, bp, k⟩ := h
    refine ⟨_, pss_one (ps_ret (pe_op op_add (pe_op op_add
      (pe_op op_mul (pe_ix ix_tup (pv 0) pe_int (fun _ _ => rfl)) (pe_ix ix_tup (pv 1) pe_int (fun _ _ => rfl)))
      (pe_op op_mul (pe_ix ix_tup (pv 0) pe_int (fun _ _ => rfl)) (pe_ix ix_tup (pv 1) pe_int (fun _ _ => rfl))))
      (pe_ix ix_tup (pv 0) pe_int (fun _ _ => rfl)))), ?_⟩
    refine ⟨_, rfl, a, _, _, _, rfl, rfl, SqT.of ha, atI_nat (j := 0) rfl, _, rfl, b, _, _, _, rfl, rfl, hb, atI_nat (j := 0) rfl, _, _, rfl, rfl, mulR _ _ bp.1 bp.2.1, ?_⟩
    refine ⟨_, rfl, a, _, _, _, rfl, rfl, SqT.of ha, atI_nat (j := 1) rfl, _, rfl, b, _, _, _, rfl, rfl, hb, atI_nat (j := 1) rfl, _, _, rfl, rfl, mulR _ _ bp.2.2.1 bp.2.2.2, ?_⟩
    exact ⟨_, _, rfl, rfl, _, rfl, a, _, _, _, rfl, rfl, SqT.of ha, atI_nat (j := 2) rfl, _, _, rfl, rfl, k⟩
theorem scCommon : FnScope ["one", "other"] ["one", "other"] (defScope sCommon) := ⟨rfl, rfl, rfl, by decide +kernel, rfl, by decide +kernel, by decide +kernel⟩
theorem ok_common {f : Addr} {fd : FuncData} (F : Fun K "_law_common" "_law_common" sCommon f fd) : FnOk P w K mg base CX0 1 f fd ["one", "other"] spGcd := by
  refine F.ok scCommon (fun vs H Q E h => ?_) (fun cdv A outer s H vs Q E hr h => ?_)
  · obtain ⟨a, b, rfl, _⟩ := h; rfl
  · obtain ⟨a, b, rfl, ha, hb, k⟩ := h
    refine ⟨_, pss_cons (ps_while PassesOwn.never (pt_cmpR op_gt (pv 1) pe_int (nomark _))
        (pss_one (ps_par (i := 0) (j := 1) rfl scCommon.nd rfl rfl (by decide) rfl rfl (pa_cons (pv 1) (pa_cons (pe_op op_mod (pv 0) (pv 1)) pa_nil)) rfl)))
      (pss_one (ps_ret (pv 0))), ?_⟩
    refine ⟨fun m σ' H3 => ∃ x y, σ' = [some (.int x), some (.int y)] ∧ H3 = H ∧ m = y.toNat ∧ 0 ≤ x ∧ 0 ≤ y ∧ Int.gcd x y = Int.gcd a b, ⟨_, a, b, rfl, rfl, rfl, ha, hb, rfl⟩, ?_⟩
    rintro m σ' H3 ⟨x, y, rfl, rfl, rfl, hx, hy, e⟩
    refine ⟨_, rfl, _, _, rfl, rfl, _, rfl, ?_⟩
    by_cases hy0 : 0 < y
    · rw [decide_eq_true hy0]
      refine iteT ⟨fun σ4 H4 => σ4 = [some (.int y), some (.int (x % y))] ∧ H4 = H3, fun σ4 H4 ⟨e4, e5⟩ => ⟨(x % y).toNat, ?_, y, x % y, e4, e5, rfl, hy, Int.emod_nonneg _ (by omega), ?_⟩, ?_⟩
      · have := Int.emod_lt_of_pos x hy0
        have := Int.emod_nonneg x (show y ≠ 0 by omega)
        omega
      · rw [gcd_step hx hy0]; exact e
      · exact ⟨_, rfl, _, rfl, _, rfl, _, _, rfl, rfl, hy0, _, _, rfl, rfl, rfl⟩
    · rw [decide_eq_false hy0]
      refine iteF ⟨_, rfl, ?_⟩
      have y0 : y = 0 := by omega
      subst y0
      have := gcd_zero hx
      rw [← e, this] at k
      exact k
abbrev n_sIsLine : List Str := ["found"]
def spIsLine : Sp := fun vs H Q _ => ∃ v t, vs = [v] ∧ IsTri H v t ∧ ∀ H', Same H H' → Q (.bl true) H'
theorem scIsLine : FnScope n_sIsLine ["found"] (defScope sIsLine) := ⟨rfl, rfl, rfl, by decide +kernel, rfl, by decide +kernel, by decide +kernel⟩
abbrev c_isl : Scope := { kind := .function, names := [(".0", .local), ("number", .local), ("_law_whole", .globalImplicit)], isGenerator := false, isCoroutine := false }
theorem cs_isl {cdv : Value} {A : Around} {outer : List Env} {s : Shared} {H : Hp} {E : XK} {f : Addr} : CompScope (cxOf CX0 P w K mg base n_sIsLine "_law_is_line" (defScope sIsLine) f cdv A outer s H E).nox c_isl ["number"] [none] where
  kind := rfl
  nocell := by decide +kernel
  names := by decide +kernel
  frees := by show ∀ z ∈ c_isl.names, z.2 = .free → (defScope sIsLine).names.lookup z.1 = some .cell; decide +kernel
  nd := by decide +kernel
  len := rfl
  cap := fun i j h => match i, h with
    | 0, h => by simp at h
    | n + 1, h => by simp at h
theorem nd_isl : (["number"] : List Str).Nodup := by decide +kernel
theorem three_ints {t : Tri} {j : Nat} {x : V} (h : ([.int t.1, .int t.2.1, .int t.2.2] : List V)[j]? = some x) : ∃ z, x = V.int z ∧ j < 3 := by
  have hj := (List.getElem?_eq_some_iff.mp h).1
  have hj' : j < 3 := hj
  have : j = 0 ∨ j = 1 ∨ j = 2 := by omega
  rcases this with e | e | e <;> subst e <;> simp at h <;> exact ⟨_, h.symm, by decide⟩
theorem ok_isline {f g : Addr} {fd gd : FuncData} (F : Fun K "_law_is_line" "_law_is_line" sIsLine f fd) (T : Txt mg)
    (W : FnOk P w K mg base CX0 1 g gd ["found"] spWhole) (bW : Binds K gd ["found"] []) (kW : PySem.W.keepIn K (.ref g) = true) (mW : mg "_law_whole" = some (.ref g)) : FnOk P w K mg base CX0 2 f fd ["found"] spIsLine := by
  refine F.ok scIsLine (fun vs H Q E h => ?_) (fun cdv A outer s H vs Q E hr h => ?_)
  · obtain ⟨v, t, rfl, _⟩ := h; rfl
  · obtain ⟨v, t, rfl, ⟨a, rfl, ha⟩, k⟩ := h
    refine ⟨_, pss_cons (ps_if (PW.pt (pw_or (pt_not (pt_val (pe_callB call_isi rfl T.isinstance PyProof.Rows.boot_isinstance (pa_cons (pv 0) (pa_cons (pe_bltn (v := .ty "tuple") rfl T.tuple PyProof.Rows.boot_tuple rfl) pa_nil)))))
        (pw_or1 (pt_cmpR op_ne (pe_callB call_len_seq rfl T.len PySem.boot_len (pa_cons (pv 0) pa_nil)) pe_int (nomark _))))) (pss_one (ps_ret pe_bl)) pss_nil)
      (pss_one (ps_ret (pe_callB (call_allL hr.hd) rfl T.all PyProof.Rows.boot_all (pa_cons (pe_comp cs_isl rfl (pi_tup (pv 0)) (fun _ _ _ _ _ => pg_name (i := 0) nd_isl rfl (Or.inl rfl)) (fun _ _ _ _ _ => pif_nil)
        (fun _ _ _ _ _ => pe_call W hr rfl mW kW bW .nil pass0 (pa_cons (pv 0) pa_nil))) pa_nil)))), ?_⟩
    refine ⟨_, rfl, _, "tuple", "tuple", true, rfl, .inr ⟨rfl, _, SqT.of ha⟩, kit_tup_tup, _, rfl, iteF ?_⟩
    refine ⟨_, rfl, a, _, rfl, .inr (SqT.of ha), rfl, _, rfl, iteF ?_⟩
    refine ⟨_, rfl, a, rfl, ⟨_, SqT.of ha⟩, fun D hD => ?_⟩
    have sD : Same H (upd H D (.lst [])) := same_upd (Same.refl H) hD
    refine comp_tup (K := K) (a := a) (xs := [.int t.1, .int t.2.1, .int t.2.2]) (fun j σ' H3 => ∃ v bs, σ' = [v] ∧ Same H H3 ∧ H3 D = some (.lst (bs.map V.bl)) ∧ bs.length = j ∧ bs.all id = true)
      ⟨none, [], rfl, sD, upd_same, rfl, rfl⟩ (fun j σ' H3 _ ⟨_, _, _, s7, _⟩ => SqT.of (s7 _ _ ha)) ?_ ?_
    · rintro j x σ' H3 hj ⟨v, bs, rfl, s7, h7, lb, ab⟩
      obtain ⟨z, rfl, hj3⟩ := three_ints hj
      dsimp only [gName, tYes]
      refine iteT ⟨_, rfl, z, rfl, bs.map V.bl, h7, small1000 (by rw [List.length_map]; omega), _, bs ++ [true], rfl, same_upd s7 hD, ?_, by simp [lb], by simp at ab ⊢; exact ab⟩
      rw [upd_same, List.map_append]; rfl
    · rintro σ' H3 ⟨v, bs, rfl, s7, h7, lb, ab⟩
      refine ⟨D, bs, rfl, SqL.of h7, ?_⟩
      have : Q (.bl (bs.all id)) H3 := by rw [ab]; exact k H3 s7
      exact this
end
end Toy
set_option maxRecDepth 100000
namespace Toy
open PySem L2 Geo
section
variable {P : Program} {w : World} {K : PySem.W.Frag} {mg : Str → Option Value} {base : Heap}
abbrev n_sLDepth : List Str := ["points", "spot", "ways", "best", "one", "side", "left", "ahead", "behind", "way", "cross"]
def spLDepth (K : PySem.W.Frag) : Sp := fun vs H Q _ => ∃ a xs ps v t, vs = [.ref a, v] ∧ SqL K H a xs ∧ ArePts H xs ps ∧ ps.length ≤ 13 ∧ (∀ q ∈ ps, Bd q) ∧ IsTri H v t ∧ SpW t ∧
  ∀ (b : Nat) H', Same H H' → LawD (ps.map (stepOf t)) b → Q (.int (b : Nat)) H'
theorem scLDepth : FnScope n_sLDepth ["points", "spot"] (defScope sLDepth) := ⟨rfl, rfl, rfl, by decide +kernel, rfl, by decide +kernel, by decide +kernel⟩
abbrev c_ldW : Scope := { kind := .function, names := [(".0", .local), ("point", .local), ("spot", .free)], isGenerator := false, isCoroutine := false }
theorem cs_ldW {cdv : Value} {A : Around} {outer : List Env} {s : Shared} {H : Hp} {E : XK} {f : Addr} : CompScope (cxOf CX0 P w K mg base n_sLDepth "_law_depth" (defScope sLDepth) f cdv A outer s H E).nox c_ldW ["point", "spot"] [none, some 1] where
  kind := rfl
  nocell := by decide +kernel
  names := by decide +kernel
  frees := by show ∀ z ∈ c_ldW.names, z.2 = .free → (defScope sLDepth).names.lookup z.1 = some .cell; decide +kernel
  nd := by decide +kernel
  len := rfl
  cap := fun i j h => match i, h with
    | 0, h => by simp at h
    | 1, h => by
      simp at h; subst h
      exact ⟨"spot", rfl, rfl, by decide +kernel, rfl, .inl rfl⟩
    | n + 2, h => by simp at h
theorem nd_ldW : (["point", "spot"] : List Str).Nodup := by decide +kernel
theorem ok_ldepth {f : Addr} {fd : FuncData} (F : Fun K "_law_depth" "_law_depth" sLDepth f fd) (T : Txt mg) : FnOk P w K mg base CX0 1 f fd ["points", "spot"] (spLDepth K) := by
  refine F.ok scLDepth (fun vs H Q E h => ?_) (fun cdv A' outer s H vs Q E hr h => ?_)
  · obtain ⟨a, xs, ps, v, t, rfl, _⟩ := h; rfl
  · obtain ⟨a, xs, ps, v, t, rfl, ha, hx, lp, bd, ⟨av, rfl, hav⟩, sw, k⟩ := h
    have hu : (A'.deeper (PyProof.Rows.envOfC "_law_depth" (defScope sLDepth) s.heap.objs.size f cdv)).units + 16 < cLine := by have := hr.units; omega
    have lx := hx.length
    refine ⟨_, pss_cons (ps_setC (i := 2) scLDepth.nd rfl rfl cs_ldW rfl (pi_list (pv 0)) (fun _ _ _ _ _ => pg_name (i := 0) nd_ldW rfl (Or.inl rfl)) (fun _ _ _ _ _ => pif_nil)
        (fun _ _ _ _ _ => pe_tup (pa_cons (pe_op op_sub (pe_op op_mul (pe_ix (ixt (K' := K) rfl) (pv 0) pe_int (fun _ _ => rfl)) (pe_ix (ixt (K' := K) rfl) (pv 1) pe_int (fun _ _ => rfl))) (pe_ix (ixt (K' := K) rfl) (pv 1) pe_int (fun _ _ => rfl)))
          (pa_cons (pe_op op_sub (pe_op op_mul (pe_ix (ixt (K' := K) rfl) (pv 0) pe_int (fun _ _ => rfl)) (pe_ix (ixt (K' := K) rfl) (pv 1) pe_int (fun _ _ => rfl))) (pe_ix (ixt (K' := K) rfl) (pv 1) pe_int (fun _ _ => rfl))) pa_nil))) rfl)
      (pss_cons (ps_set (i := 3) scLDepth.nd rfl (Or.inl rfl) (pe_callB call_len_seq rfl T.len PySem.boot_len (pa_cons (pv 0) pa_nil)))
      (pss_cons (ps_for PassesOwn.never rfl (pi_list (pv 2)) (pg_name (i := 4) scLDepth.nd rfl (Or.inl rfl))
        (pss_one (ps_if (pt_cmpR (op_neP hu) (pv 4) (pe_tup (pa_cons pe_int (pa_cons pe_int pa_nil))) (nomark _))
          (pss_one (ps_for PassesOwn.never rfl (pi_list (pe_lst (pa_cons pe_int (pa_cons (pe_un un_neg pe_int) pa_nil)))) (pg_name (i := 5) scLDepth.nd rfl (Or.inl rfl))
            (pss_cons (ps_set (i := 6) scLDepth.nd rfl (Or.inl rfl) pe_int)
            (pss_cons (ps_set (i := 7) scLDepth.nd rfl (Or.inl rfl) pe_int)
            (pss_cons (ps_set (i := 8) scLDepth.nd rfl (Or.inl rfl) pe_int)
            (pss_cons (ps_for PassesOwn.never rfl (pi_list (pv 2)) (pg_name (i := 9) scLDepth.nd rfl (Or.inl rfl))
              (pss_cons (ps_set (i := 10) scLDepth.nd rfl (Or.inl rfl) (pe_op op_mul (pv 5) (pe_op op_sub (pe_op op_mul (pe_ix ix_tup (pv 4) pe_int (fun _ _ => rfl)) (pe_ix ix_tup (pv 9) pe_int (fun _ _ => rfl))) (pe_op op_mul (pe_ix ix_tup (pv 4) pe_int (fun _ _ => rfl)) (pe_ix ix_tup (pv 9) pe_int (fun _ _ => rfl))))))
              (pss_one (ps_if (PW.pt (pw_or (pt_cmpR op_gt (pv 10) pe_int (nomark _)) (pw_or1 (pt_cmpR (op_eqP hu) (pv 9) (pe_tup (pa_cons pe_int (pa_cons pe_int pa_nil))) (nomark _)))))
                (pss_one (ps_set (i := 6) scLDepth.nd rfl (Or.inl rfl) (pe_op op_add (pv 6) pe_int)))
                (pss_one (ps_if (PW.pt (pw_and (pt_cmpR op_eq (pv 10) pe_int (nomark _)) (pw_and1 (pt_cmpR op_gt (pe_op op_add (pe_op op_mul (pe_ix ix_tup (pv 4) pe_int (fun _ _ => rfl)) (pe_ix ix_tup (pv 9) pe_int (fun _ _ => rfl))) (pe_op op_mul (pe_ix ix_tup (pv 4) pe_int (fun _ _ => rfl)) (pe_ix ix_tup (pv 9) pe_int (fun _ _ => rfl)))) pe_int (nomark _)))))
                  (pss_one (ps_set (i := 7) scLDepth.nd rfl (Or.inl rfl) (pe_op op_add (pv 7) pe_int)))
                  (pss_one (ps_if (pt_cmpR op_eq (pv 10) pe_int (nomark _)) (pss_one (ps_set (i := 8) scLDepth.nd rfl (Or.inl rfl) (pe_op op_add (pv 8) pe_int))) pss_nil))))))))
            (pss_one (ps_set (i := 3) scLDepth.nd rfl (Or.inl rfl) (pe_callB (call_min2 rfl) rfl T.min PyProof.Rows.boot_min (pa_cons (pv 3) (pa_cons (pe_op op_add (pv 6) (pe_callB (call_min2 rfl) rfl T.min PyProof.Rows.boot_min (pa_cons (pv 7) (pa_cons (pv 8) pa_nil)))) pa_nil))))))))))) pss_nil)))
      (pss_one (ps_ret (pv 3))))), ?_⟩
    refine ⟨_, rfl, a, rfl, ⟨_, ha⟩, fun D hD => ?_⟩
    refine comp_list (K := K) (a := a) (xs := xs) (fun j σ' H' => ∃ v1 zs, σ' = [v1, some (.ref av)] ∧ Same H H' ∧ H' D = some (.lst zs) ∧ ArePts H' zs ((ps.take j).map (stepOf t)))
      ⟨none, [], rfl, same_upd (Same.refl H) hD, upd_same, .nil⟩ (fun j σ' H' _ ⟨_, _, _, s4, _⟩ => s4.seq ha) ?_ ?_
    · rintro j x σ' H' hj ⟨v1, zs, rfl, s4, h4, w4⟩
      obtain ⟨p, p1, p2⟩ := Pair.get hx hj
      have hjl := (List.getElem?_eq_some_iff.mp p1).1
      have lw := w4.length
      rw [List.length_map, List.length_take] at lw
      obtain ⟨ax, rfl, hax⟩ := p2.same s4
      have hav4 := s4 _ _ hav
      have bp := bd p (List.mem_of_getElem? p1)
      dsimp only [gName, tYes]
      refine iteT ⟨_, rfl, ax, _, _, _, rfl, rfl, SqT.of hax, atI_nat (j := 0) rfl, _, rfl, av, _, _, _, rfl, rfl, SqT.of hav4, atI_nat (j := 2) rfl, _, _, rfl, rfl, mulL _ _ (by have := bp.1; omega) (by have := bp.2.1; omega), ?_⟩
      refine ⟨_, rfl, av, _, _, _, rfl, rfl, SqT.of hav4, atI_nat (j := 0) rfl, _, _, rfl, rfl, ?_⟩
      refine ⟨_, rfl, ax, _, _, _, rfl, rfl, SqT.of hax, atI_nat (j := 1) rfl, _, rfl, av, _, _, _, rfl, rfl, SqT.of hav4, atI_nat (j := 2) rfl, _, _, rfl, rfl, mulL _ _ (by have := bp.2.2.1; omega) (by have := bp.2.2.2; omega), ?_⟩
      refine ⟨_, rfl, av, _, _, _, rfl, rfl, SqT.of hav4, atI_nat (j := 1) rfl, _, _, rfl, rfl, (by show 2 ≤ sizeLine; decide), fun u nu => ?_⟩
      have s5 := same_upd (o := .tup [.int (stepOf t p).1, .int (stepOf t p).2]) (Same.refl H') nu
      have hDD := s5 _ _ h4
      refine ⟨zs, hDD, small1000 (by omega), _, _, rfl, same_upd (s4.trans s5) hD, upd_same, ?_⟩
      rw [take_snoc p1, List.map_append]
      refine Pair.append (ArePts.keep w4 ((Same.keep s5).trans (Keep.lst hDD _))) (.cons ⟨u, rfl, ?_⟩ .nil)
      have : u ≠ D := fun e => by subst e; rw [h4] at nu; cases nu
      rw [upd_ne this, upd_same]; rfl
    rintro σ' H1 ⟨v1, z1, rfl, s1, h1, w1⟩
    rw [List.take_of_length_le (by omega)] at w1
    have fus : ∀ u ∈ ps.map (stepOf t), Far 2199023255552 u := fun u hu => by
      obtain ⟨p, hp, rfl⟩ := List.mem_map.mp hu
      exact step_far sw (bd p hp)
    have lus : (ps.map (stepOf t)).length = xs.length := by rw [List.length_map, lx]
    generalize ps.map (stepOf t) = us at k w1 fus lus
    have lz1 := w1.length
    refine ⟨_, rfl, a, _, rfl, .inl (s1.seq ha), ?_⟩
    refine ⟨_, rfl, D, rfl, ⟨_, SqL.of h1⟩, for_list (K := K) (a := D) (xs := z1)
      (fun i σ H2 => ∃ (b : Nat) (v4 v5 v6 v7 v8 v9 v10 : Option V), σ = [some (.ref a), some (.ref av), some (.ref D), some (.int (b : Nat)), v4, v5, v6, v7, v8, v9, v10] ∧ Same H1 H2 ∧ b ≤ us.length ∧
        (∀ v ∈ us.take i, v ≠ (0, 0) → b ≤ val us v 1 ∧ b ≤ val us v (-1)) ∧ (b = us.length ∨ ∃ v ∈ us, v ≠ (0, 0) ∧ ∃ s : Int, (s = 1 ∨ s = -1) ∧ b = val us v s))
      ⟨xs.length, none, none, none, none, none, none, none, rfl, Same.refl H1, by omega, by simp, .inl lus.symm⟩ (fun i σ H2 _ ⟨_, _, _, _, _, _, _, _, _, s2, _⟩ => SqL.of (s2 _ _ h1)) ?_ ?_⟩
    · rintro i x σ H2 hi ⟨b, v4, v5, v6, v7, v8, v9, v10, rfl, s2, bn, ble, bat⟩
      obtain ⟨p, p1, px⟩ := Pair.get w1 hi
      have mp := List.mem_of_getElem? p1
      have fp := fus p mp
      refine ⟨_, rfl, (by show 2 ≤ sizeLine; decide), fun u nu => ?_⟩
      have s3 := same_upd (o := .tup [.int 0, .int 0]) (Same.refl H2) nu
      refine ⟨p, (0, 0), px.same (s2.trans s3), ⟨u, rfl, upd_same⟩, decide (p ≠ (0, 0)), (by show V.bl (!decide (p = (0, 0))) = V.bl (decide (p ≠ (0, 0))); by_cases z : p = (0, 0) <;> simp [z]), ?_⟩
      have s23 := s2.trans s3
      generalize (upd H2 u (.tup [.int 0, .int 0])) = H3 at s23
      by_cases hz : p = (0, 0)
      · rw [decide_eq_false (show ¬ p ≠ (0, 0) from fun h => h hz)]
        refine iteF ⟨b, _, _, _, _, _, _, _, rfl, s23, bn, fun v hv hv0 => ?_, bat⟩
        rw [take_snoc p1] at hv
        rcases List.mem_append.mp hv with z | z
        · exact ble v z hv0
        · rw [List.mem_singleton] at z; exact absurd (z.trans hz) hv0
      rw [decide_eq_true hz]
      refine iteT ⟨_, rfl, (by show 2 ≤ sizeLine; decide), fun e ne => ?_⟩
      have s4 := same_upd (o := .lst [.int 1, .int (-1)]) (Same.refl H3) ne
      have he : (upd H3 e (.lst [.int 1, .int (-1)])) e = some (.lst [.int 1, .int (-1)]) := upd_same
      have s24 := s23.trans s4
      generalize (upd H3 e (.lst [.int 1, .int (-1)])) = H4 at s24 he
      refine ⟨e, rfl, ⟨_, SqL.of he⟩, for_list (K := K) (a := e) (xs := [.int 1, .int (-1)])
        (fun m σ H5 => ∃ (b' : Nat) (v5 v6 v7 v8 v9 v10 : Option V), σ = [some (.ref a), some (.ref av), some (.ref D), some (.int (b' : Nat)), some x, v5, v6, v7, v8, v9, v10] ∧ Same H4 H5 ∧ b' ≤ b ∧
          (0 < m → b' ≤ val us p 1) ∧ (1 < m → b' ≤ val us p (-1)) ∧ (b' = us.length ∨ ∃ v ∈ us, v ≠ (0, 0) ∧ ∃ s : Int, (s = 1 ∨ s = -1) ∧ b' = val us v s))
        ⟨b, _, _, _, _, _, _, rfl, Same.refl H4, Nat.le_refl _, fun z => absurd z (by omega), fun z => absurd z (by omega), bat⟩ (fun m σ H5 _ ⟨_, _, _, _, _, _, _, _, s5, _⟩ => SqL.of (s5 _ _ he)) ?_ ?_⟩
      · rintro m y σ H5 hm ⟨b', v5, v6, v7, v8, v9, v10, rfl, s5, bb, b1, b2, bat'⟩
        obtain ⟨sd, rfl, hsd, hmm⟩ : ∃ sd : Int, y = .int sd ∧ (sd = 1 ∨ sd = -1) ∧ ((m = 0 ∧ sd = 1) ∨ (m = 1 ∧ sd = -1)) := by
          have : m = 0 ∨ m = 1 := by have := (List.getElem?_eq_some_iff.mp hm).1; simp at this; omega
          rcases this with q | q
          · subst q; simp at hm; exact ⟨1, hm.symm, .inl rfl, .inl ⟨rfl, rfl⟩⟩
          · subst q; simp at hm; exact ⟨-1, hm.symm, .inr rfl, .inr ⟨rfl, rfl⟩⟩
        have s25 := s24.trans s5
        have h5 := s25 _ _ h1
        refine ⟨_, rfl, D, rfl, ⟨_, SqL.of h5⟩, for_list (K := K) (a := D) (xs := z1)
          (fun j σ H6 => ∃ v9 v10 : Option V, σ = [some (.ref a), some (.ref av), some (.ref D), some (.int (b' : Nat)), some x, some (.int sd), some (.int ((us.take j).countP (lf p sd) : Nat)), some (.int ((us.take j).countP (ah p sd) : Nat)), some (.int ((us.take j).countP (bh p sd) : Nat)), v9, v10] ∧ Same H5 H6)
          ⟨_, _, rfl, Same.refl H5⟩ (fun j σ H6 _ ⟨_, _, _, s6⟩ => SqL.of (s6 _ _ h5)) ?_ ?_⟩
        · rintro j y σ H6 hj ⟨v9, v10, rfl, s6⟩
          obtain ⟨q, q1, qx⟩ := Pair.get w1 hj
          have fq := fus q (List.mem_of_getElem? q1)
          have s26 := s25.trans s6
          obtain ⟨ap, rfl, hap⟩ := px.same s26
          obtain ⟨aq, rfl, haq⟩ := qx.same s26
          obtain ⟨f1, f2, f3, f4⟩ := fp
          refine ⟨_, rfl, _, rfl, ap, _, _, _, rfl, rfl, SqT.of hap, atI_nat (j := 0) rfl, _, rfl, aq, _, _, _, rfl, rfl, SqT.of haq, atI_nat (j := 1) rfl, _, _, rfl, rfl, mulL _ _ (by omega) (by omega), ?_⟩
          refine ⟨_, rfl, ap, _, _, _, rfl, rfl, SqT.of hap, atI_nat (j := 1) rfl, _, rfl, aq, _, _, _, rfl, rfl, SqT.of haq, atI_nat (j := 0) rfl, _, _, rfl, rfl, mulL _ _ (by omega) (by omega), ?_⟩
          refine ⟨_, _, rfl, rfl, _, _, rfl, rfl, mulL _ _ (by omega) (by omega), ?_⟩
          have nx : ∀ g : Pt → Bool, ((us.take (j + 1)).countP g : Nat) = (us.take j).countP g + if g q = true then 1 else 0 := fun g => by rw [take_snoc q1, List.countP_append]; simp [List.countP_cons]
          refine ⟨_, rfl, _, _, rfl, rfl, decide (0 < sd * crs p q), rfl, ?_⟩
          have Z : ∀ (l1 l2 l3 : Nat) (H7 : Hp) (y10 : Option V), Same H6 H7 → l1 = (us.take (j + 1)).countP (lf p sd) → l2 = (us.take (j + 1)).countP (ah p sd) → l3 = (us.take (j + 1)).countP (bh p sd) →
              ∃ v9 v10 : Option V, [some (V.ref a), some (.ref av), some (.ref D), some (.int (b' : Nat)), some (.ref ap), some (.int sd), some (.int (l1 : Nat)), some (.int (l2 : Nat)), some (.int (l3 : Nat)), some (.ref aq), y10] = [some (.ref a), some (.ref av), some (.ref D), some (.int (b' : Nat)), some (.ref ap), some (.int sd), some (.int ((us.take (j + 1)).countP (lf p sd) : Nat)), some (.int ((us.take (j + 1)).countP (ah p sd) : Nat)), some (.int ((us.take (j + 1)).countP (bh p sd) : Nat)), v9, v10] ∧ Same H5 H7 := by
            rintro l1 l2 l3 H7 y10 s7 rfl rfl rfl
            exact ⟨_, _, rfl, s6.trans s7⟩
          have nl := nx (lf p sd)
          have na := nx (ah p sd)
          have nb := nx (bh p sd)
          have left : ∀ H7 y10, Same H6 H7 → lf p sd q = true → ∃ v9 v10 : Option V, [some (V.ref a), some (.ref av), some (.ref D), some (.int (b' : Nat)), some (.ref ap), some (.int sd), some (.int (((us.take j).countP (lf p sd) : Nat) + 1)), some (.int ((us.take j).countP (ah p sd) : Nat)), some (.int ((us.take j).countP (bh p sd) : Nat)), some (.ref aq), y10] = [some (.ref a), some (.ref av), some (.ref D), some (.int (b' : Nat)), some (.ref ap), some (.int sd), some (.int ((us.take (j + 1)).countP (lf p sd) : Nat)), some (.int ((us.take (j + 1)).countP (ah p sd) : Nat)), some (.int ((us.take (j + 1)).countP (bh p sd) : Nat)), v9, v10] ∧ Same H5 H7 := fun H7 y10 s7 hl => by
            have e2 : ah p sd q = false := by unfold ah; rw [hl]; rfl
            have e3 : bh p sd q = false := by unfold bh; rw [hl]; rfl
            rw [hl] at nl; rw [e2] at na; rw [e3] at nb
            exact Z _ _ _ H7 y10 s7 (by simpa using nl.symm) (by simpa using na.symm) (by simpa using nb.symm)
          by_cases c1 : 0 < sd * crs p q
          · rw [decide_eq_true c1]
            refine iteT ⟨_, rfl, _, _, rfl, rfl, ?_⟩
            exact left H6 _ (Same.refl _) (by unfold lf; rw [decide_eq_true c1]; rfl)
          rw [decide_eq_false c1]
          refine iteF ⟨_, rfl, (by show 2 ≤ sizeLine; decide), fun u nu => ?_⟩
          have s7 := same_upd (o := .tup [.int 0, .int 0]) (Same.refl H6) nu
          refine ⟨q, (0, 0), ⟨aq, rfl, s7 _ _ haq⟩, ⟨u, rfl, upd_same⟩, decide (q = (0, 0)), rfl, ?_⟩
          have hap7 := s7 _ _ hap
          have haq7 := s7 _ _ haq
          generalize (upd H6 u (.tup [.int 0, .int 0])) = H7 at s7 hap7 haq7
          by_cases c2 : q = (0, 0)
          · rw [decide_eq_true c2]
            refine iteT ⟨_, rfl, _, _, rfl, rfl, ?_⟩
            exact left H7 _ s7 (by unfold lf; rw [decide_eq_true c2, Bool.or_true])
          rw [decide_eq_false c2]
          have hl : lf p sd q = false := by unfold lf; rw [decide_eq_false c1, decide_eq_false c2]; rfl
          rw [hl] at nl
          refine iteF ⟨_, rfl, rfl, decide (sd * crs p q = 0), (by show V.bl (decide (V.int (sd * crs p q) = V.int 0)) = _; by_cases z : sd * crs p q = 0 <;> simp [z]), ?_⟩
          by_cases c3 : sd * crs p q = 0
          · rw [decide_eq_true c3]
            refine iteT ⟨_, rfl, ap, _, _, _, rfl, rfl, SqT.of hap7, atI_nat (j := 0) rfl, _, rfl, aq, _, _, _, rfl, rfl, SqT.of haq7, atI_nat (j := 0) rfl, _, _, rfl, rfl, mulL _ _ (by omega) (by omega), ?_⟩
            refine ⟨_, rfl, ap, _, _, _, rfl, rfl, SqT.of hap7, atI_nat (j := 1) rfl, _, rfl, aq, _, _, _, rfl, rfl, SqT.of haq7, atI_nat (j := 1) rfl, _, _, rfl, rfl, mulL _ _ (by omega) (by omega), ?_⟩
            refine ⟨_, _, rfl, rfl, _, _, rfl, rfl, decide (0 < dot p q), rfl, ?_⟩
            by_cases c4 : 0 < dot p q
            · rw [decide_eq_true c4]
              have e2 : ah p sd q = true := by unfold ah; rw [hl, decide_eq_true c3, decide_eq_true c4]; rfl
              have e3 : bh p sd q = false := by unfold bh; rw [hl, decide_eq_true c3, decide_eq_true c4]; rfl
              rw [e2] at na; rw [e3] at nb
              refine iteT ⟨_, rfl, _, _, rfl, rfl, ?_⟩
              exact Z _ _ _ H7 _ s7 (by simpa using nl.symm) (by simpa using na.symm) (by simpa using nb.symm)
            · rw [decide_eq_false c4]
              have e2 : ah p sd q = false := by unfold ah; rw [hl, decide_eq_true c3, decide_eq_false c4]; rfl
              have e3 : bh p sd q = true := by unfold bh; rw [hl, decide_eq_true c3, decide_eq_false c4]; rfl
              rw [e2] at na; rw [e3] at nb
              refine iteF ⟨_, rfl, rfl, true, (by show V.bl (decide (V.int (sd * crs p q) = V.int 0)) = V.bl true; rw [c3]; rfl), iteT ⟨_, rfl, _, _, rfl, rfl, ?_⟩⟩
              exact Z _ _ _ H7 _ s7 (by simpa using nl.symm) (by simpa using na.symm) (by simpa using nb.symm)
          · rw [decide_eq_false c3]
            have e2 : ah p sd q = false := by unfold ah; rw [hl, decide_eq_false c3]; rfl
            have e3 : bh p sd q = false := by unfold bh; rw [hl, decide_eq_false c3]; rfl
            rw [e2] at na; rw [e3] at nb
            refine iteF ⟨_, rfl, rfl, false, (by show V.bl (decide (V.int (sd * crs p q) = V.int 0)) = V.bl false; rw [decide_eq_false (fun e => c3 (V.int.inj e))]), iteF ?_⟩
            exact Z _ _ _ H7 _ s7 (by simpa using nl.symm) (by simpa using na.symm) (by simpa using nb.symm)
        · rintro σ H6 ⟨v9, v10, rfl, s6⟩
          have ez : us.take z1.length = us := List.take_of_length_le (by omega)
          rw [ez]
          refine ⟨_, rfl, _, rfl, _, rfl, _, rfl, _, _, rfl, _, _, rfl, rfl, _, _, rfl, ?_⟩
          have em : ∀ l1 l2 l3 : Nat, (if (l1 : Int) + (if (l3 : Int) < (l2 : Int) then (l3 : Int) else (l2 : Int)) < (b' : Int) then (l1 : Int) + (if (l3 : Int) < (l2 : Int) then (l3 : Int) else (l2 : Int)) else (b' : Int)) = ((min b' (l1 + min l2 l3) : Nat) : Int) := fun l1 l2 l3 => by
            split <;> split <;> omega
          refine ⟨min b' (val us p sd), some (.int sd), some (.int (us.countP (lf p sd) : Nat)), some (.int (us.countP (ah p sd) : Nat)), some (.int (us.countP (bh p sd) : Nat)), v9, v10, ?_, s5.trans s6, by omega, fun _ => ?_, fun h => ?_, ?_⟩
          · unfold val
            rw [← em]; rfl
          · rcases hmm with ⟨rfl, rfl⟩ | ⟨rfl, rfl⟩
            · omega
            · have := b1 (by omega); omega
          · rcases hmm with ⟨rfl, rfl⟩ | ⟨rfl, rfl⟩
            · omega
            · omega
          · rcases Nat.le_total b' (val us p sd) with z | z
            · rw [Nat.min_eq_left z]; exact bat'
            · rw [Nat.min_eq_right z]; exact .inr ⟨p, mp, hz, sd, hsd, rfl⟩
      · rintro σ H5 ⟨b', v5, v6, v7, v8, v9, v10, rfl, s5, bb, b1, b2, bat'⟩
        refine ⟨b', _, _, _, _, _, _, _, rfl, s24.trans s5, by omega, fun v hv hv0 => ?_, bat'⟩
        rw [take_snoc p1] at hv
        rcases List.mem_append.mp hv with z | z
        · have := ble v z hv0; omega
        · rw [List.mem_singleton] at z; rw [z]; exact ⟨b1 (by simp), b2 (by simp)⟩
    · rintro σ H2 ⟨b, v4, v5, v6, v7, v8, v9, v10, rfl, s2, bn, ble, bat⟩
      rw [List.take_of_length_le (by omega)] at ble
      exact ⟨_, rfl, k b H2 (s1.trans s2) ⟨bn, ble, bat⟩⟩
end
end Toy
set_option maxRecDepth 100000
namespace Toy
open PySem L2 Geo
section
variable {P : Program} {w : World} {K : PySem.W.Frag} {mg : Str → Option Value} {base : Heap}
abbrev n_sLSpot : List Str := ["script", "at", "points", "x", "y", "below", "one", "other", "both"]
structure Near (t : Tri) : Prop where
  x : -20000 ≤ t.1 ∧ t.1 ≤ 20000
  y : -20000 ≤ t.2.1 ∧ t.2.1 ≤ 20000
  d : 0 < t.2.2 ∧ t.2.2 ≤ 4
def spLSpot (K : PySem.W.Frag) : Sp := fun vs H Q _ => ∃ (a r : Addr) (ns : List Int) (i : Int) (zs : List V) (ps : List Pt), vs = [.ref a, .int i, .ref r] ∧ SqL K H a (ns.map V.int) ∧ 0 ≤ i ∧ SqL K H r zs ∧ ArePts H zs ps ∧ (∀ q ∈ ps, Bd q) ∧
  ∀ u t H', H u = none → Same H H' → IsTri H' (.ref u) t → SpOk t → Near t → Q (.ref u) H'
theorem scLSpot : FnScope n_sLSpot ["script", "at", "points"] (defScope sLSpot) := ⟨rfl, rfl, rfl, by decide +kernel, rfl, by decide +kernel, by decide +kernel⟩
theorem absN (i : Int) : (if i < 0 then -i else i) = (i.natAbs : Int) := by split <;> omega
theorem low_near {t : Tri} (h : Near t) : Near (lowM t) := by
  have g := gcd_pos (a := ((Int.gcd t.1 t.2.1 : Nat) : Int)) h.d.1
  have hg : (0 : Int) < (gcd3 t : Nat) := by unfold gcd3; omega
  have b1 := abs_div_le (s := t.1) hg
  have b2 := abs_div_le (s := t.2.1) hg
  have b3 := abs_div_le (s := t.2.2) hg
  have p := (lowM_ok h.d.1).pos
  have f1 : (lowM t).1 = t.1 / (gcd3 t : Nat) := rfl
  have f2 : (lowM t).2.1 = t.2.1 / (gcd3 t : Nat) := rfl
  have f3 : (lowM t).2.2 = t.2.2 / (gcd3 t : Nat) := rfl
  obtain ⟨⟨x1, x2⟩, ⟨y1, y2⟩, d1, d2⟩ := h
  exact ⟨by rw [f1]; omega, by rw [f2]; omega, p, by rw [f3]; omega⟩
theorem ok_lspot {f g1 g2 : Addr} {fd d1 d2 : FuncData} (F : Fun K "_law_spot" "_law_spot" sLSpot f fd) (T : Txt mg)
    (C : FnOk P w K mg base CX0 1 g1 d1 ["script", "k"] (spCell K)) (b1 : Binds K d1 ["script", "k"] []) (k1 : PySem.W.keepIn K (.ref g1) = true) (m1 : mg "_law_cell_at" = some (.ref g1))
    (G : FnOk P w K mg base CX0 1 g2 d2 ["one", "other"] spGcd) (b2 : Binds K d2 ["one", "other"] []) (k2 : PySem.W.keepIn K (.ref g2) = true) (m2 : mg "_law_common" = some (.ref g2)) :
    FnOk P w K mg base CX0 2 f fd ["script", "at", "points"] (spLSpot K) := by
  refine F.ok scLSpot (fun vs H Q E h => ?_) (fun cdv A outer s H vs Q E hr h => ?_)
  · obtain ⟨a, r, ns, i, zs, ps, rfl, _⟩ := h; rfl
  · obtain ⟨a, r, ns, i, zs, ps, rfl, hq, i0, hz, hp, bd, k⟩ := h
    have lz := hp.length
    have REST : ∃ t, PSs (cxOf CX0 P w K mg base n_sLSpot "_law_spot" (defScope sLSpot) f cdv A outer s H E).nox (List.drop 4 (defBody sLSpot)) t ∧
        ∀ (t3 : Tri) (v6 v7 v8 : Option V), Near t3 → t { nx := fun _ H' => Q .non H', rt := Q } [some (.ref a), some (.int i), some (.ref r), some (.int t3.1), some (.int t3.2.1), some (.int t3.2.2), v6, v7, v8] H := by
      refine ⟨_, pss_cons (ps_set (i := 8) scLSpot.nd rfl (Or.inl rfl) (pe_call G hr rfl m2 k2 b2 .nil pass0 (pa_cons (pe_call G hr rfl m2 k2 b2 .nil pass0 (pa_cons (pe_callB call_abs rfl T.abs PyProof.Rows.boot_abs (pa_cons (pv 3) pa_nil)) (pa_cons (pe_callB call_abs rfl T.abs PyProof.Rows.boot_abs (pa_cons (pv 4) pa_nil)) pa_nil))) (pa_cons (pv 5) pa_nil))))
        (pss_one (ps_ret (pe_tup (pa_cons (pe_op op_fdiv (pv 3) (pv 8)) (pa_cons (pe_op op_fdiv (pv 4) (pv 8)) (pa_cons (pe_op op_fdiv (pv 5) (pv 8)) pa_nil)))))), ?_⟩
      intro t3 v6 v7 v8 nr
      have d3 := nr.d
      have e : Int.gcd ((Int.gcd (t3.1.natAbs : Int) (t3.2.1.natAbs : Int) : Nat) : Int) t3.2.2 = gcd3 t3 := by
        unfold gcd3; simp only [Int.gcd, Int.natAbs_natCast]
      have g0 : 0 < gcd3 t3 := gcd_pos d3.1
      have g1 : ((gcd3 t3 : Nat) : Int) ≤ 4 := Int.le_trans (Int.le_of_dvd d3.1 (gcd3_dvd t3).2.2) d3.2
      refine ⟨_, rfl, _, rfl, _, rfl, _, rfl, (t3.1.natAbs : Int), (t3.2.1.natAbs : Int), by rw [absN, absN]; rfl, by omega, by omega, ?_⟩
      refine ⟨_, rfl, ((Int.gcd (t3.1.natAbs : Int) (t3.2.1.natAbs : Int) : Nat) : Int), t3.2.2, rfl, by omega, by omega, ?_⟩
      rw [e]
      refine ⟨_, rfl, _, rfl, _, _, rfl, rfl, ⟨by omega, by omega⟩, ?_⟩
      refine ⟨_, rfl, _, rfl, _, _, rfl, rfl, ⟨by omega, by omega⟩, ?_⟩
      refine ⟨_, rfl, _, rfl, _, _, rfl, rfl, ⟨by omega, by omega⟩, (by show 3 ≤ sizeLine; decide), fun u nu => ?_⟩
      exact k u (lowM t3) _ nu (same_upd (Same.refl H) nu) ⟨u, rfl, upd_same⟩ (lowM_ok d3.1) (low_near nr)
    obtain ⟨tR, hR, rest⟩ := REST
    refine ⟨_, pss_cons (ps_set (i := 3) scLSpot.nd rfl (Or.inl rfl) (pe_op op_sub (pe_op op_mod (pe_call C hr rfl m1 k1 b1 .nil pass0 (pa_cons (pv 0) (pa_cons (pv 1) pa_nil))) pe_int) pe_int))
      (pss_cons (ps_set (i := 4) scLSpot.nd rfl (Or.inl rfl) (pe_op op_sub (pe_op op_mod (pe_call C hr rfl m1 k1 b1 .nil pass0 (pa_cons (pv 0) (pa_cons (pe_op op_add (pv 1) pe_int) pa_nil))) pe_int) pe_int))
      (pss_cons (ps_set (i := 5) scLSpot.nd rfl (Or.inl rfl) (pe_op op_add pe_int (pe_op op_mod (pe_call C hr rfl m1 k1 b1 .nil pass0 (pa_cons (pv 0) (pa_cons (pe_op op_add (pv 1) pe_int) pa_nil))) pe_int)))
      (pss_cons (ps_if (PW.pt (pw_and (pt_cmpR op_gt (pe_callB call_len_seq rfl T.len PySem.boot_len (pa_cons (pv 2) pa_nil)) pe_int (nomark _)) (pw_and1 (pt_cmpR op_eq (pe_op op_mod (pe_call C hr rfl m1 k1 b1 .nil pass0 (pa_cons (pv 0) (pa_cons (pe_op op_add (pv 1) pe_int) pa_nil))) pe_int) pe_int (nomark _)))))
        (pss_cons (ps_set (i := 6) scLSpot.nd rfl (Or.inl rfl) (pe_ix ix_list (pv 2) (pe_op op_mod (pe_call C hr rfl m1 k1 b1 .nil pass0 (pa_cons (pv 0) (pa_cons (pv 1) pa_nil))) (pe_callB call_len_seq rfl T.len PySem.boot_len (pa_cons (pv 2) pa_nil))) (fun _ _ => rfl)))
        (pss_cons (ps_set (i := 7) scLSpot.nd rfl (Or.inl rfl) (pe_ix ix_list (pv 2) (pe_op op_mod (pe_call C hr rfl m1 k1 b1 .nil pass0 (pa_cons (pv 0) (pa_cons (pe_op op_add (pv 1) pe_int) pa_nil))) (pe_callB call_len_seq rfl T.len PySem.boot_len (pa_cons (pv 2) pa_nil))) (fun _ _ => rfl)))
        (pss_cons (ps_set (i := 3) scLSpot.nd rfl (Or.inl rfl) (pe_op op_add (pe_op op_mul (pe_ix ix_tup (pv 6) pe_int (fun _ _ => rfl)) (pv 5)) (pe_op op_mul (pe_op op_sub (pe_ix ix_tup (pv 7) pe_int (fun _ _ => rfl)) (pe_ix ix_tup (pv 6) pe_int (fun _ _ => rfl))) (pe_op op_mod (pe_call C hr rfl m1 k1 b1 .nil pass0 (pa_cons (pv 0) (pa_cons (pe_op op_add (pv 1) pe_int) pa_nil))) (pe_op op_add (pv 5) pe_int)))))
        (pss_one (ps_set (i := 4) scLSpot.nd rfl (Or.inl rfl) (pe_op op_add (pe_op op_mul (pe_ix ix_tup (pv 6) pe_int (fun _ _ => rfl)) (pv 5)) (pe_op op_mul (pe_op op_sub (pe_ix ix_tup (pv 7) pe_int (fun _ _ => rfl)) (pe_ix ix_tup (pv 6) pe_int (fun _ _ => rfl))) (pe_op op_mod (pe_call C hr rfl m1 k1 b1 .nil pass0 (pa_cons (pv 0) (pa_cons (pe_op op_add (pv 1) pe_int) pa_nil))) (pe_op op_add (pv 5) pe_int))))))))) pss_nil)
      hR))), ?_⟩
    have m7 : ∀ z : Int, 0 ≤ z % 7 ∧ z % 7 < 7 := fun z => by omega
    refine ⟨_, rfl, _, rfl, a, ns, i, rfl, hq, i0, fun z1 _ => ⟨_, _, rfl, rfl, (by show (0 : Int) < 7; decide), _, _, rfl, rfl, ?_⟩⟩
    refine ⟨_, rfl, _, rfl, _, _, rfl, rfl, a, ns, i + 1, rfl, hq, by omega, fun z2 _ => ⟨_, _, rfl, rfl, (by show (0 : Int) < 7; decide), _, _, rfl, rfl, ?_⟩⟩
    refine ⟨_, rfl, _, rfl, _, _, rfl, rfl, a, ns, i + 2, rfl, hq, by omega, fun z3 _ => ⟨_, _, rfl, rfl, (by show (0 : Int) < 4; decide), _, _, rfl, rfl, ?_⟩⟩
    have lo : Near (z1 % 7 - 3, z2 % 7 - 3, 1 + z3 % 4) := ⟨by dsimp only; omega, by dsimp only; omega, by dsimp only; omega⟩
    have rest0 := fun v6 v7 v8 => rest (z1 % 7 - 3, z2 % 7 - 3, 1 + z3 % 4) v6 v7 v8 lo
    have b4 : 1 ≤ 1 + z3 % 4 ∧ 1 + z3 % 4 ≤ 4 := by omega
    refine ⟨_, rfl, r, _, rfl, .inl hz, _, _, rfl, rfl, decide (1 < (zs.length : Int)), rfl, ?_⟩
    by_cases c1 : 1 < (zs.length : Int)
    · rw [decide_eq_true c1]
      refine iteT ⟨_, rfl, _, rfl, _, _, rfl, rfl, a, ns, i + 3, rfl, hq, by omega, fun z4 _ => ⟨_, _, rfl, rfl, (by show (0 : Int) < 2; decide), rfl, decide (z4 % 2 = 1), (by show V.bl (decide (V.int (z4 % 2) = V.int 1)) = _; by_cases z : z4 % 2 = 1 <;> simp [z]), ?_⟩⟩
      by_cases c2 : z4 % 2 = 1
      · rw [decide_eq_true c2]
        have lpos : (0 : Int) < (zs.length : Int) := by omega
        have at' : ∀ z : Int, ∃ (u : Addr) (p : Pt), atI zs (z % (zs.length : Int)) = some (.ref u) ∧ H u = some (.tup [.int p.1, .int p.2]) ∧ Bd p := fun z => by
          have h1 := Int.emod_nonneg z (show (zs.length : Int) ≠ 0 by omega)
          have h2 := Int.emod_lt_of_pos z lpos
          have hk : (z % (zs.length : Int)).toNat < ps.length := by omega
          obtain ⟨u, u1, au, rfl, u2⟩ := Pair.get' hp (List.getElem?_eq_getElem hk)
          refine ⟨au, _, ?_, u2, bd _ (List.getElem_mem hk)⟩
          have := atI_nat u1
          rw [show (((z % (zs.length : Int)).toNat : Nat) : Int) = z % (zs.length : Int) by omega] at this
          exact this
        refine iteT ⟨_, rfl, _, rfl, _, rfl, a, ns, i, rfl, hq, i0, fun z5 _ => ?_⟩
        obtain ⟨u1, p1, e1, h1, d1⟩ := at' z5
        refine ⟨_, rfl, r, _, rfl, .inl hz, _, _, rfl, rfl, lpos, r, _, _, _, rfl, rfl, hz, e1, ?_⟩
        refine ⟨_, rfl, _, rfl, _, rfl, _, _, rfl, rfl, a, ns, i + 1, rfl, hq, by omega, fun z6 _ => ?_⟩
        obtain ⟨u2, p2, e2, h2, d2⟩ := at' z6
        refine ⟨_, rfl, r, _, rfl, .inl hz, _, _, rfl, rfl, lpos, r, _, _, _, rfl, rfl, hz, e2, ?_⟩
        have mz : ∀ z : Int, 0 ≤ z % (1 + z3 % 4 + 1) ∧ z % (1 + z3 % 4 + 1) < 1 + z3 % 4 + 1 := fun z => ⟨Int.emod_nonneg z (by omega), Int.emod_lt_of_pos z (by omega)⟩
        have nx : ∀ (p q z : Int), -1000 ≤ p → p ≤ 1000 → -1000 ≤ q → q ≤ 1000 → -20000 ≤ p * (1 + z3 % 4) + (q - p) * (z % (1 + z3 % 4 + 1)) ∧ p * (1 + z3 % 4) + (q - p) * (z % (1 + z3 % 4 + 1)) ≤ 20000 := fun p q z h1 h2 h3 h4 => by
          have e1 := mul_box (a := p) (b := 1 + z3 % 4) (m := 1000) (n := 4) h1 h2 (by omega) b4.2
          have e2 := mul_box (a := q - p) (b := z % (1 + z3 % 4 + 1)) (m := 2000) (n := 4) (by omega) (by omega) (mz z).1 (by have := (mz z).2; omega)
          omega
        refine ⟨_, rfl, u1, _, _, _, rfl, rfl, SqT.of h1, atI_nat (j := 0) rfl, _, rfl, _, _, rfl, rfl, mulL _ _ (by have := d1.1; omega) (by have := d1.2.1; omega), _, rfl, u2, _, _, _, rfl, rfl, SqT.of h2, atI_nat (j := 0) rfl, _, rfl, u1, _, _, _, rfl, rfl, SqT.of h1, atI_nat (j := 0) rfl, _, _, rfl, rfl, _, rfl, _, rfl, _, _, rfl, rfl, a, ns, i + 4, rfl, hq, by omega, fun z7 _ => ?_⟩
        refine ⟨_, rfl, _, _, rfl, rfl, _, _, rfl, rfl, (by show (0 : Int) < 1 + z3 % 4 + 1; omega), _, _, rfl, rfl, mulL _ _ (by have := d1.1; have := d1.2.1; have := d2.1; have := d2.2.1; omega) (by have := d1.1; have := d1.2.1; have := d2.1; have := d2.2.1; omega), _, _, rfl, rfl, ?_⟩
        refine ⟨_, rfl, u1, _, _, _, rfl, rfl, SqT.of h1, atI_nat (j := 1) rfl, _, rfl, _, _, rfl, rfl, mulL _ _ (by have := d1.2.2.1; omega) (by have := d1.2.2.2; omega), _, rfl, u2, _, _, _, rfl, rfl, SqT.of h2, atI_nat (j := 1) rfl, _, rfl, u1, _, _, _, rfl, rfl, SqT.of h1, atI_nat (j := 1) rfl, _, _, rfl, rfl, _, rfl, _, rfl, _, _, rfl, rfl, a, ns, i + 4, rfl, hq, by omega, fun z8 _ => ?_⟩
        refine ⟨_, rfl, _, _, rfl, rfl, _, _, rfl, rfl, (by show (0 : Int) < 1 + z3 % 4 + 1; omega), _, _, rfl, rfl, mulL _ _ (by have := d1.2.2.1; have := d1.2.2.2; have := d2.2.2.1; have := d2.2.2.2; omega) (by have := d1.2.2.1; have := d1.2.2.2; have := d2.2.2.1; have := d2.2.2.2; omega), _, _, rfl, rfl, ?_⟩
        exact rest (p1.1 * (1 + z3 % 4) + (p2.1 - p1.1) * (z7 % (1 + z3 % 4 + 1)), p1.2 * (1 + z3 % 4) + (p2.2 - p1.2) * (z8 % (1 + z3 % 4 + 1)), 1 + z3 % 4) _ _ _
          ⟨nx _ _ _ d1.1 d1.2.1 d2.1 d2.2.1, nx _ _ _ d1.2.2.1 d1.2.2.2 d2.2.2.1 d2.2.2.2, by dsimp only; omega⟩
      · rw [decide_eq_false c2]
        exact iteF (rest0 _ _ _)
    · rw [decide_eq_false c1]
      exact iteF (rest0 _ _ _)
end
end Toy
set_option maxRecDepth 100000
namespace Toy
open PySem L2 Geo
theorem gcd3_shift {t : Tri} (h : gcd3 t = 1) (m n : Int) : gcd3 (t.1 + t.2.2 * m, t.2.1 + t.2.2 * n, t.2.2) = 1 := by
  obtain ⟨h1, h2, h3⟩ := gcd3_dvd (t.1 + t.2.2 * m, t.2.1 + t.2.2 * n, t.2.2)
  generalize gcd3 (t.1 + t.2.2 * m, t.2.1 + t.2.2 * n, t.2.2) = g at h1 h2 h3
  dsimp only at h1 h2 h3
  have e1 : (g : Int) ∣ t.1 := (Int.dvd_add_left (Int.dvd_trans h3 (Int.dvd_mul_right _ _))).mp h1
  have e2 : (g : Int) ∣ t.2.1 := (Int.dvd_add_left (Int.dvd_trans h3 (Int.dvd_mul_right _ _))).mp h2
  have e3 : (g : Int) ∣ ((gcd3 t : Nat) : Int) := Int.dvd_coe_gcd (Int.dvd_coe_gcd e1 e2) h3
  rw [h] at e3
  have := Int.natCast_dvd_natCast.mp e3
  exact Nat.dvd_one.mp this
theorem line_nz {t : Tri} {x : Pt} (h : 0 < t.2.2) (hx : x ≠ (0, 0)) : ((lowM (lineW t x)).1, (lowM (lineW t x)).2.1) ≠ ((0, 0) : Pt) := by
  obtain ⟨m1, m2, _⟩ := lowM_mul (lineW t x)
  intro e
  have e1 := congrArg Prod.fst e
  have e2 := congrArg Prod.snd e
  dsimp only at e1 e2
  rw [e1] at m1
  rw [e2] at m2
  simp only [Int.zero_mul, lineW] at m1 m2
  have a1 : x.1 = 0 := by rcases Int.mul_eq_zero.mp m1.symm with k | k <;> omega
  have a2 : x.2 = 0 := by rcases Int.mul_eq_zero.mp m2.symm with k | k <;> omega
  exact hx (Prod.ext a1 a2)
theorem line_at {t : Tri} {x : Pt} (h : 0 < t.2.2) (hx : x ≠ (0, 0)) : (lowM (lineW t x)).1 * t.1 + (lowM (lineW t x)).2.1 * t.2.1 + (lowM (lineW t x)).2.2 * t.2.2 = 0 := by
  have g := lineW_pos h hx
  obtain ⟨m1, m2, m3⟩ := lowM_mul (lineW t x)
  generalize lowM (lineW t x) = l at m1 m2 m3
  have gp : (0 : Int) < (gcd3 (lineW t x) : Nat) := by omega
  generalize ((gcd3 (lineW t x) : Nat) : Int) = G at m1 m2 m3 gp
  dsimp only [lineW] at m1 m2 m3
  have : G * (l.1 * t.1 + l.2.1 * t.2.1 + l.2.2 * t.2.2) = 0 := by
    have : G * (l.1 * t.1 + l.2.1 * t.2.1 + l.2.2 * t.2.2) = (l.1 * G) * t.1 + (l.2.1 * G) * t.2.1 + (l.2.2 * G) * t.2.2 := by grind
    rw [this, m1, m2, m3]; grind
  rcases Int.mul_eq_zero.mp this with k | k <;> omega
section
variable {P : Program} {w : World} {K : PySem.W.Frag} {mg : Str → Option Value} {base : Heap}
def spLaw (K : PySem.W.Frag) : Sp := fun vs H Q _ => ∃ (a : Addr) (ns : List Int), vs = [.ref a] ∧ SqL K H a (ns.map V.int) ∧ ns.length ≤ 63 ∧ ∀ H', Q (.bl true) H'
abbrev n_sLaw : List Str := ["script", "points", "spot", "across", "handed", "found", "a", "b", "c"]
theorem scL : FnScope n_sLaw ["script"] (defScope sLaw) := ⟨rfl, rfl, rfl, by decide +kernel, rfl, by decide +kernel, by decide +kernel⟩
abbrev c_lw : Scope := { kind := .function, names := [(".0", .local), ("point", .local), ("_law_at", .globalImplicit), ("found", .free)], isGenerator := false, isCoroutine := false }
theorem cs_lw {cdv : Value} {A : Around} {outer : List Env} {s : Shared} {H : Hp} {E : XK} {f : Addr} : CompScope (cxOf CX0 P w K mg base n_sLaw "law" (defScope sLaw) f cdv A outer s H E).nox c_lw ["point", "found"] [none, some 5] where
  kind := rfl
  nocell := by decide +kernel
  names := by decide +kernel
  frees := by show ∀ z ∈ c_lw.names, z.2 = .free → (defScope sLaw).names.lookup z.1 = some .cell; decide +kernel
  nd := by decide +kernel
  len := rfl
  cap := fun i j h => match i, h with
    | 0, h => by simp at h
    | 1, h => by
      simp at h; subst h
      exact ⟨"found", rfl, rfl, by decide +kernel, rfl, .inl rfl⟩
    | n + 2, h => by simp at h
theorem nd_lw : (["point", "found"] : List Str).Nodup := by decide +kernel
theorem ok_law {f g1 g2 g3 g4 g5 g6 g7 g8 : Addr} {fd d1 d2 d3 d4 d5 d6 d7 d8 : FuncData} (F : Fun K "law" "law" sLaw f fd) (T : Txt mg)
    (N : FnOk P w K mg base CX0 2 g1 d1 ["script", "at", "most"] (spPts K)) (b1 : Binds K d1 ["script", "at", "most"] []) (k1 : PySem.W.keepIn K (.ref g1) = true) (m1 : mg "_law_points" = some (.ref g1))
    (S : FnOk P w K mg base CX0 2 g2 d2 ["script", "at", "points"] (spLSpot K)) (b2 : Binds K d2 ["script", "at", "points"] []) (k2 : PySem.W.keepIn K (.ref g2) = true) (m2 : mg "_law_spot" = some (.ref g2))
    (C : FnOk P w K mg base CX0 1 g3 d3 ["script", "k"] (spCell K)) (b3 : Binds K d3 ["script", "k"] []) (k3 : PySem.W.keepIn K (.ref g3) = true) (m3 : mg "_law_cell_at" = some (.ref g3))
    (R : FnOk P w K mg base CX0 4 g4 d4 ["points", "spot"] (spDepth K)) (b4 : Binds K d4 ["points", "spot"] []) (k4 : PySem.W.keepIn K (.ref g4) = true) (m4 : mg "depth" = some (.ref g4))
    (W : FnOk P w K mg base CX0 1 g5 d5 ["found"] spWhole) (b5 : Binds K d5 ["found"] []) (k5 : PySem.W.keepIn K (.ref g5) = true) (m5 : mg "_law_whole" = some (.ref g5))
    (D : FnOk P w K mg base CX0 1 g6 d6 ["points", "spot"] (spLDepth K)) (b6 : Binds K d6 ["points", "spot"] []) (k6 : PySem.W.keepIn K (.ref g6) = true) (m6 : mg "_law_depth" = some (.ref g6))
    (L : FnOk P w K mg base CX0 2 g7 d7 ["found"] spIsLine) (b7 : Binds K d7 ["found"] []) (k7 : PySem.W.keepIn K (.ref g7) = true) (m7 : mg "_law_is_line" = some (.ref g7))
    (At : FnOk P w K mg base CX0 1 g8 d8 ["line", "point"] (spWorth K)) (b8 : Binds K d8 ["line", "point"] []) (k8 : PySem.W.keepIn K (.ref g8) = true) (m8 : mg "_law_at" = some (.ref g8)) :
    FnOk P w K mg base CX0 5 f fd ["script"] (spLaw K) := by
  refine F.ok scL (fun vs H Q E h => ?_) (fun cdv A outer s H vs Q E hr h => ?_)
  · obtain ⟨a, ns, rfl, _⟩ := h; rfl
  · obtain ⟨a, ns, rfl, hq, hl, k⟩ := h
    have hu : (A.deeper (PyProof.Rows.envOfC "law" (defScope sLaw) s.heap.objs.size f cdv)).units + 16 < cLine := by have := hr.units; omega
    have hr2 : Room 2 _ := hr.mono (by decide)
    have hr1 : Room 1 _ := hr.mono (by decide)
    have REST : ∃ t, PSs (cxOf CX0 P w K mg base n_sLaw "law" (defScope sLaw) f cdv A outer s H E).nox (List.drop 3 (defBody sLaw)) t ∧
        ∀ (H1 : Hp) (r u : Addr) (zs : List V) (ps : List Pt) (t3 : Tri) (v3 : Option V), H1 r = some (.lst zs) → ArePts H1 zs ps → ps.length ≤ 12 → (∀ q ∈ ps, Bd q) → IsTri H1 (.ref u) t3 → SpOk t3 → SpW t3 →
          t { nx := fun _ H' => Q .non H', rt := Q } [some (.ref a), some (.ref r), some (.ref u), v3, none, none, none, none, none] H1 := by
      refine ⟨_, pss_cons (ps_set (i := 4) scL.nd rfl (Or.inl rfl) (pe_callTy call_list_of rfl T.list PyProof.Rows.boot_list (pa_cons (pv 1) pa_nil)))
        (pss_cons (ps_set (i := 5) scL.nd rfl (Or.inr rfl) (pe_call R hr rfl m4 k4 b4 .nil pass0 (pa_cons (pv 4) (pa_cons (pv 2) pa_nil))))
        (pss_cons (ps_if (PW.pt (pw_or (pt_not (pt_val (pe_callB call_isi rfl T.isinstance PyProof.Rows.boot_isinstance (pa_cons (pv 5) (pa_cons (pe_bltn (v := .ty "tuple") rfl T.tuple PyProof.Rows.boot_tuple rfl) pa_nil)))))
            (pw_or (pt_cmpR op_ne (pe_callB call_len_seq rfl T.len PySem.boot_len (pa_cons (pv 5) pa_nil)) pe_int (nomark _))
            (pw_or (pt_not (pt_val (pe_call W hr1 rfl m5 k5 b5 .nil pass0 (pa_cons (pe_ix ix_tup (pv 5) pe_int (fun _ _ => rfl)) pa_nil))))
            (pw_or1 (pt_cmpR (op_nePs hu) (pv 4) (pv 1) (nomark _))))))) (pss_one (ps_ret pe_bl)) pss_nil)
        (pss_cons (ps_if (PW.pt (pw_or (pt_cmpR op_ne (pe_ix ix_tup (pv 5) pe_int (fun _ _ => rfl)) (pe_call D hr1 rfl m6 k6 b6 .nil pass0 (pa_cons (pv 1) (pa_cons (pv 2) pa_nil))) (nomark _))
            (pw_or (pt_not (pt_val (pe_call L hr2 rfl m7 k7 b7 .nil pass0 (pa_cons (pe_ix ix_tup (pv 5) pe_int (fun _ _ => rfl)) pa_nil))))
            (pw_or1 (pt_cmpR (op_eqP hu) (pe_slice sl_tup (pe_ix ix_tup (pv 5) pe_int (fun _ _ => rfl)) po_none (po_some pe_int)) (pe_tup (pa_cons pe_int (pa_cons pe_int pa_nil))) (nomark _)))))) (pss_one (ps_ret pe_bl)) pss_nil)
        (pss_cons (ps_asg (pe_ix ix_tup (pv 5) pe_int (fun _ _ => rfl)) (pg_tup rfl (pgs_cons (pg_name (i := 6) scL.nd rfl (Or.inl rfl)) (pgs_cons (pg_name (i := 7) scL.nd rfl (Or.inl rfl)) (pgs_cons (pg_name (i := 8) scL.nd rfl (Or.inl rfl)) pgs_nil)))))
        (pss_cons (ps_if (pt_cmpR op_lt (pe_op op_add (pe_op op_add (pe_op op_mul (pv 6) (pe_ix ix_tup (pv 2) pe_int (fun _ _ => rfl))) (pe_op op_mul (pv 7) (pe_ix ix_tup (pv 2) pe_int (fun _ _ => rfl)))) (pe_op op_mul (pv 8) (pe_ix ix_tup (pv 2) pe_int (fun _ _ => rfl)))) pe_int (nomark _)) (pss_one (ps_ret pe_bl)) pss_nil)
        (pss_one (ps_ret (pe_cmpR op_eq (pe_callB call_len_seq rfl T.len PySem.boot_len (pa_cons (pe_comp cs_lw rfl (pi_list (pv 1)) (fun _ _ _ _ _ => pg_name (i := 0) nd_lw rfl (Or.inl rfl))
          (fun _ _ _ _ _ => pif_one (pt_cmpR op_ge (pe_call At hr1 rfl m8 k8 b8 .nil pass0 (pa_cons (pe_ix (ixt (K' := K) rfl) (pv 1) pe_int (fun _ _ => rfl)) (pa_cons (pv 0) pa_nil))) pe_int (nomark _))) (fun _ _ _ _ _ => pv 0)) pa_nil)) (pe_ix ix_tup (pv 5) pe_int (fun _ _ => rfl)) (nomark _))))))))), ?_⟩
      intro H1 r u zs ps t3 v3 h1 p1 lp bd hv ok sw
      have lz := p1.length
      refine ⟨_, rfl, r, zs, rfl, .inl (SqL.of h1), fun d nd => ?_⟩
      have s2 := same_upd (o := .lst zs) (Same.refl H1) nd
      have h2 := s2 _ _ h1
      have hd2 : (upd H1 d (.lst zs)) d = some (.lst zs) := upd_same
      generalize (upd H1 d (.lst zs)) = H2 at s2 h2 hd2
      refine ⟨_, rfl, _, rfl, d, zs, ps, .ref u, t3, rfl, SqL.of hd2, p1.same s2, lp, bd, hv.same s2, ok, sw, fun e tl x H3 s3 he ht hx dp => ?_⟩
      have s13 := s2.trans s3
      obtain ⟨tl', hte, htl⟩ := ht
      cases hte
      generalize hm : cnt (ps.map (stepOf t3)) x = m at he dp
      generalize hL : lowM (lineW t3 x) = l at htl
      have p3 := p1.same s13
      have h3 := s3 _ _ h2
      have d3 := s3 _ _ hd2
      have hv3 := hv.same s13
      refine ⟨_, rfl, _, "tuple", "tuple", true, rfl, .inr ⟨rfl, _, SqT.of he⟩, kit_tup_tup, _, rfl, iteF ?_⟩
      refine ⟨_, rfl, e, _, rfl, .inr (SqT.of he), rfl, _, rfl, iteF ?_⟩
      refine ⟨_, rfl, e, _, _, _, rfl, rfl, SqT.of he, atI_nat (j := 0) rfl, _, rfl, ⟨true, rfl, iteF ?_⟩⟩
      refine ⟨_, rfl, _, rfl, d, r, zs, zs, ps, ps, rfl, rfl, SqL.of d3, SqL.of h3, p3, p3, false, (by show V.bl (!decide (ps = ps)) = V.bl false; rw [decide_eq_true rfl]; rfl), iteF ?_⟩
      refine ⟨_, rfl, e, _, _, _, rfl, rfl, SqT.of he, atI_nat (j := 0) rfl, _, rfl, _, rfl, r, zs, ps, .ref u, t3, rfl, SqL.of h3, p3, by omega, bd, hv3, sw, fun b H4 s4 ld => ?_⟩
      have mb : m = b := ld.depth dp
      subst mb
      refine ⟨rfl, false, (by show V.bl (!decide (V.int (m : Int) = V.int (m : Int))) = V.bl false; rw [decide_eq_true rfl]; rfl), iteF ?_⟩
      have he4 := s4 _ _ he
      have ht4 := s4 _ _ htl
      refine ⟨_, rfl, e, _, _, _, rfl, rfl, SqT.of he4, atI_nat (j := 1) rfl, .ref tl, l, rfl, ⟨tl, rfl, ht4⟩, fun H5 s5 => ⟨true, rfl, iteF ?_⟩⟩
      have he5 := s5 _ _ he4
      have ht5 := s5 _ _ ht4
      refine ⟨_, rfl, e, _, _, _, rfl, rfl, SqT.of he5, atI_nat (j := 1) rfl, _, rfl, tl, _, rfl, SqT.of ht5, (by intro z; exact absurd z.2 (by show ¬ (2 = 3); decide)), fun q6 n6 => ?_⟩
      have s6 := same_upd (o := .tup (cutV [.int l.1, .int l.2.1, .int l.2.2] none (some 2))) (Same.refl H5) n6
      refine ⟨(by show 2 ≤ sizeLine; decide), fun q7 n7 => ?_⟩
      have s7 := same_upd (o := .tup [.int 0, .int 0]) (Same.refl (upd H5 q6 (.tup (cutV [.int l.1, .int l.2.1, .int l.2.2] none (some 2))))) n7
      have s67 := s6.trans s7
      refine ⟨(l.1, l.2.1), (0, 0), ⟨q6, rfl, s7 _ _ upd_same⟩, ⟨q7, rfl, upd_same⟩, false, (by show V.bl (decide ((l.1, l.2.1) = ((0, 0) : Pt))) = V.bl false; rw [decide_eq_false (by rw [← hL]; exact line_nz ok.pos hx)]), iteF ?_⟩
      generalize (upd (upd H5 q6 (.tup (cutV [.int l.1, .int l.2.1, .int l.2.2] none (some 2)))) q7 (.tup [.int 0, .int 0])) = H7 at s67
      have he7 := s67 _ _ he5
      have ht7 := s67 _ _ ht5
      have s37 := s4.trans (s5.trans s67)
      have h7 := s37 _ _ h3
      have p7 := p3.same s37
      obtain ⟨u', hue, hu7⟩ := hv3.same s37
      cases hue
      refine ⟨_, rfl, e, _, _, _, rfl, rfl, SqT.of he7, atI_nat (j := 1) rfl, tl, _, rfl, SqT.of ht7, rfl, _, _, rfl, _, _, rfl, _, _, rfl, rfl, ?_⟩
      refine ⟨_, rfl, _, rfl, u, _, _, _, rfl, rfl, SqT.of hu7, atI_nat (j := 0) rfl, _, _, rfl, rfl, mulR _ _ (by have := sw.x.1; omega) (by have := sw.x.2; omega), ?_⟩
      refine ⟨_, rfl, _, rfl, u, _, _, _, rfl, rfl, SqT.of hu7, atI_nat (j := 1) rfl, _, _, rfl, rfl, mulR _ _ (by have := sw.y.1; omega) (by have := sw.y.2; omega), _, _, rfl, rfl, ?_⟩
      refine ⟨_, rfl, _, rfl, u, _, _, _, rfl, rfl, SqT.of hu7, atI_nat (j := 2) rfl, _, _, rfl, rfl, mulR _ _ (by have := sw.d.1; omega) (by have := sw.d.2; omega), _, _, rfl, rfl, ?_⟩
      have z0 : l.1 * t3.1 + l.2.1 * t3.2.1 + l.2.2 * t3.2.2 = 0 := by rw [← hL]; exact line_at ok.pos hx
      refine ⟨_, _, rfl, rfl, false, (by show V.bl (decide (l.1 * t3.1 + l.2.1 * t3.2.1 + l.2.2 * t3.2.2 < 0)) = V.bl false; rw [z0]; rfl), iteF ?_⟩
      refine ⟨_, rfl, r, rfl, ⟨_, SqL.of h7⟩, fun D8 hD => ?_⟩
      refine comp_list (K := K) (a := r) (xs := zs) (fun j σ' H' => ∃ v1 us, σ' = [v1, some (.ref e)] ∧ Same H7 H' ∧ H' D8 = some (.lst us) ∧ us.length = (ps.take j).countP fun p => decide (0 ≤ wrt l p))
        ⟨none, [], rfl, same_upd (Same.refl H7) hD, upd_same, rfl⟩ (fun j σ' H' _ ⟨_, _, _, s8, _⟩ => SqL.of (s8 _ _ h7)) ?_ ?_
      · rintro j y σ' H' hj ⟨v1, us, rfl, s8, h8, l8⟩
        obtain ⟨p, q1, q2⟩ := Pair.get p7 hj
        have le : us.length ≤ 13 := by
          have := List.countP_le_length (p := fun p => decide (0 ≤ wrt l p)) (l := ps.take j)
          rw [List.length_take] at this; omega
        dsimp only [gName]
        refine ⟨_, rfl, e, _, _, _, rfl, rfl, SqT.of (s8 _ _ he7), atI_nat (j := 1) rfl, _, rfl, .ref tl, y, l, p, rfl, ⟨tl, rfl, s8 _ _ ht7⟩, (q2.same s8).k, (bd p (List.mem_of_getElem? q1)).w, _, _, rfl, rfl, decide (0 ≤ wrt l p), rfl, ?_⟩
        have e : (ps.take (j + 1)).countP (fun p => decide (0 ≤ wrt l p)) = us.length + if decide (0 ≤ wrt l p) = true then 1 else 0 := by
          rw [take_snoc q1, List.countP_append, l8]; simp [List.countP_cons]
        by_cases hc : 0 ≤ wrt l p
        · rw [decide_eq_true hc] at e ⊢
          refine iteT ⟨_, rfl, us, h8, small1000 (by omega), _, us ++ [y], rfl, same_upd s8 hD, upd_same, ?_⟩
          rw [e]; simp
        · rw [decide_eq_false hc] at e ⊢
          exact iteF ⟨_, us, rfl, s8, h8, by rw [e]; simp⟩
      · rintro σ' H8 ⟨v1, us, rfl, s8, h8, l8⟩
        rw [List.take_of_length_le (by omega)] at l8
        rw [← hL, count_cnt ok.pos hx, hm] at l8
        refine ⟨D8, us, rfl, .inl (SqL.of h8), _, rfl, e, _, _, _, rfl, rfl, SqT.of (s8 _ _ he7), atI_nat (j := 0) rfl, rfl, ?_⟩
        have : Q (.bl (decide (V.int (us.length : Int) = V.int (m : Int)))) H8 := by rw [l8, decide_eq_true rfl]; exact k H8
        exact this
    obtain ⟨tR, hR, rest⟩ := REST
    refine ⟨_, pss_cons (ps_set (i := 1) scL.nd rfl (Or.inl rfl) (pe_call N hr2 rfl m1 k1 b1 .nil pass0 (pa_cons (pv 0) (pa_cons pe_int (pa_cons pe_int pa_nil)))))
      (pss_cons (ps_set (i := 2) scL.nd rfl (Or.inl rfl) (pe_call S hr2 rfl m2 k2 b2 .nil pass0 (pa_cons (pv 0) (pa_cons pe_int (pa_cons (pv 1) pa_nil)))))
      (pss_cons (ps_if (pt_cmpR op_eq (pe_op op_mod (pe_call C hr1 rfl m3 k3 b3 .nil pass0 (pa_cons (pv 0) (pa_cons pe_int pa_nil))) pe_int) pe_int (nomark _))
        (pss_cons (ps_set (i := 3) scL.nd rfl (Or.inl rfl) (pe_op op_add (pe_ix ix_tup (pv 2) pe_int (fun _ _ => rfl)) (pe_op op_mul (pe_ix ix_tup (pv 2) pe_int (fun _ _ => rfl)) (pe_op op_sub (pe_op op_mod (pe_call C hr1 rfl m3 k3 b3 .nil pass0 (pa_cons (pv 0) (pa_cons pe_int pa_nil))) pe_int) (pe_op op_pow pe_int pe_int)))))
        (pss_one (ps_set (i := 2) scL.nd rfl (Or.inl rfl) (pe_tup (pa_cons (pv 3) (pa_cons (pe_op op_add (pe_ix ix_tup (pv 2) pe_int (fun _ _ => rfl)) (pe_op op_mul (pe_ix ix_tup (pv 2) pe_int (fun _ _ => rfl)) (pe_op op_sub (pe_op op_mod (pe_call C hr1 rfl m3 k3 b3 .nil pass0 (pa_cons (pv 0) (pa_cons pe_int pa_nil))) pe_int) pe_int))) (pa_cons (pe_ix ix_tup (pv 2) pe_int (fun _ _ => rfl)) pa_nil))))))) pss_nil)
      hR)), ?_⟩
    refine ⟨_, rfl, a, ns, 0, 12, rfl, hq, by decide, by decide, by decide, fun r zs ps H1 n1 s1 h1 p1 _ l1 bd => ?_⟩
    have lp : ps.length ≤ 12 := by omega
    have hq1 := s1.seq hq
    refine ⟨_, rfl, _, rfl, a, r, ns, 12, zs, ps, rfl, hq1, by decide, SqL.of h1, p1, bd, fun u t H2 nu s2 ht ok nr => ?_⟩
    have hq2 := s2.seq hq1
    have h2 := s2 _ _ h1
    have p2 := p1.same s2
    obtain ⟨nx, ny, nd1, nd2⟩ := nr
    refine ⟨_, rfl, a, ns, 17, rfl, hq2, by decide, fun z1 _ => ⟨_, _, rfl, rfl, (by show (0 : Int) < 8; decide), rfl, decide (z1 % 8 = 1), (by show V.bl (decide (V.int (z1 % 8) = V.int 1)) = _; by_cases z : z1 % 8 = 1 <;> simp [z]), ?_⟩⟩
    by_cases c : z1 % 8 = 1
    · rw [decide_eq_true c]
      obtain ⟨u', hue, hu2⟩ := ht
      cases hue
      refine iteT ⟨_, rfl, u, _, _, _, rfl, rfl, SqT.of hu2, atI_nat (j := 0) rfl, _, rfl, u, _, _, _, rfl, rfl, SqT.of hu2, atI_nat (j := 2) rfl, _, rfl, a, ns, 18, rfl, hq2, by decide, fun z2 _ => ⟨_, _, rfl, rfl, (by show (0 : Int) < 2000000001; decide), _, _, rfl, rfl, ⟨by decide, by decide, by decide⟩, _, _, rfl, rfl, _, _, rfl, rfl, mulL _ _ (by omega) (by omega), _, _, rfl, rfl, ?_⟩⟩
      refine ⟨_, rfl, _, rfl, u, _, _, _, rfl, rfl, SqT.of hu2, atI_nat (j := 1) rfl, _, rfl, u, _, _, _, rfl, rfl, SqT.of hu2, atI_nat (j := 2) rfl, _, rfl, a, ns, 19, rfl, hq2, by decide, fun z3 _ => ⟨_, _, rfl, rfl, (by show (0 : Int) < 20001; decide), _, _, rfl, rfl, _, _, rfl, rfl, mulL _ _ (by omega) (by omega), _, _, rfl, rfl, _, rfl, u, _, _, _, rfl, rfl, SqT.of hu2, atI_nat (j := 2) rfl, ?_⟩⟩
      refine ⟨(by show 3 ≤ sizeLine; decide), fun u3 nu3 => ?_⟩
      have s3 := same_upd (o := .tup [.int (t.1 + t.2.2 * (z2 % 2000000001 - 1000000000)), .int (t.2.1 + t.2.2 * (z3 % 20001 - 10000)), .int t.2.2]) (Same.refl H2) nu3
      have w1 := mul_box (a := z2 % 2000000001 - 1000000000) (b := t.2.2) (m := 1000000000) (n := 4) (by omega) (by omega) (by omega) nd2
      have w2 := mul_box (a := z3 % 20001 - 10000) (b := t.2.2) (m := 10000) (n := 4) (by omega) (by omega) (by omega) nd2
      rw [Int.mul_comm (z2 % 2000000001 - 1000000000)] at w1
      rw [Int.mul_comm (z3 % 20001 - 10000)] at w2
      exact rest _ r u3 zs ps (t.1 + t.2.2 * (z2 % 2000000001 - 1000000000), t.2.1 + t.2.2 * (z3 % 20001 - 10000), t.2.2) _ (s3 _ _ h2) (p2.same s3) lp bd ⟨u3, rfl, upd_same⟩
        ⟨ok.pos, gcd3_shift ok.low _ _⟩ ⟨by dsimp only; omega, by dsimp only; omega, by dsimp only; omega⟩
    · rw [decide_eq_false c]
      exact iteF (rest H2 r u zs ps t none h2 p2 lp bd ht ok ⟨by omega, by omega, by omega⟩)
end
end Toy
set_option maxRecDepth 100000
namespace Toy
open PySem L2 Geo
set_option maxHeartbeats 0 in
theorem all_mk {l : PySem.W.OpenLaw} {w : World} {K : PySem.W.Frag} {h : Heap} {mg : Str → Option Value} {fa f1 f2 f3 f4 f5 f6 f7 f8 f9 f10 f11 f12 f13 f14 f15 f16 f17 f18 f19 f20 f21 f22 : Addr} (X : K.In h) (G : h.Ns mainGlobals mg) (hfa : mg "law" = some (.ref fa))
    {od1 an1 od2 an2 od3 an3 od4 an4 od5 an5 od6 an6 od7 an7 od8 an8 od9 an9 od10 an10 od11 an11 od12 an12 od13 an13 od14 an14 od15 an15 od16 an16 od17 an17 od18 an18 od19 an19 od20 an20 od21 an21 od22 an22 : Option Addr} {sl1 sl2 sl3 sl4 sl5 sl6 sl7 sl8 sl9 sl10 sl11 sl12 sl13 sl14 sl15 sl16 sl17 sl18 sl19 sl20 sl21 sl22 : Array (Option Value)} {oc1 kV1 dc1 pm1 cd1 ct1 oc2 kV2 dc2 pm2 cd2 ct2 oc3 kV3 dc3 pm3 cd3 ct3 oc4 kV4 dc4 pm4 cd4 ct4 oc5 kV5 dc5 pm5 cd5 ct5 oc6 kV6 dc6 pm6 cd6 ct6 oc7 kV7 dc7 pm7 cd7 ct7 oc8 kV8 dc8 pm8 cd8 ct8 oc9 kV9 dc9 pm9 cd9 ct9 oc10 kV10 dc10 pm10 cd10 ct10 oc11 kV11 dc11 pm11 cd11 ct11 oc12 kV12 dc12 pm12 cd12 ct12 oc13 kV13 dc13 pm13 cd13 ct13 oc14 kV14 dc14 pm14 cd14 ct14 oc15 kV15 dc15 pm15 cd15 ct15 oc16 kV16 dc16 pm16 cd16 ct16 oc17 kV17 dc17 pm17 cd17 ct17 oc18 kV18 dc18 pm18 cd18 ct18 oc19 kV19 dc19 pm19 cd19 ct19 oc20 kV20 dc20 pm20 cd20 ct20 oc21 kV21 dc21 pm21 cd21 ct21 oc22 kV22 dc22 pm22 cd22 ct22 : Value} {tk1 tk2 : Tok}
    (a1 : PySem.W.nsIn K mainGlobals "check_point" = some (some (.ref f1))) (l1 : K.lookup f1 = some ⟨oc1, od1, .func (PySem.W.fnOf "check_point" "check_point" (defArgs sChk) (defBody sChk) (defScope sChk) .none kV1 dc1 pm1 an1 cd1 ct1), sl1⟩) (c1 : PySem.W.codeIn K cd1 "check_point" = true) (k1 : PySem.W.keepIn K (.ref f1) = true)
    (a2 : PySem.W.nsIn K mainGlobals "check_points" = some (some (.ref f2))) (l2 : K.lookup f2 = some ⟨oc2, od2, .func (PySem.W.fnOf "check_points" "check_points" (defArgs sChks) (defBody sChks) (defScope sChks) .none kV2 dc2 pm2 an2 cd2 ct2), sl2⟩) (c2 : PySem.W.codeIn K cd2 "check_points" = true) (k2 : PySem.W.keepIn K (.ref f2) = true)
    (a3 : PySem.W.nsIn K mainGlobals "check_spot" = some (some (.ref f3))) (l3 : K.lookup f3 = some ⟨oc3, od3, .func (PySem.W.fnOf "check_spot" "check_spot" (defArgs sCkSpot) (defBody sCkSpot) (defScope sCkSpot) .none kV3 dc3 pm3 an3 cd3 ct3), sl3⟩) (c3 : PySem.W.codeIn K cd3 "check_spot" = true) (k3 : PySem.W.keepIn K (.ref f3) = true)
    (a4 : PySem.W.nsIn K mainGlobals "worth" = some (some (.ref f4))) (l4 : K.lookup f4 = some ⟨oc4, od4, .func (PySem.W.fnOf "worth" "worth" (defArgs sWorth) (defBody sWorth) (defScope sWorth) .none kV4 dc4 pm4 an4 cd4 ct4), sl4⟩) (c4 : PySem.W.codeIn K cd4 "worth" = true) (k4 : PySem.W.keepIn K (.ref f4) = true)
    (a5 : PySem.W.nsIn K mainGlobals "greatest_divisor" = some (some (.ref f5))) (l5 : K.lookup f5 = some ⟨oc5, od5, .func (PySem.W.fnOf "greatest_divisor" "greatest_divisor" (defArgs sGcd) (defBody sGcd) (defScope sGcd) .none kV5 dc5 pm5 an5 cd5 ct5), sl5⟩) (c5 : PySem.W.codeIn K cd5 "greatest_divisor" = true) (k5 : PySem.W.keepIn K (.ref f5) = true)
    (a6 : PySem.W.nsIn K mainGlobals "lowest" = some (some (.ref f6))) (l6 : K.lookup f6 = some ⟨oc6, od6, .func (PySem.W.fnOf "lowest" "lowest" (defArgs sLowest) (defBody sLowest) (defScope sLowest) .none kV6 dc6 pm6 an6 cd6 ct6), sl6⟩) (c6 : PySem.W.codeIn K cd6 "lowest" = true) (k6 : PySem.W.keepIn K (.ref f6) = true)
    (a7 : PySem.W.nsIn K mainGlobals "depth" = some (some (.ref f7))) (l7 : K.lookup f7 = some ⟨oc7, od7, .func (PySem.W.fnOf "depth" "depth" (defArgs sDepth) (defBody sDepth) (defScope sDepth) .none kV7 dc7 pm7 an7 cd7 ct7), sl7⟩) (c7 : PySem.W.codeIn K cd7 "depth" = true) (k7 : PySem.W.keepIn K (.ref f7) = true)
    (a8 : PySem.W.nsIn K mainGlobals "line_through" = some (some (.ref f8))) (l8 : K.lookup f8 = some ⟨oc8, od8, .func (PySem.W.fnOf "line_through" "line_through" (defArgs sThru) (defBody sThru) (defScope sThru) .none kV8 dc8 pm8 an8 cd8 ct8), sl8⟩) (c8 : PySem.W.codeIn K cd8 "line_through" = true) (k8 : PySem.W.keepIn K (.ref f8) = true)
    (a9 : PySem.W.nsIn K mainGlobals "count_along" = some (some (.ref f9))) (l9 : K.lookup f9 = some ⟨oc9, od9, .func (PySem.W.fnOf "count_along" "count_along" (defArgs sCnt) (defBody sCnt) (defScope sCnt) .none kV9 dc9 pm9 an9 cd9 ct9), sl9⟩) (c9 : PySem.W.codeIn K cd9 "count_along" = true) (k9 : PySem.W.keepIn K (.ref f9) = true)
    (a10 : PySem.W.nsIn K mainGlobals "ways_to_try" = some (some (.ref f10))) (l10 : K.lookup f10 = some ⟨oc10, od10, .func (PySem.W.fnOf "ways_to_try" "ways_to_try" (defArgs sWays) (defBody sWays) (defScope sWays) .none kV10 dc10 pm10 an10 cd10 ct10), sl10⟩) (c10 : PySem.W.codeIn K cd10 "ways_to_try" = true) (k10 : PySem.W.keepIn K (.ref f10) = true)
    (a11 : PySem.W.nsIn K mainGlobals "step_to" = some (some (.ref f11))) (l11 : K.lookup f11 = some ⟨oc11, od11, .func (PySem.W.fnOf "step_to" "step_to" (defArgs sStep) (defBody sStep) (defScope sStep) .none kV11 dc11 pm11 an11 cd11 ct11), sl11⟩) (c11 : PySem.W.codeIn K cd11 "step_to" = true) (k11 : PySem.W.keepIn K (.ref f11) = true)
    (a12 : PySem.W.nsIn K mainGlobals "pair_sums" = some (some (.ref f12))) (l12 : K.lookup f12 = some ⟨oc12, od12, .func (PySem.W.fnOf "pair_sums" "pair_sums" (defArgs sPairs) (defBody sPairs) (defScope sPairs) .none kV12 dc12 pm12 an12 cd12 ct12), sl12⟩) (c12 : PySem.W.codeIn K cd12 "pair_sums" = true) (k12 : PySem.W.keepIn K (.ref f12) = true)
    (a13 : PySem.W.nsIn K mainGlobals "_law_cell_at" = some (some (.ref f13))) (l13 : K.lookup f13 = some ⟨oc13, od13, .func (PySem.W.fnOf "_law_cell_at" "_law_cell_at" (defArgs sCell) (defBody sCell) (defScope sCell) .none kV13 dc13 pm13 an13 cd13 ct13), sl13⟩) (c13 : PySem.W.codeIn K cd13 "_law_cell_at" = true) (k13 : PySem.W.keepIn K (.ref f13) = true)
    (a14 : PySem.W.nsIn K mainGlobals "_law_whole" = some (some (.ref f14))) (l14 : K.lookup f14 = some ⟨oc14, od14, .func (PySem.W.fnOf "_law_whole" "_law_whole" (defArgs sWhole) (defBody sWhole) (defScope sWhole) .none kV14 dc14 pm14 an14 cd14 ct14), sl14⟩) (c14 : PySem.W.codeIn K cd14 "_law_whole" = true) (k14 : PySem.W.keepIn K (.ref f14) = true)
    (a15 : PySem.W.nsIn K mainGlobals "_law_next" = some (some (.ref f15))) (l15 : K.lookup f15 = some ⟨oc15, od15, .func (PySem.W.fnOf "_law_next" "_law_next" (defArgs sNext) (defBody sNext) (defScope sNext) .none kV15 dc15 pm15 an15 cd15 ct15), sl15⟩) (c15 : PySem.W.codeIn K cd15 "_law_next" = true) (k15 : PySem.W.keepIn K (.ref f15) = true)
    (a16 : PySem.W.nsIn K mainGlobals "_law_points" = some (some (.ref f16))) (l16 : K.lookup f16 = some ⟨oc16, od16, .func (PySem.W.fnOf "_law_points" "_law_points" (defArgs sPts) (defBody sPts) (defScope sPts) .none kV16 dc16 pm16 an16 cd16 ct16), sl16⟩) (c16 : PySem.W.codeIn K cd16 "_law_points" = true) (k16 : PySem.W.keepIn K (.ref f16) = true)
    (a17 : PySem.W.nsIn K mainGlobals "_law_common" = some (some (.ref f17))) (l17 : K.lookup f17 = some ⟨oc17, od17, .func (PySem.W.fnOf "_law_common" "_law_common" (defArgs sCommon) (defBody sCommon) (defScope sCommon) .none kV17 dc17 pm17 an17 cd17 ct17), sl17⟩) (c17 : PySem.W.codeIn K cd17 "_law_common" = true) (k17 : PySem.W.keepIn K (.ref f17) = true)
    (a18 : PySem.W.nsIn K mainGlobals "_law_is_line" = some (some (.ref f18))) (l18 : K.lookup f18 = some ⟨oc18, od18, .func (PySem.W.fnOf "_law_is_line" "_law_is_line" (defArgs sIsLine) (defBody sIsLine) (defScope sIsLine) .none kV18 dc18 pm18 an18 cd18 ct18), sl18⟩) (c18 : PySem.W.codeIn K cd18 "_law_is_line" = true) (k18 : PySem.W.keepIn K (.ref f18) = true)
    (a19 : PySem.W.nsIn K mainGlobals "_law_at" = some (some (.ref f19))) (l19 : K.lookup f19 = some ⟨oc19, od19, .func (PySem.W.fnOf "_law_at" "_law_at" (defArgs sAt) (defBody sAt) (defScope sAt) .none kV19 dc19 pm19 an19 cd19 ct19), sl19⟩) (c19 : PySem.W.codeIn K cd19 "_law_at" = true) (k19 : PySem.W.keepIn K (.ref f19) = true)
    (a20 : PySem.W.nsIn K mainGlobals "_law_depth" = some (some (.ref f20))) (l20 : K.lookup f20 = some ⟨oc20, od20, .func (PySem.W.fnOf "_law_depth" "_law_depth" (defArgs sLDepth) (defBody sLDepth) (defScope sLDepth) .none kV20 dc20 pm20 an20 cd20 ct20), sl20⟩) (c20 : PySem.W.codeIn K cd20 "_law_depth" = true) (k20 : PySem.W.keepIn K (.ref f20) = true)
    (a21 : PySem.W.nsIn K mainGlobals "_law_spot" = some (some (.ref f21))) (l21 : K.lookup f21 = some ⟨oc21, od21, .func (PySem.W.fnOf "_law_spot" "_law_spot" (defArgs sLSpot) (defBody sLSpot) (defScope sLSpot) .none kV21 dc21 pm21 an21 cd21 ct21), sl21⟩) (c21 : PySem.W.codeIn K cd21 "_law_spot" = true) (k21 : PySem.W.keepIn K (.ref f21) = true)
    (a22 : PySem.W.nsIn K mainGlobals "law" = some (some (.ref f22))) (l22 : K.lookup f22 = some ⟨oc22, od22, .func (PySem.W.fnOf "law" "law" (defArgs sLaw) (defBody sLaw) (defScope sLaw) .none kV22 dc22 pm22 an22 cd22 ct22), sl22⟩) (c22 : PySem.W.codeIn K cd22 "law" = true) (k22 : PySem.W.keepIn K (.ref f22) = true)
    (y1 : PySem.W.nsIn K mainGlobals "FARTHEST" = some (some (.int 1000 tk1)))
    (y2 : PySem.W.nsIn K mainGlobals "MOST_POINTS" = some (some (.int 12 tk2)))
    (z1 : PySem.W.nsIn K mainGlobals "len" = some none)    (z2 : PySem.W.nsIn K mainGlobals "abs" = some none)    (z3 : PySem.W.nsIn K mainGlobals "sorted" = some none)    (z4 : PySem.W.nsIn K mainGlobals "set" = some none)    (z5 : PySem.W.nsIn K mainGlobals "list" = some none)    (z6 : PySem.W.nsIn K mainGlobals "reversed" = some none)    (z7 : PySem.W.nsIn K mainGlobals "range" = some none)    (z8 : PySem.W.nsIn K mainGlobals "isinstance" = some none)    (z9 : PySem.W.nsIn K mainGlobals "int" = some none)    (z10 : PySem.W.nsIn K mainGlobals "bool" = some none)    (z11 : PySem.W.nsIn K mainGlobals "tuple" = some none)    (z12 : PySem.W.nsIn K mainGlobals "min" = some none)    (z13 : PySem.W.nsIn K mainGlobals "max" = some none)    (z14 : PySem.W.nsIn K mainGlobals "all" = some none)    (z15 : PySem.W.nsIn K mainGlobals "sum" = some none)    (z16 : PySem.W.nsIn K mainGlobals "zip" = some none)    (z17 : PySem.W.nsIn K mainGlobals "any" = some none)    (z18 : PySem.W.nsIn K mainGlobals "str" = some none)    (z19 : PySem.W.nsIn K mainGlobals "enumerate" = some none)    (z20 : PySem.W.nsIn K mainGlobals "ValueError" = some none) :
    ∃ fd : FuncData, (∀ (s : Shared) (v : Value), BindsTo s fd ⟨[v], []⟩ [("script", v)]) ∧ ∀ base : Heap, K.In base → base.Ns mainGlobals mg → FnOk l.prog w K mg base CX0 5 fa fd ["script"] (spLaw K) := by
  have e := hfa.symm.trans (PySem.W.mg_of X G a22)
  cases e
  have T : Txt mg := { len := PySem.W.mg_none_of X G z1, abs := PySem.W.mg_none_of X G z2, sorted := PySem.W.mg_none_of X G z3, set := PySem.W.mg_none_of X G z4, list := PySem.W.mg_none_of X G z5, reversed := PySem.W.mg_none_of X G z6, range := PySem.W.mg_none_of X G z7, isinstance := PySem.W.mg_none_of X G z8, int := PySem.W.mg_none_of X G z9, bool := PySem.W.mg_none_of X G z10, tuple := PySem.W.mg_none_of X G z11, min := PySem.W.mg_none_of X G z12, max := PySem.W.mg_none_of X G z13, all := PySem.W.mg_none_of X G z14, sum := PySem.W.mg_none_of X G z15, zip := PySem.W.mg_none_of X G z16, any := PySem.W.mg_none_of X G z17, str := PySem.W.mg_none_of X G z18, enumerate := PySem.W.mg_none_of X G z19, valueError := PySem.W.mg_none_of X G z20, far := ⟨_, PySem.W.mg_of X G y1⟩, most := ⟨_, PySem.W.mg_of X G y2⟩ }
  have F1 := fun_mk (st := sChk) l1 c1 k1
  have b1 := F1.binds (ps := ["point"]) fun _ _ _ _ _ _ us hl => match us, hl with | [_], _ => rfl
  have m1 := PySem.W.mg_of X G a1
  have F2 := fun_mk (st := sChks) l2 c2 k2
  have b2 := F2.binds (ps := ["points"]) fun _ _ _ _ _ _ us hl => match us, hl with | [_], _ => rfl
  have m2 := PySem.W.mg_of X G a2
  have F3 := fun_mk (st := sCkSpot) l3 c3 k3
  have b3 := F3.binds (ps := ["spot"]) fun _ _ _ _ _ _ us hl => match us, hl with | [_], _ => rfl
  have m3 := PySem.W.mg_of X G a3
  have F4 := fun_mk (st := sWorth) l4 c4 k4
  have b4 := F4.binds (ps := ["line", "point"]) fun _ _ _ _ _ _ us hl => match us, hl with | [_, _], _ => rfl
  have m4 := PySem.W.mg_of X G a4
  have F5 := fun_mk (st := sGcd) l5 c5 k5
  have b5 := F5.binds (ps := ["one", "other"]) fun _ _ _ _ _ _ us hl => match us, hl with | [_, _], _ => rfl
  have m5 := PySem.W.mg_of X G a5
  have F6 := fun_mk (st := sLowest) l6 c6 k6
  have b6 := F6.binds (ps := ["three"]) fun _ _ _ _ _ _ us hl => match us, hl with | [_], _ => rfl
  have m6 := PySem.W.mg_of X G a6
  have F7 := fun_mk (st := sDepth) l7 c7 k7
  have b7 := F7.binds (ps := ["points", "spot"]) fun _ _ _ _ _ _ us hl => match us, hl with | [_, _], _ => rfl
  have m7 := PySem.W.mg_of X G a7
  have F8 := fun_mk (st := sThru) l8 c8 k8
  have b8 := F8.binds (ps := ["spot", "way"]) fun _ _ _ _ _ _ us hl => match us, hl with | [_, _], _ => rfl
  have m8 := PySem.W.mg_of X G a8
  have F9 := fun_mk (st := sCnt) l9 c9 k9
  have b9 := F9.binds (ps := ["points", "line"]) fun _ _ _ _ _ _ us hl => match us, hl with | [_, _], _ => rfl
  have m9 := PySem.W.mg_of X G a9
  have F10 := fun_mk (st := sWays) l10 c10 k10
  have b10 := F10.binds (ps := ["points", "spot"]) fun _ _ _ _ _ _ us hl => match us, hl with | [_, _], _ => rfl
  have m10 := PySem.W.mg_of X G a10
  have F11 := fun_mk (st := sStep) l11 c11 k11
  have b11 := F11.binds (ps := ["point", "spot"]) fun _ _ _ _ _ _ us hl => match us, hl with | [_, _], _ => rfl
  have m11 := PySem.W.mg_of X G a11
  have F12 := fun_mk (st := sPairs) l12 c12 k12
  have b12 := F12.binds (ps := ["steps"]) fun _ _ _ _ _ _ us hl => match us, hl with | [_], _ => rfl
  have m12 := PySem.W.mg_of X G a12
  have F13 := fun_mk (st := sCell) l13 c13 k13
  have b13 := F13.binds (ps := ["script", "k"]) fun _ _ _ _ _ _ us hl => match us, hl with | [_, _], _ => rfl
  have m13 := PySem.W.mg_of X G a13
  have F14 := fun_mk (st := sWhole) l14 c14 k14
  have b14 := F14.binds (ps := ["found"]) fun _ _ _ _ _ _ us hl => match us, hl with | [_], _ => rfl
  have m14 := PySem.W.mg_of X G a14
  have F15 := fun_mk (st := sNext) l15 c15 k15
  have b15 := F15.binds (ps := ["seed"]) fun _ _ _ _ _ _ us hl => match us, hl with | [_], _ => rfl
  have m15 := PySem.W.mg_of X G a15
  have F16 := fun_mk (st := sPts) l16 c16 k16
  have b16 := F16.binds (ps := ["script", "at", "most"]) fun _ _ _ _ _ _ us hl => match us, hl with | [_, _, _], _ => rfl
  have m16 := PySem.W.mg_of X G a16
  have F17 := fun_mk (st := sCommon) l17 c17 k17
  have b17 := F17.binds (ps := ["one", "other"]) fun _ _ _ _ _ _ us hl => match us, hl with | [_, _], _ => rfl
  have m17 := PySem.W.mg_of X G a17
  have F18 := fun_mk (st := sIsLine) l18 c18 k18
  have b18 := F18.binds (ps := ["found"]) fun _ _ _ _ _ _ us hl => match us, hl with | [_], _ => rfl
  have m18 := PySem.W.mg_of X G a18
  have F19 := fun_mk (st := sAt) l19 c19 k19
  have b19 := F19.binds (ps := ["line", "point"]) fun _ _ _ _ _ _ us hl => match us, hl with | [_, _], _ => rfl
  have m19 := PySem.W.mg_of X G a19
  have F20 := fun_mk (st := sLDepth) l20 c20 k20
  have b20 := F20.binds (ps := ["points", "spot"]) fun _ _ _ _ _ _ us hl => match us, hl with | [_, _], _ => rfl
  have m20 := PySem.W.mg_of X G a20
  have F21 := fun_mk (st := sLSpot) l21 c21 k21
  have b21 := F21.binds (ps := ["script", "at", "points"]) fun _ _ _ _ _ _ us hl => match us, hl with | [_, _, _], _ => rfl
  have m21 := PySem.W.mg_of X G a21
  have F22 := fun_mk (st := sLaw) l22 c22 k22
  have b22 := F22.binds (ps := ["script"]) fun _ _ _ _ _ _ us hl => match us, hl with | [_], _ => rfl
  have m22 := PySem.W.mg_of X G a22
  refine ⟨PySem.W.fnOf "law" "law" (defArgs sLaw) (defBody sLaw) (defScope sLaw) .none kV22 dc22 pm22 an22 cd22 ct22, fun s v => .of_eq rfl, fun base _ _ => ?_⟩
  have O13 : FnOk l.prog w K mg base CX0 1 f13 _ _ _ := ok_cell F13 T
  have O15 : FnOk l.prog w K mg base CX0 1 f15 _ _ _ := ok_next F15
  have O16 : FnOk l.prog w K mg base CX0 2 f16 _ _ _ := ok_pts F16 T O13 b13 k13 m13 O15 b15 k15 m15
  have O17 : FnOk l.prog w K mg base CX0 1 f17 _ _ _ := ok_common F17
  have O21 : FnOk l.prog w K mg base CX0 2 f21 _ _ _ := ok_lspot F21 T O13 b13 k13 m13 O17 b17 k17 m17
  have O1 : FnOk l.prog w K mg base CX0 1 f1 _ _ _ := ok_chk F1 T
  have O2 : FnOk l.prog w K mg base CX0 2 f2 _ _ _ := ok_chks F2 T O1 b1 k1 m1
  have O5 : FnOk l.prog w K mg base CX0 1 f5 _ _ _ := ok_gcd F5
  have O6 : FnOk l.prog w K mg base CX0 2 f6 _ _ _ := ok_lowest F6 T O5 b5 k5 m5
  have O3 : FnOk l.prog w K mg base CX0 3 f3 _ _ _ := ok_ckspot F3 T O6 b6 k6 m6
  have O8 : FnOk l.prog w K mg base CX0 3 f8 _ _ _ := ok_thru F8 O6 b6 k6 m6
  have O11 : FnOk l.prog w K mg base CX0 1 f11 _ _ _ := ok_step F11
  have O12 : FnOk l.prog w K mg base CX0 1 f12 _ _ _ := ok_pairs F12 T
  have O10 : FnOk l.prog w K mg base CX0 2 f10 _ _ _ := ok_ways F10 O11 b11 k11 m11 O12 b12 k12 m12
  have O4 : FnOk l.prog w K mg base CX0 1 f4 _ _ _ := ok_worth F4
  have O9 : FnOk l.prog w K mg base CX0 2 f9 _ _ _ := ok_cnt F9 T O4 b4 k4 m4
  have O7 : FnOk l.prog w K mg base CX0 4 f7 _ _ _ := ok_depth F7 T O2 b2 k2 m2 O3 b3 k3 m3 O8 b8 k8 m8 O10 b10 k10 m10 O9 b9 k9 m9
  have O14 : FnOk l.prog w K mg base CX0 1 f14 _ _ _ := ok_whole F14 T
  have O20 : FnOk l.prog w K mg base CX0 1 f20 _ _ _ := ok_ldepth F20 T
  have O18 : FnOk l.prog w K mg base CX0 2 f18 _ _ _ := ok_isline F18 T O14 b14 k14 m14
  have O19 : FnOk l.prog w K mg base CX0 1 f19 _ _ _ := ok_at F19
  exact ok_law F22 T O16 b16 k16 m16 O21 b21 k21 m21 O13 b13 k13 m13 O7 b7 k7 m7 O14 b14 k14 m14 O20 b20 k20 m20 O18 b18 k18 m18 O19 b19 k19 m19
theorem walk {l : PySem.W.OpenLaw} {q : Program} {loose : List Str} {XP : (Str → Option Value) → Heap → Prop} {YP : World → Heap → Prop} {d : DefRec} {K : Params → PySem.W.Frag} (hn : l.most = some 63) (hdf : d.params.defaults = [])
    (hY : ∀ (w : World) (h : Heap), YP w h → (K w.params).In h)
    (F : ∀ (w : World) (mg : Str → Option Value) (fa : Addr) (h : Heap), (K w.params).In h → h.Ns mainGlobals mg → mg d.name = some (.ref fa) →
      ∃ fd : FuncData, (∀ (s : Shared) (u : Value), BindsTo s fd ⟨[u], []⟩ [("script", u)]) ∧ ∀ base : Heap, (K w.params).In base → base.Ns mainGlobals mg → FnOk l.prog w (K w.params) mg base CX0 5 fa fd ["script"] (spLaw (K w.params))) :
    PySem.W.WalkO q loose XP YP l.row.toRowW d [] (fun f vs => PySem.call f vs) :=
  L2.walk_of (n := 63) (k := 5) (x := "script") (CX := fun _ => CX0) (sp := fun w => spLaw (K w.params)) hn (by decide) hdf ⟨rfl, by decide, by decide⟩ hY F (fun _ _ a ns hl _ hS => ⟨a, ns, rfl, hS, hl, fun _ => rfl⟩) fun _ _ _ _ _ z => z
end Toy
open PySem PySem.W PyProof.Rows
set_option maxRecDepth 100000 in
set_option maxHeartbeats 0 in
theorem PySem.Challenge.cw_hullpart_k08_whole_depth_holds : PySem.Challenge.rw_hullpart_k08_whole_depth.Holds := by
  w_on; o_law; k_head; (case hw => w_witness2)
  k_fill
  refine Toy.walk (l := PySem.Challenge.rw_hullpart_k08_whole_depth) rfl rfl (fun w h Y => PySem.W.kIn_of Y) ?F
  case F =>
    intro w mg fa h KX G hmg
    refine' Toy.all_mk KX G hmg ?a1 ?l1 ?c1 ?k1 ?a2 ?l2 ?c2 ?k2 ?a3 ?l3 ?c3 ?k3 ?a4 ?l4 ?c4 ?k4 ?a5 ?l5 ?c5 ?k5 ?a6 ?l6 ?c6 ?k6 ?a7 ?l7 ?c7 ?k7 ?a8 ?l8 ?c8 ?k8 ?a9 ?l9 ?c9 ?k9 ?a10 ?l10 ?c10 ?k10 ?a11 ?l11 ?c11 ?k11 ?a12 ?l12 ?c12 ?k12 ?a13 ?l13 ?c13 ?k13 ?a14 ?l14 ?c14 ?k14 ?a15 ?l15 ?c15 ?k15 ?a16 ?l16 ?c16 ?k16 ?a17 ?l17 ?c17 ?k17 ?a18 ?l18 ?c18 ?k18 ?a19 ?l19 ?c19 ?k19 ?a20 ?l20 ?c20 ?k20 ?a21 ?l21 ?c21 ?k21 ?a22 ?l22 ?c22 ?k22 ?y1 ?y2 ?z1 ?z2 ?z3 ?z4 ?z5 ?z6 ?z7 ?z8 ?z9 ?z10 ?z11 ?z12 ?z13 ?z14 ?z15 ?z16 ?z17 ?z18 ?z19 ?z20
    (case a1 => k_is)
    (case l1 => k_is)
    (case c1 => k_is)
    (case k1 => k_is)
    (case a2 => k_is)
    (case l2 => k_is)
    (case c2 => k_is)
    (case k2 => k_is)
    (case a3 => k_is)
    (case l3 => k_is)
    (case c3 => k_is)
    (case k3 => k_is)
    (case a4 => k_is)
    (case l4 => k_is)
    (case c4 => k_is)
    (case k4 => k_is)
    (case a5 => k_is)
    (case l5 => k_is)
    (case c5 => k_is)
    (case k5 => k_is)
    (case a6 => k_is)
    (case l6 => k_is)
    (case c6 => k_is)
    (case k6 => k_is)
    (case a7 => k_is)
    (case l7 => k_is)
    (case c7 => k_is)
    (case k7 => k_is)
    (case a8 => k_is)
    (case l8 => k_is)
    (case c8 => k_is)
    (case k8 => k_is)
    (case a9 => k_is)
    (case l9 => k_is)
    (case c9 => k_is)
    (case k9 => k_is)
    (case a10 => k_is)
    (case l10 => k_is)
    (case c10 => k_is)
    (case k10 => k_is)
    (case a11 => k_is)
    (case l11 => k_is)
    (case c11 => k_is)
    (case k11 => k_is)
    (case a12 => k_is)
    (case l12 => k_is)
    (case c12 => k_is)
    (case k12 => k_is)
    (case a13 => k_is)
    (case l13 => k_is)
    (case c13 => k_is)
    (case k13 => k_is)
    (case a14 => k_is)
    (case l14 => k_is)
    (case c14 => k_is)
    (case k14 => k_is)
    (case a15 => k_is)
    (case l15 => k_is)
    (case c15 => k_is)
    (case k15 => k_is)
    (case a16 => k_is)
    (case l16 => k_is)
    (case c16 => k_is)
    (case k16 => k_is)
    (case a17 => k_is)
    (case l17 => k_is)
    (case c17 => k_is)
    (case k17 => k_is)
    (case a18 => k_is)
    (case l18 => k_is)
    (case c18 => k_is)
    (case k18 => k_is)
    (case a19 => k_is)
    (case l19 => k_is)
    (case c19 => k_is)
    (case k19 => k_is)
    (case a20 => k_is)
    (case l20 => k_is)
    (case c20 => k_is)
    (case k20 => k_is)
    (case a21 => k_is)
    (case l21 => k_is)
    (case c21 => k_is)
    (case k21 => k_is)
    (case a22 => k_is)
    (case l22 => k_is)
    (case c22 => k_is)
    (case k22 => k_is)
    (case y1 => k_is)
    (case y2 => k_is)
    (case z1 => k_is)
    (case z2 => k_is)
    (case z3 => k_is)
    (case z4 => k_is)
    (case z5 => k_is)
    (case z6 => k_is)
    (case z7 => k_is)
    (case z8 => k_is)
    (case z9 => k_is)
    (case z10 => k_is)
    (case z11 => k_is)
    (case z12 => k_is)
    (case z13 => k_is)
    (case z14 => k_is)
    (case z15 => k_is)
    (case z16 => k_is)
    (case z17 => k_is)
    (case z18 => k_is)
    (case z19 => k_is)
    (case z20 => k_is)
