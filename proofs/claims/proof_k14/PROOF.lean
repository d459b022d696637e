import PyProof.Rows.All
import Wide.All
import OpenK.AllK
import Wide.FinOn
import Lean
import PyProof.EqAt
import PyProof.EqKinds
import PyProof.TupleCall
import PySem.SetTable
import PyProof.TupleKey
import PyProof.SetKind
import PyProof.IsRules
import PyProof.DictKinds
import PyProof.Rows.SetFrom
import PyProof.SetRoads
import PyProof.FactsAll.set
import PyProof.FactsAll.tuple_iterator_1
import KE.KDictSum
import KE.KSortTup
import PyProof.NeKinds
import KE.KRevIter
import KE.KIsAll
import KE.KSorted
import KE.LcSums
import PyProof.CompFree
import PyProof.CompUse
import PyProof.ZipIter
import KE.KDictList
import PyProof.DictItems
import PyProof.WalksEnum
import PyProof.EnumMake
import PyProof.EnumFor
import PyProof.WalkInts
import KE.KIntText
import PyProof.ExcArgsOwn
import PyProof.ReprRoads
import PyProof.ReprLen
import PySem.Challenge.RW_hullpart_k14_unread
-- CHANGE: your row's module here, as the last of these rows
set_option Elab.async false
set_option linter.all false
set_option maxRecDepth 100000
namespace L2
open PySem PySem.Spec PyProof.Rows
abbrev Key := Sum Int Str
def keyIs : Key → Value → Bool
  | .inl k, v => Value.isInt k v
  | .inr x, v => Value.isStrOf x v
def keyH (w : World) : Key → Int
  | .inl k => hashInt k
  | .inr x => hashStr w x
theorem keyIs_shape : ∀ {k : Key} {v : Value}, keyIs k v = true → (∃ i t, k = Sum.inl i ∧ v = Value.int i t) ∨ (∃ x t, k = Sum.inr x ∧ v = Value.str x t)
  | .inl i, v, h => by
    obtain ⟨t, e⟩ := Value.isInt_shape (k := i) (v := v) h
    exact .inl ⟨i, t, rfl, e⟩
  | .inr x, v, h => by
    obtain ⟨t, e⟩ := Value.isStrOf_shape (x := x) (v := v) h
    exact .inr ⟨x, t, rfl, e⟩
theorem key_ll (a b : Int) : decide ((Sum.inl a : Key) = Sum.inl b) = (a == b) := by
  by_cases e : a = b
  · subst e; simp
  · have h : ¬ (Sum.inl a : Key) = Sum.inl b := fun q => e (Sum.inl.inj q)
    rw [decide_eq_false h]
    exact (beq_eq_false_iff_ne.mpr e).symm
theorem key_rr (a b : Str) : decide ((Sum.inr a : Key) = Sum.inr b) = decide (a = b) := by
  by_cases e : a = b
  · subst e; simp
  · have h : ¬ (Sum.inr a : Key) = Sum.inr b := fun q => e (Sum.inr.inj q)
    rw [decide_eq_false h, decide_eq_false e]
theorem key_lr (a : Int) (b : Str) : decide ((Sum.inl a : Key) = Sum.inr b) = false := decide_eq_false (fun q => nomatch q)
theorem key_rl (a : Str) (b : Int) : decide ((Sum.inr a : Key) = Sum.inl b) = false := decide_eq_false (fun q => nomatch q)
def mixKind (prog : Program) (w : World) : PySem.KeyKind prog w Key where
  is := keyIs
  hash := keyH w
  inj := fun v a b ha hb => by
    rcases keyIs_shape ha with ⟨i, t, rfl, rfl⟩ | ⟨x, t, rfl, rfl⟩
    · rcases keyIs_shape hb with ⟨j, u, rfl, e⟩ | ⟨y, u, rfl, e⟩
      · injection e with e1 _; rw [e1]
      · exact nomatch e
    · rcases keyIs_shape hb with ⟨j, u, rfl, e⟩ | ⟨y, u, rfl, e⟩
      · exact nomatch e
      · injection e with e1 _; rw [e1]
  byValue := fun k v h => by
    rcases keyIs_shape h with ⟨i, t, rfl, rfl⟩ | ⟨x, t, rfl, rfl⟩ <;> rfl
  pyHash := fun hv h => by
    rcases keyIs_shape hv with ⟨i, t, rfl, rfl⟩ | ⟨x, t, rfl, rfl⟩
    · exact wpAny_pyHash_int h
    · exact wpAny_pyHash_str h
  eqBool := fun hu hv h => by
    rcases keyIs_shape hu with ⟨i, t, rfl, rfl⟩ | ⟨x, t, rfl, rfl⟩
    · rcases keyIs_shape hv with ⟨j, u, rfl, rfl⟩ | ⟨y, u, rfl, rfl⟩
      · rw [key_ll] at h; exact wpAny_eqBool_int h
      · rw [key_lr] at h; exact SeqAt.EqAt.int_str i t y u _ _ _ _ h
    · rcases keyIs_shape hv with ⟨j, u, rfl, rfl⟩ | ⟨y, u, rfl, rfl⟩
      · rw [key_rl] at h; exact SeqAt.EqAt.str_int x t j u _ _ _ _ h
      · rw [key_rr] at h; exact wpAny_eqBool_str h
  «strs» := fun k x t v h => by
    rcases keyIs_shape h with ⟨i, u, rfl, e⟩ | ⟨y, u, rfl, e⟩
    · exact nomatch e
    · injection e with e1 _
      subst e1
      cases v <;> rfl
end L2
namespace L2
open PySem PySem.Spec PyProof.Rows
inductive V where
  | non | bl (b : Bool) | int (i : Int) | str (x : Str) | byt (b : Array UInt8) | flt (b : UInt64) | ref (a : Addr) | ty (n : String)
  deriving DecidableEq
def RelV : V → Value → Prop
  | .non, u => u = Value.none
  | .bl b, u => u = Value.bool b
  | .int i, u => ∃ t, u = Value.int i t
  | .str x, u => ∃ t, u = Value.str x t
  | .byt b, u => ∃ t, u = Value.bytes b t
  | .flt b, u => ∃ t, u = Value.float b t
  | .ref a, u => u = Value.ref a
  | .ty n, u => u = Value.type n
abbrev Vals : List V → List Value → Prop := Paired RelV
theorem Vals.length {xs : List V} {us : List Value} (r : Vals xs us) : xs.length = us.length := Paired.length r
theorem Vals.get : ∀ {xs : List V} {us : List Value} {i : Nat} {x : V}, Vals xs us → xs[i]? = some x → ∃ u, us[i]? = some u ∧ RelV x u
  | _, _, _, _, .nil, e => by simp at e
  | _, _, 0, _, .cons r _, e => by simp at e; subst e; exact ⟨_, rfl, r⟩
  | _, _, i + 1, x, .cons _ t, e => by
    obtain ⟨u, h1, h2⟩ := Vals.get (i := i) (x := x) t (by simpa using e)
    exact ⟨u, by simpa using h1, h2⟩
theorem Vals.set {x : V} {u : Value} (r : RelV x u) : ∀ {xs : List V} {us : List Value} (i : Nat), Vals xs us → Vals (xs.set i x) (us.set i u)
  | _, _, _, .nil => .nil
  | _, _, 0, .cons _ t => .cons r t
  | _, _, i + 1, .cons q t => .cons q (Vals.set r i t)
theorem Vals.append : ∀ {xs ys : List V} {us ws : List Value}, Vals xs us → Vals ys ws → Vals (xs ++ ys) (us ++ ws)
  | _, _, _, _, .nil, s => s
  | _, _, _, _, .cons r t, s => .cons r (Vals.append t s)
theorem Vals.take : ∀ {xs : List V} {us : List Value} (n : Nat), Vals xs us → Vals (xs.take n) (us.take n)
  | _, _, 0, _ => .nil
  | _, _, _ + 1, .nil => .nil
  | _, _, n + 1, .cons r t => .cons r (Vals.take n t)
theorem Vals.drop : ∀ {xs : List V} {us : List Value} (n : Nat), Vals xs us → Vals (xs.drop n) (us.drop n)
  | _, _, 0, r => r
  | _, _, _ + 1, .nil => .nil
  | _, _, n + 1, .cons _ t => Vals.drop n t
def RelO : Option V → Option Value → Prop
  | some v, some u => RelV v u
  | none, none => True
  | _, _ => False
def KV {κ : Type} : List (κ × V) → List (κ × Value) → Prop := Paired fun (p : κ × V) (q : κ × Value) => p.1 = q.1 ∧ RelV p.2 q.2
def kV : Key → V
  | .inl i => .int i
  | .inr x => .str x
inductive HO where
    | lst (xs : List V)
    | tup (xs : List V)
    | dK (kvs : List (Key × V)) | dT (kvs : List (List Key × V))
    | set (S : Int → Bool) (n : Nat)
    | ins (C dx : Addr) (fs : List (Str × V))
    | own (x : Addr)
    | xd (fs : List (Str × V))
    | met (f x : Addr)
    | rng (lo hi : Int)
    | frz (o : Obj) (u : HO)
    | tbl (ps : Array Value)
    | ext (φ : Heap → Prop)
abbrev Hp := Addr → Option HO
def upd (H : Hp) (a : Addr) (o : HO) : Hp := fun b => if b = a then some o else H b
theorem upd_same {H : Hp} {a : Addr} {o : HO} : upd H a o a = some o := by unfold upd; rw [if_pos rfl]
theorem upd_ne {H : Hp} {a b : Addr} {o : HO} (h : b ≠ a) : upd H a o b = H b := by unfold upd; rw [if_neg h]
theorem upd_upd {H : Hp} {a : Addr} {o u : HO} : upd (upd H a o) a u = upd H a u := by
  funext b; unfold upd; split <;> rfl
theorem ne_of {H : Hp} {a b : Addr} {o u : HO} (h : H a = some o) (h' : H b = some u) (d : o ≠ u) : a ≠ b := by
  intro e; subst e; rw [h] at h'; exact d (Option.some.inj h')
theorem ne_of_none {H : Hp} {a b : Addr} {o : HO} (h : H a = some o) (h' : H b = none) : a ≠ b := by
  intro e; subst e; rw [h] at h'; cases h'
section
variable (P : Program) (w : World)
def ObjOk (H : Hp) (h : Heap) (a : Addr) : HO → Prop
  | .lst xs => xs.length ≤ sizeLine ∧ ∃ (its : List Value) (n : Nat), Vals xs its ∧ h.get? a = some { cls := .type "list", data := .seq its.toArray n }
  | .tup xs => xs.length ≤ sizeLine ∧ ∃ its : List Value, Vals xs its ∧ IsTup h a its.toArray
  | .dK kvs => kvs.length ≤ sizeLine ∧ (a == sysModules) = false ∧ ∃ vs, KV kvs vs ∧ h.DictOf (mixKind P w) a vs
  | .dT kvs => kvs.length ≤ sizeLine ∧ (a == sysModules) = false ∧ ∃ xs : List (List Key × Addr × Value),
      Paired (fun (p : List Key × V) (q : List Key × Addr × Value) => p.1 = q.1 ∧ H q.2.1 = some (.tup (p.1.map kV)) ∧ RelV p.2 q.2.2) kvs xs ∧
      ∃ o es ep, h.get? a = some o ∧ o.ExactDict ∧ o.data = .dict es ep ∧ es.toList = xs.map (entryOfKey (tupleKind (mixKind P w))) ∧ (xs.map (·.1)).Nodup
  | .set S n => h.SetOf (intKind P w) a S n
  | .ins C dx fs => H dx = some (.own a) ∧ fs.length ≤ 1000 ∧ dx ≠ a ∧ h.get? a = some (PySem.W.instObj C dx) ∧
      ∃ mA, h.Ns1 dx mA ∧ (∀ f, RelO (fs.lookup f) (mA f)) ∧ PySem.Within mA (fs.map (·.1))
  | .own _ => ∃ o, h.get? a = some o
  | .xd fs => ∃ mA, h.Ns1 a mA ∧ ∀ f, RelO (fs.lookup f) (mA f)
  | .rng lo hi => ∃ t u v, h.get? a = some { cls := .type "range", data := .fields #[.int lo t, .int hi u, .int 1 v] }
  | .frz o u => h.get? a = some o ∧ ObjOk H h a u
  | .tbl ps => h.get? a = some { cls := .none, data := .fields ps }
  | .met f x => h.get? a = some (PySem.W.methodObj (.ref f) (.ref x))
  | .ext φ => φ h ∧ (∃ o, h.get? a = some o) ∧ ∀ h1 h2 : Heap, φ h1 → (∀ o, h1.get? a = some o → h2.get? a = some o) → φ h2
def HOk (H : Hp) (h : Heap) : Prop := ∀ a o, H a = some o → ObjOk P w H h a o
end
section
variable {P : Program} {w : World} {H H' : Hp} {h h' : Heap} {a : Addr} {o : HO}
theorem ObjOk.lt (x : ObjOk P w H h a o) : a < h.objs.size := by
  cases o with
  | lst xs => obtain ⟨_, _, _, _, e⟩ := x; exact Heap.lt_size e
  | tup xs => obtain ⟨_, _, _, p⟩ := x; exact p.lt
  | dK kvs => obtain ⟨_, _, _, _, o, _, _, e, _⟩ := x; exact Heap.lt_size e
  | dT kvs => obtain ⟨_, _, _, _, o, _, _, e, _⟩ := x; exact Heap.lt_size e
  | set S n => obtain ⟨o, _, _, _, e, _⟩ := x; exact Heap.lt_size e
  | ins C dx fs => obtain ⟨_, _, _, e, _⟩ := x; exact Heap.lt_size e
  | own y => obtain ⟨_, e⟩ := x; exact Heap.lt_size e
  | xd fs => obtain ⟨_, ⟨_, _, _, e, _⟩, _⟩ := x; exact Heap.lt_size e
  | rng lo hi => obtain ⟨_, _, _, e⟩ := x; exact Heap.lt_size e
  | frz ob u => obtain ⟨e, _⟩ := x; exact Heap.lt_size e
  | tbl ps => exact Heap.lt_size (show h.get? a = some _ from x)
  | met f y => exact Heap.lt_size (show h.get? a = some _ from x)
  | ext φ => obtain ⟨_, ⟨_, e⟩, _⟩ := x; exact Heap.lt_size e
theorem Paired.mapP {α β : Type} {F G : α → β → Prop} : ∀ {l₁ : List α} {l₂ : List β}, Paired F l₁ l₂ → (∀ a b, F a b → G a b) → Paired G l₁ l₂
  | _, _, .nil, _ => .nil
  | _, _, .cons r t, f => .cons (f _ _ r) (Paired.mapP t f)
theorem ObjOk.stay (x : ObjOk P w H h a o) (k : ∀ b u, (b = a ∨ H b = some (.own a)) → h.get? b = some u → h'.get? b = some u)
    (ho : ∀ b, H b = some (.own a) → H' b = some (.own a)) (ht : ∀ b xs, H b = some (.tup xs) → H' b = some (.tup xs)) : ObjOk P w H' h' a o := by
  induction o with
  | lst xs => obtain ⟨z, its, n, r, e⟩ := x; exact ⟨z, its, n, r, k _ _ (.inl rfl) e⟩
  | tup xs => obtain ⟨z, its, r, ob, e, c⟩ := x; exact ⟨z, its, r, ob, k _ _ (.inl rfl) e, c⟩
  | dK kvs => obtain ⟨z, y, vs, r, ob, es, ep, e, c⟩ := x; exact ⟨z, y, vs, r, ob, es, ep, k _ _ (.inl rfl) e, c⟩
  | dT kvs =>
    obtain ⟨z, y, xs, r, ob, es, ep, e, c⟩ := x
    exact ⟨z, y, xs, Paired.mapP r fun p q z => ⟨z.1, ht _ _ z.2.1, z.2.2⟩, ob, es, ep, k _ _ (.inl rfl) e, c⟩
  | set S n => obtain ⟨ob, es, ep, t, e, c⟩ := x; exact ⟨ob, es, ep, t, k _ _ (.inl rfl) e, c⟩
  | ins C dx fs =>
    obtain ⟨d, z, ne, e, mA, ⟨od, es, ep, e2, c⟩, r⟩ := x
    exact ⟨ho _ d, z, ne, k _ _ (.inl rfl) e, mA, ⟨od, es, ep, k _ _ (.inr d) e2, c⟩, r⟩
  | own y => obtain ⟨ob, e⟩ := x; exact ⟨ob, k _ _ (.inl rfl) e⟩
  | xd fs => obtain ⟨mA, ⟨od, es, ep, e, c⟩, r⟩ := x; exact ⟨mA, ⟨od, es, ep, k _ _ (.inl rfl) e, c⟩, r⟩
  | rng lo hi => obtain ⟨t, u, v, e⟩ := x; exact ⟨t, u, v, k _ _ (.inl rfl) e⟩
  | frz ob u ih => obtain ⟨e, q⟩ := x; exact ⟨k _ _ (.inl rfl) e, ih q⟩
  | tbl ps =>
    have e : h.get? a = some { cls := .none, data := .fields ps } := x
    show h'.get? a = some { cls := .none, data := .fields ps }
    exact k a _ (.inl rfl) e
  | met f y =>
    have e : h.get? a = some (PySem.W.methodObj (.ref f) (.ref y)) := x
    show h'.get? a = some (PySem.W.methodObj (.ref f) (.ref y))
    exact k a _ (.inl rfl) e
  | ext φ => obtain ⟨p, ⟨o, e⟩, st⟩ := x; exact ⟨st _ _ p fun o q => k _ _ (.inl rfl) q, ⟨o, k _ _ (.inl rfl) e⟩, st⟩
theorem HOk.lt (x : HOk P w H h) (e : H a = some o) : a < h.objs.size := (x a o e).lt
theorem HOk.fresh (x : HOk P w H h) (e : h.objs.size ≤ a) : H a = none := by
  cases q : H a with
  | none => rfl
  | some u => exact absurd (Nat.lt_of_lt_of_le (x.lt q) e) (Nat.lt_irrefl _)
theorem HOk.kept (x : HOk P w H h) (k : ∀ b u, h.get? b = some u → h'.get? b = some u) : HOk P w H h' := fun a o e =>
  (x a o e).stay (fun b u _ q => k b u q) (fun _ q => q) fun _ _ q => q
theorem HOk.laid (x : HOk P w H h) (k : ∀ b u, h.get? b = some u → h'.get? b = some u) (hp : h.objs.size ≤ a) (new : ObjOk P w (upd H a o) h' a o) : HOk P w (upd H a o) h' := fun b u e => by
  have hn := x.fresh hp
  by_cases hb : b = a
  · subst hb; rw [upd_same] at e; cases e; exact new
  · rw [upd_ne hb] at e
    exact (x b u e).stay (fun c v _ q => k c v q) (fun c q => by rw [upd_ne (ne_of_none q hn)]; exact q) fun c xs q => by rw [upd_ne (ne_of_none q hn)]; exact q
end
def Rd (H : Hp) (a : Addr) (u : HO) : Prop := H a = some u ∨ ∃ o, H a = some (.frz o u)
theorem Rd.of {H : Hp} {a : Addr} {u : HO} (h : H a = some u) : Rd H a u := .inl h
theorem Rd.ok {P : Program} {w : World} {H : Hp} {h : Heap} {a : Addr} {u : HO} (r : Rd H a u) (x : HOk P w H h) : ObjOk P w H h a u := by
  rcases r with r | ⟨o, r⟩
  · exact x a u r
  · obtain ⟨_, q⟩ := x a _ r
    exact q
def Mut : Option HO → Prop
  | some (.lst _) => True
  | some (.dK _) => True
  | some (.dT _) => True
  | some (.set _ _) => True
  | some (.ins _ _ _) => True
  | some (.ext _) => True
  | _ => False
section
variable {P : Program} {w : World} {H : Hp} {h h' : Heap} {x e : Addr} {o' : HO}
theorem HOk.write (ok : HOk P w H h) (mu : Mut (H x)) (he : e = x ∨ H e = some (.own x)) (k : ∀ b u, b ≠ e → h.get? b = some u → h'.get? b = some u) (heo : ∃ u, h'.get? e = some u)
    (new : ObjOk P w (upd H x o') h' x o') : HOk P w (upd H x o') h' := fun b u q => by
  have nown : ∀ c y, H c = some (.own y) → c ≠ x := fun c y r z => by subst z; rw [r] at mu; exact mu
  have ntup : ∀ c xs, H c = some (.tup xs) → c ≠ x := fun c xs r z => by subst z; rw [r] at mu; exact mu
  by_cases hb : b = x
  · subst hb; rw [upd_same] at q; cases q; exact new
  · rw [upd_ne hb] at q
    by_cases hbe : b = e
    · have q' : H b = some (.own x) := by
        rcases he with z | z
        · exact absurd (hbe.trans z) hb
        · rw [hbe]; exact z
      rw [q] at q'; cases q'
      obtain ⟨v, hv⟩ := heo
      exact ⟨v, by rw [hbe]; exact hv⟩
    · refine (ok b u q).stay (fun c v hc r => k c v ?_ r) (fun c r => by rw [upd_ne (nown c b r)]; exact r) fun c xs r => by rw [upd_ne (ntup c xs r)]; exact r
      rcases hc with rfl | hc
      · exact hbe
      · rintro rfl
        rcases he with z | z
        · exact nown c b hc z
        · rw [hc] at z; cases z; exact hb rfl
end
structure Un (fs ex : List Addr) (H H' : Hp) (h h' : Heap) : Prop where
  keep : ∀ b o, h.get? b = some o → H b = none → b ∉ fs → b ∉ ex → h'.get? b = some o
  slot : ∀ b o, h.get? b = some o → H b = none → b ∈ fs → b ∉ ex → ∃ sl, h'.get? b = some { o with slots := sl }
  free : ∀ b o, h.get? b = some o → H b = none → b ∉ ex → H' b = none
  there : ∀ b o, h.get? b = some o → b ∉ ex → ∃ o', h'.get? b = some o'
  tups : ∀ b xs, H b = some (.tup xs) → H' b = some (.tup xs)
  frzs : ∀ b o u, H b = some (.frz o u) → H' b = some (.frz o u)
  tbls : ∀ b ps, H b = some (.tbl ps) → ∃ more, H' b = some (.tbl (ps ++ more))
section
variable {fs fs' ex ex' : List Addr} {H H1 H2 : Hp} {h h1 h2 h' : Heap} {a x e : Addr} {o : HO}
theorem Un.any (u : Un fs ex H H1 h h1) {b : Addr} {ob : Obj} (q : h.get? b = some ob) (n : H b = none) (hx : b ∉ ex) : ∃ sl, h1.get? b = some { ob with slots := sl } := by
  by_cases hb : b ∈ fs
  · exact u.slot b ob q n hb hx
  · exact ⟨ob.slots, u.keep b ob q n hb hx⟩
theorem Un.trans (a : Un fs ex H H1 h h1) (b : Un fs ex H1 H2 h1 h2) : Un fs ex H H2 h h2 where
  keep := fun c ob q n hc hx => b.keep c ob (a.keep c ob q n hc hx) (a.free c ob q n hx) hc hx
  slot := fun c ob q n hc hx => by
    obtain ⟨sl, e1⟩ := a.slot c ob q n hc hx
    obtain ⟨sl', e2⟩ := b.slot c _ e1 (a.free c ob q n hx) hc hx
    exact ⟨sl', e2⟩
  free := fun c ob q n hx => by
    obtain ⟨o', e1⟩ := a.there c ob q hx
    exact b.free c o' e1 (a.free c ob q n hx) hx
  there := fun c ob q hx => by
    obtain ⟨o', e1⟩ := a.there c ob q hx
    exact b.there c o' e1 hx
  tups := fun c xs q => b.tups c xs (a.tups c xs q)
  frzs := fun c ob xs q => b.frzs c ob xs (a.frzs c ob xs q)
  tbls := fun c ps q => by
    obtain ⟨m1, e1⟩ := a.tbls c ps q
    obtain ⟨m2, e2⟩ := b.tbls c _ e1
    exact ⟨m1 ++ m2, by rw [e2, Array.append_assoc]⟩
theorem Un.kept (k : ∀ b u, h.get? b = some u → h'.get? b = some u) : Un fs ex H H h h' :=
  ⟨fun b ob q _ _ _ => k b ob q, fun b ob q _ _ _ => ⟨ob.slots, k b ob q⟩, fun _ _ _ n _ => n, fun b ob q _ => ⟨ob, k b ob q⟩, fun _ _ q => q, fun _ _ _ q => q, fun _ ps q => ⟨#[], by rw [q]; simp⟩⟩
theorem Un.refl : Un fs ex H H h h := Un.kept fun _ _ q => q
theorem Un.laid (k : ∀ b u, h.get? b = some u → h'.get? b = some u) (hp : h.objs.size ≤ a) (hn : H a = none) : Un fs ex H (upd H a o) h h' where
  keep := fun b u q _ _ _ => k b u q
  slot := fun b u q _ _ _ => ⟨u.slots, k b u q⟩
  free := fun b u q n _ => by rw [upd_ne (Nat.ne_of_lt (Nat.lt_of_lt_of_le (Heap.lt_size q) hp))]; exact n
  there := fun b u q _ => ⟨u, k b u q⟩
  tups := fun b xs q => by rw [upd_ne (ne_of_none q hn)]; exact q
  frzs := fun b u xs q => by rw [upd_ne (ne_of_none q hn)]; exact q
  tbls := fun b ps q => ⟨#[], by rw [upd_ne (ne_of_none q hn), q]; simp⟩
theorem Un.write (mu : Mut (H x)) (he : e = x ∨ H e = some (.own x)) (k : ∀ b u, b ≠ e → h.get? b = some u → h'.get? b = some u) (heo : ∃ u, h'.get? e = some u) : Un fs ex H (upd H x o) h h' := by
  have hx : ∀ b, H b = none → b ≠ x := fun b n z => by subst z; rw [n] at mu; exact mu
  have hb : ∀ b, H b = none → b ≠ e := fun b n z => by
    subst z
    rcases he with r | r
    · exact hx b n r
    · rw [n] at r; cases r
  have hm : ∀ b u, H b = some u → ¬ Mut (some u) → b ≠ x := fun b u q nm z => by subst z; rw [q] at mu; exact nm mu
  refine ⟨fun b u q n _ _ => k b u (hb b n) q, fun b u q n _ _ => ⟨u.slots, k b u (hb b n) q⟩, fun b u q n _ => by rw [upd_ne (hx b n)]; exact n, fun b u q _ => ?_,
    fun b xs q => by rw [upd_ne (hm b _ q fun z => z)]; exact q, fun b u xs q => by rw [upd_ne (hm b _ q fun z => z)]; exact q, fun b ps q => ⟨#[], by rw [upd_ne (hm b _ q fun z => z), q]; simp⟩⟩
  by_cases hbe : b = e
  · subst hbe; exact heo
  · exact ⟨u, k b u hbe q⟩
theorem Un.mono (u : Un fs ex H H1 h h1) (hs : ∀ b ∈ fs, b ∈ fs') (hx : ∀ b ∈ ex, b ∈ ex') : Un fs' ex' H H1 h h1 :=
  ⟨fun b ob q n hb he => u.keep b ob q n (fun z => hb (hs b z)) fun z => he (hx b z), fun _ _ q n _ he => u.any q n fun z => he (hx _ z), fun b ob q n he => u.free b ob q n fun z => he (hx b z), fun b ob q he => u.there b ob q fun z => he (hx b z), u.tups, u.frzs, u.tbls⟩
end
def trk (h : Heap) (H : Hp) : List Addr := (List.range h.objs.size).filter fun a => (H a).isSome
def hidT (h : Heap) (H : Hp) : Heap := PySem.W.hideAll h (trk h H)
theorem hidT_size (h : Heap) (H : Hp) : (hidT h H).objs.size = h.objs.size := PySem.W.hideAll_size _ _
theorem hidT_get {h : Heap} {H : Hp} {b : Addr} {o : Obj} (e : h.get? b = some o) (n : H b = none) : (hidT h H).get? b = some o :=
  PySem.W.hideAll_get _ e fun hm => by
    have q : (H b).isSome = true := (List.mem_filter.mp hm).2
    rw [n] at q; simp at q
theorem of_hidT {h : Heap} {H : Hp} {b : Addr} {o : Obj} (e : (hidT h H).get? b = some o) : h.get? b = some o ∧ H b = none := by
  have e' : h.get? b = some o := PySem.W.of_hideAll (trk h H) e
  refine ⟨e', ?_⟩
  cases q : H b with
  | none => rfl
  | some x =>
    have hm : b ∈ trk h H := List.mem_filter.mpr ⟨List.mem_range.mpr (Heap.lt_size e'), by simp [q]⟩
    have z : (hidT h H).get? b = none := PySem.W.hideAll_none (trk h H) hm
    rw [z] at e; cases e
def allNews (g h : Heap) (L : Addr) : List (Addr × Obj) := (List.range h.objs.size).filterMap fun a => if a = L ∨ (g.get? a).isSome = true then none else (h.get? a).map fun o => (a, o)
theorem mem_allNews {g h : Heap} {L a : Addr} {o : Obj} (h1 : a ≠ L) (h2 : g.get? a = none) (h3 : h.get? a = some o) : (a, o) ∈ allNews g h L :=
  List.mem_filterMap.mpr ⟨a, List.mem_range.mpr (Heap.lt_size h3), by simp [h1, h2, h3]⟩
theorem of_mem_allNews {g h : Heap} {L : Addr} {p : Addr × Obj} (hp : p ∈ allNews g h L) : p.1 ≠ L ∧ g.get? p.1 = none ∧ h.get? p.1 = some p.2 := by
  obtain ⟨b, _, e⟩ := List.mem_filterMap.mp hp
  split at e
  · cases e
  · rename_i hn
    cases q : h.get? b with
    | none => rw [q] at e; simp at e
    | some u =>
      rw [q] at e
      simp only [Option.map_some, Option.some.injEq] at e
      subst e
      refine ⟨fun z => hn (.inl z), ?_, q⟩
      show g.get? b = none
      cases r : g.get? b with
      | none => rfl
      | some v => exact (hn (.inr (by simp [r]))).elim
def rest (g h : Heap) (L d : Addr) : List (Addr × Obj) := (allNews g h L).filter fun p => decide (p.1 ≠ d)
theorem news_all {g h : Heap} {L : Addr} : News g L h (allNews g h L) := fun p hp => let ⟨a, b, c⟩ := of_mem_allNews hp; ⟨c, a, b⟩
end L2
namespace L2
open PySem PySem.Spec PyProof.Rows
structure Mod (K : PySem.W.Frag) (mg : Str → Option Value) (base : Heap) : Prop where
  kin : K.In base
  glob : base.Ns mainGlobals mg
  blt : ∃ mb, base.Ns builtinsNs mb ∧ ∀ x : Str, x ≠ "__name__" → mb x = bootBuiltins x
  nolimit : base.NoLimit
structure Cx where
  prog : Program
  w : World
  K : PySem.W.Frag
  mg : Str → Option Value
  base : Heap
  A : Around
  N : List Str
  s₀ : Shared
  H₀ : Hp
  env : Env
  outer : List Env
  stack : List Env
  ex : List Addr
  fn : Str → Bool
  calm : Bool
  pn : List (Addr × Obj)
  xe : Value → Shared → Prop
def frs (l : List Env) : List Addr := l.filterMap (·.frame)
abbrev Cx.fs (X : Cx) : List Addr := frs X.outer
def Vis (sc : Scope) (x : Str) : Prop := sc.names.lookup x = some .local ∨ sc.names.lookup x = some .cell ∨ sc.names.lookup x = some .free
def Loc (sc : Scope) (x : Str) : Prop := sc.names.lookup x = some .local ∨ sc.names.lookup x = some .cell
def Look (env : Env) (h : Heap) (m : Str → Option Value) (x : Str) (u : Value) : Prop :=
  (env.kindOf x = some .local ∧ m x = some u) ∨ ((env.kindOf x = some .cell ∨ env.kindOf x = some .free) ∧ ∃ c, env.cells.lookup x = some c ∧ h.IsCell c (some u))
structure Cx.Ok (X : Cx) : Prop where
  mod : Mod X.K X.mg X.base
  kind : X.env.scope.kind = .function
  glob : X.env.globals = mainGlobals
  blt : X.env.builtins = builtinsNs
  above : X.s₀.heap.objs.size ≤ X.env.locals
  inj : ∀ x y c, X.env.cells.lookup x = some c → X.env.cells.lookup y = some c → x = y
  has : ∀ x, (X.env.kindOf x = some .cell ∨ X.env.kindOf x = some .free) → ∃ c, X.env.cells.lookup x = some c
  cab : ∀ x c, X.fn x = true → X.env.cells.lookup x = some c → X.s₀.heap.objs.size ≤ c
  hd : X.calm = true → X.A.handled = none
  frames : X.A.frames = some X.stack
  stk : X.stack = X.outer ∨ (X.stack = X.env :: X.outer ∧ X.env.frame = some X.env.locals)
  exf : ∀ b ∈ X.ex, b ≠ X.env.locals ∧ ∀ x c, X.env.cells.lookup x = some c → c ≠ b
  bs : ∀ b o, X.base.get? b = some o → X.s₀.heap.get? b = some o ∧ X.H₀ b = none
  bsz : X.base.objs.size ≤ X.s₀.heap.objs.size
  noex : ∀ b o, X.base.get? b = some o → b ∉ X.ex
  exfs : ∀ b ∈ X.ex, b ∉ X.fs
  funs : X.s₀.heap.FunFrames X.base X.outer
  frf : ∀ b ∈ X.fs, X.H₀ b = none
structure Inv (X : Cx) (pins : List (Addr × Obj)) (σ : List (Option V)) (H : Hp) (s : Shared) : Prop where
  ok : X.Ok
  os : s.os = X.s₀.os
  bare : AllBare s.gens
  base : Un X.fs X.ex X.H₀ H X.s₀.heap s.heap
  loc : ∃ m, s.heap.Ns X.env.locals m ∧ ∀ (i : Nat) (x : Str) (v : V), X.N[i]? = some x → σ[i]? = some (some v) → Vis X.env.scope x → ∃ u, RelV v u ∧ Look X.env s.heap m x u
  cell : ∀ x c, X.env.cells.lookup x = some c → ∃ v, s.heap.IsCell c v
  free : H X.env.locals = none
  freeC : ∀ x c, X.env.cells.lookup x = some c → H c = none
  pin : ∀ p ∈ X.pn ++ pins, s.heap.get? p.1 = some p.2 ∧ H p.1 = none ∧ p.1 ≠ X.env.locals ∧ p.1 ∉ X.fs ∧ ∀ v, p.2.data ≠ .cell v
  hok : HOk X.prog X.w H s.heap
  len : σ.length = X.N.length
section
variable {X : Cx} {pins : List (Addr × Obj)} {σ : List (Option V)} {H H' : Hp} {s : Shared} {h' : Heap}
theorem Cx.Ok.nofr (ok : X.Ok) {b : Addr} {o : Obj} (e : X.base.get? b = some o) : b ∉ X.fs := fun hb => by
  have := (ok.funs.mem hb).1
  rw [e] at this; cases this
theorem Inv.bs (I : Inv X pins σ H s) : ∀ b o, X.base.get? b = some o → s.heap.get? b = some o ∧ H b = none := fun b o e =>
  ⟨I.base.keep b o (I.ok.bs b o e).1 (I.ok.bs b o e).2 (I.ok.nofr e) (I.ok.noex b o e), I.base.free b o (I.ok.bs b o e).1 (I.ok.bs b o e).2 (I.ok.noex b o e)⟩
theorem Inv.bk (I : Inv X pins σ H s) : ∀ b o, X.base.get? b = some o → s.heap.get? b = some o := fun b o e => (I.bs b o e).1
theorem Inv.mod (I : Inv X pins σ H s) : Mod X.K X.mg X.base := I.ok.mod
theorem Inv.kIn (I : Inv X pins σ H s) : X.K.In s.heap := I.ok.mod.kin.keeps I.bk
theorem Inv.nolimit (I : Inv X pins σ H s) : s.heap.NoLimit := I.ok.mod.nolimit.keeps I.bk
theorem Inv.fr (I : Inv X pins σ H s) : ∃ m, Fr X.base X.env.locals s.heap m :=
  let ⟨m, hn, _⟩ := I.loc
  ⟨m, hn, I.bk, Nat.le_trans I.ok.bsz I.ok.above⟩
theorem Inv.lt (I : Inv X pins σ H s) : X.env.locals < s.heap.objs.size := let ⟨_, hn, _⟩ := I.loc; hn.lt
theorem Inv.sz (I : Inv X pins σ H s) : X.s₀.heap.objs.size ≤ s.heap.objs.size := Nat.le_trans I.ok.above (Nat.le_of_lt I.lt)
theorem Inv.nofs (I : Inv X pins σ H s) {a : Addr} (h : s.heap.objs.size ≤ a) : a ∉ X.fs := fun hb => by
  obtain ⟨_, o, ho, _⟩ := I.ok.funs.mem hb
  exact absurd (Nat.lt_of_lt_of_le (Heap.lt_size ho) (Nat.le_trans I.sz h)) (Nat.lt_irrefl _)
theorem Inv.cne (I : Inv X pins σ H s) : ∀ x c, X.env.cells.lookup x = some c → c ≠ X.env.locals := fun x c e z => by
  obtain ⟨v, o, ho, hd⟩ := I.cell x c e
  obtain ⟨m, ⟨o', es, ep, ho', hd', _⟩, _⟩ := I.loc
  rw [z, ho'] at ho; cases ho; rw [hd'] at hd; cases hd
theorem Inv.funs (I : Inv X pins σ H s) : s.heap.FunFrames X.base X.outer := by
  have all : ∀ (l : List Env), (∀ b ∈ frs l, b ∈ X.fs) → X.s₀.heap.FunFrames X.base l → s.heap.FunFrames X.base l := by
    intro l
    induction l with
    | nil => intro _ _; trivial
    | cons env r ih =>
      intro hs hl
      obtain ⟨hk, ⟨L, o, hf, hn, ho, hd⟩, hr⟩ := hl
      have hL : L ∈ X.fs := hs L (by unfold frs; rw [List.filterMap_cons, hf]; exact List.mem_cons_self)
      obtain ⟨sl, e⟩ := I.base.slot L o ho (I.ok.frf L hL) hL fun z => I.ok.exfs L z hL
      exact ⟨hk, ⟨L, _, hf, hn, e, hd⟩, ih (fun b hb => hs b (by unfold frs; rw [List.filterMap_cons, hf]; exact List.mem_cons_of_mem _ hb)) hr⟩
  exact all X.outer (fun _ hb => hb) I.ok.funs
theorem Inv.stack (I : Inv X pins σ H s) : s.heap.FunFrames X.base X.stack := by
  rcases I.ok.stk with e | ⟨e, hf⟩
  · rw [e]; exact I.funs
  · rw [e]
    obtain ⟨m, hn, _⟩ := I.loc
    refine .cons (by rw [I.ok.kind]; decide) hf hn ?_ I.funs
    exact Heap.get?_none_of_le (Nat.le_trans I.ok.bsz I.ok.above)
theorem Inv.stkSub (I : Inv X pins σ H s) : ∀ b ∈ frs X.stack, b ∈ X.env.locals :: X.fs := fun b hb => by
  rcases I.ok.stk with e | ⟨e, hf⟩
  · rw [e] at hb; exact List.mem_cons_of_mem _ hb
  · rw [e] at hb
    unfold frs at hb
    rw [List.filterMap_cons, hf] at hb
    exact hb
theorem Inv.stkFree (I : Inv X pins σ H s) : ∀ b ∈ frs X.stack, H b = none := fun b hb => by
  rcases List.mem_cons.mp (I.stkSub b hb) with e | hb
  · rw [e]; exact I.free
  · obtain ⟨_, o, ho, _⟩ := I.ok.funs.mem hb
    exact I.base.free b o ho (I.ok.frf b hb) fun z => I.ok.exfs b z hb
theorem Inv.step {g' : Array GenState} {t' : Nat} {d' : Drawn} {ch : List Addr} (I : Inv X pins σ H s)
    (hch : ∀ b ∈ ch, (b ∈ X.ex ∨ X.s₀.heap.objs.size ≤ b) ∧ b ≠ X.env.locals ∧ (∀ x c, X.env.cells.lookup x = some c → c ≠ b) ∧ ∀ p ∈ X.pn ++ pins, p.1 ≠ b)
    (keep : ∀ b o, b ≠ X.env.locals → b ∉ X.fs → b ∉ ch → s.heap.get? b = some o → H b = none → h'.get? b = some o)
    (slot : ∀ b o, b ≠ X.env.locals → b ∈ X.fs → b ∉ ch → s.heap.get? b = some o → H b = none → ∃ sl, h'.get? b = some { o with slots := sl }) (free : ∀ b o, b ∉ ch → s.heap.get? b = some o → H b = none → H' b = none)
    (there : ∀ b o, b ∉ ch → s.heap.get? b = some o → ∃ o', h'.get? b = some o')
    (tups : ∀ b xs, H b = some (.tup xs) → H' b = some (.tup xs)) (frzs : ∀ b o u, H b = some (.frz o u) → H' b = some (.frz o u)) (tbls : ∀ b ps, H b = some (.tbl ps) → ∃ more, H' b = some (.tbl (ps ++ more)))
    (ns : ∀ m, s.heap.Ns X.env.locals m → h'.Ns X.env.locals m) (hok : HOk X.prog X.w H' h') (hg : AllBare g') :
    Inv X pins σ H' { s with heap := h', gens := g', drawn := d', toks := t' } := by
  have neL : ∀ b o, X.s₀.heap.get? b = some o → b ≠ X.env.locals := fun b o e => Nat.ne_of_lt (Nat.lt_of_lt_of_le (Heap.lt_size e) I.ok.above)
  have neC : ∀ b o, X.s₀.heap.get? b = some o → b ∉ X.ex → b ∉ ch := fun b o e hx hb => by
    rcases (hch b hb).1 with z | z
    · exact hx z
    · exact absurd (Nat.lt_of_lt_of_le (Heap.lt_size e) z) (Nat.lt_irrefl _)
  have cellK : ∀ x c, X.env.cells.lookup x = some c → ∀ v, s.heap.IsCell c v → h'.IsCell c v := fun x c e v ⟨o, ho, hd⟩ => by
    have nch : c ∉ ch := fun z => (hch c z).2.2.1 x c e rfl
    by_cases hc : c ∈ X.fs
    · obtain ⟨sl, q⟩ := slot c o (I.cne x c e) hc nch ho (I.freeC x c e)
      exact ⟨_, q, hd⟩
    · exact ⟨o, keep c o (I.cne x c e) hc nch ho (I.freeC x c e), hd⟩
  refine ⟨I.ok, I.os, hg, ⟨fun b o e n hb hx => ?_, fun b o e n hb hx => ?_, fun b o e n hx => ?_, fun b o e hx => ?_, fun b xs e => tups b xs (I.base.tups b xs e), fun b o xs e => frzs b o xs (I.base.frzs b o xs e), fun b ps e => ?_⟩, ?_, fun x c e => ?_, ?_, fun x c e => ?_, fun p hp => ?_, hok, I.len⟩
  · exact keep b o (neL b o e) hb (neC b o e hx) (I.base.keep b o e n hb hx) (I.base.free b o e n hx)
  · obtain ⟨sl, e1⟩ := I.base.slot b o e n hb hx
    obtain ⟨sl', e2⟩ := slot b _ (neL b o e) hb (neC b o e hx) e1 (I.base.free b o e n hx)
    exact ⟨sl', e2⟩
  · obtain ⟨o', e1⟩ := I.base.there b o e hx
    exact free b o' (neC b o e hx) e1 (I.base.free b o e n hx)
  · obtain ⟨o', e1⟩ := I.base.there b o e hx
    exact there b o' (neC b o e hx) e1
  · obtain ⟨m1, e1⟩ := I.base.tbls b ps e
    obtain ⟨m2, e2⟩ := tbls b _ e1
    exact ⟨m1 ++ m2, by rw [e2, Array.append_assoc]⟩
  · obtain ⟨m, hn, hl⟩ := I.loc
    refine ⟨m, ns m hn, fun i x v e1 e2 e3 => ?_⟩
    obtain ⟨u, r, l⟩ := hl i x v e1 e2 e3
    refine ⟨u, r, ?_⟩
    rcases l with l | ⟨k, c, e, z⟩
    · exact .inl l
    · exact .inr ⟨k, c, e, cellK x c e _ z⟩
  · obtain ⟨v, z⟩ := I.cell x c e
    exact ⟨v, cellK x c e v z⟩
  · obtain ⟨m, ⟨o, _, _, ho, _⟩, _⟩ := I.loc
    exact free _ o (fun z => (hch _ z).2.1 rfl) ho I.free
  · obtain ⟨v, o, ho, hd⟩ := I.cell x c e
    exact free c o (fun z => (hch c z).2.2.1 x c e rfl) ho (I.freeC x c e)
  · obtain ⟨e, n, ne, nf, d⟩ := I.pin p hp
    have nch : p.1 ∉ ch := fun z => (hch p.1 z).2.2.2 p hp rfl
    exact ⟨keep p.1 p.2 ne nf nch e n, free p.1 p.2 nch e n, ne, nf, d⟩
theorem Inv.un {t' : Nat} (I : Inv X pins σ H s) (u : Un X.fs [] H H' s.heap h') (hok : HOk X.prog X.w H' h') : Inv X pins σ H' { s with heap := h', toks := t' } := by
  obtain ⟨m, ⟨o, es, ep, ho, r⟩, _⟩ := id I.loc
  obtain ⟨sl, hL⟩ := u.any ho I.free (by simp)
  exact I.step (g' := s.gens) (d' := s.drawn) (ch := []) (fun _ z => nomatch z) (fun b o _ hb _ e n => u.keep b o e n hb (by simp)) (fun b o _ hb _ e n => u.slot b o e n hb (by simp)) (fun b o _ e n => u.free b o e n (by simp)) (fun b o _ e => u.there b o e (by simp)) u.tups u.frzs u.tbls (fun m' hm => by
    obtain ⟨o', es', ep', ho', r'⟩ := hm
    rw [ho] at ho'; cases ho'
    exact ⟨_, es', ep', hL, r'⟩) hok I.bare
theorem Inv.call {g' : Array GenState} {t' : Nat} {d' : Drawn} {ch : List Addr} (I : Inv X pins σ H s) (u : Un (frs X.stack) ch H H' s.heap h') (hok : HOk X.prog X.w H' h') (hg : AllBare g')
    (hch : ∀ b ∈ ch, (b ∈ X.ex ∨ X.s₀.heap.objs.size ≤ b) ∧ b ≠ X.env.locals ∧ (∀ x c, X.env.cells.lookup x = some c → c ≠ b) ∧ ∀ p ∈ X.pn ++ pins, p.1 ≠ b) :
    Inv X pins σ H' { s with heap := h', gens := g', drawn := d', toks := t' } := by
  obtain ⟨m, ⟨o, es, ep, ho, r⟩, _⟩ := id I.loc
  obtain ⟨sl, hL⟩ := u.any ho I.free fun z => (hch _ z).2.1 rfl
  exact I.step (ch := ch) hch (fun b o hL hb hc e n => u.keep b o e n (fun z => (List.mem_cons.mp (I.stkSub b z)).elim hL hb) hc) (fun b o _ _ hc e n => u.any e n hc) (fun b o hc e n => u.free b o e n hc) (fun b o hc e => u.there b o e hc) u.tups u.frzs u.tbls (fun m' hm => by
    obtain ⟨o', es', ep', ho', r'⟩ := hm
    rw [ho] at ho'; cases ho'
    exact ⟨_, es', ep', hL, r'⟩) hok hg
theorem Inv.turned {t' : Nat} {it : Addr} (I : Inv X pins σ H s) (k : ∀ b o, b ≠ it → s.heap.get? b = some o → h'.get? b = some o) (hn : H it = none) (hL : it ≠ X.env.locals)
    (h1 : it ∈ X.ex ∨ X.s₀.heap.objs.size ≤ it) (h2 : ∀ x c, X.env.cells.lookup x = some c → c ≠ it) (h3 : ∀ p ∈ X.pn ++ pins, p.1 ≠ it) : Inv X pins σ H { s with heap := h', toks := t' } := by
  have nit : ∀ b u, H b = some u → b ≠ it := fun b u e z => by rw [z, hn] at e; cases e
  refine I.step (g' := s.gens) (d' := s.drawn) (ch := [it]) (fun b hb => ?_) (fun b o _ _ hc e _ => k b o (fun z => hc (by simp [z])) e) (fun b o _ _ hc e _ => ⟨o.slots, k b o (fun z => hc (by simp [z])) e⟩) (fun _ _ _ _ n => n)
    (fun b o hc e => ⟨o, k b o (fun z => hc (by simp [z])) e⟩) (fun _ _ e => e) (fun _ _ _ e => e) (fun b ps e => ⟨#[], by rw [e]; simp⟩) (fun m hm => ?_) (fun b u e => ?_) I.bare
  · have e : b = it := by simpa using hb
    subst e
    exact ⟨h1, hL, h2, h3⟩
  · obtain ⟨o, es, ep, ho, r⟩ := hm
    exact ⟨o, es, ep, k _ o (Ne.symm hL) ho, r⟩
  · refine (I.hok b u e).stay (fun c v hc q => k c v ?_ q) (fun _ q => q) fun _ _ q => q
    rcases hc with z | z
    · rw [z]; exact nit b u e
    · exact nit c _ z
theorem Inv.tok (I : Inv X pins σ H s) (t : Nat) : Inv X pins σ H { s with toks := t } := I.un (h' := s.heap) (t' := t) Un.refl I.hok
theorem Inv.kept {t' : Nat} (I : Inv X pins σ H s) (k : ∀ b u, s.heap.get? b = some u → h'.get? b = some u) : Inv X pins σ H { s with heap := h', toks := t' } := I.un (Un.kept k) (I.hok.kept k)
theorem Inv.laid {a : Addr} {o : HO} {t' : Nat} (I : Inv X pins σ H s) (k : ∀ b u, s.heap.get? b = some u → h'.get? b = some u) (hp : s.heap.objs.size ≤ a) (new : ObjOk X.prog X.w (upd H a o) h' a o) :
    Inv X pins σ (upd H a o) { s with heap := h', toks := t' } := I.un (Un.laid k hp (I.hok.fresh hp)) (I.hok.laid k hp new)
theorem Inv.write {x e : Addr} {o : HO} {t' : Nat} (I : Inv X pins σ H s) (mu : Mut (H x)) (he : e = x ∨ H e = some (.own x)) (k : ∀ b u, b ≠ e → s.heap.get? b = some u → h'.get? b = some u) (heo : ∃ u, h'.get? e = some u)
    (new : ObjOk X.prog X.w (upd H x o) h' x o) : Inv X pins σ (upd H x o) { s with heap := h', toks := t' } := I.un (Un.write mu he k heo) (I.hok.write mu he k heo new)
theorem Inv.pins_of {pins' : List (Addr × Obj)} (I : Inv X pins σ H s) (h : ∀ p ∈ pins', s.heap.get? p.1 = some p.2 ∧ H p.1 = none ∧ p.1 ≠ X.env.locals ∧ p.1 ∉ X.fs ∧ ∀ v, p.2.data ≠ .cell v) : Inv X pins' σ H s :=
  ⟨I.ok, I.os, I.bare, I.base, I.loc, I.cell, I.free, I.freeC, fun p hp => (List.mem_append.mp hp).elim (fun z => I.pin p (List.mem_append_left _ z)) (h p), I.hok, I.len⟩
theorem nodup_ix {N : List Str} (hN : N.Nodup) {i j : Nat} {x : Str} (a : N[i]? = some x) (b : N[j]? = some x) : i = j := by
  obtain ⟨h1, e1⟩ := List.getElem?_eq_some_iff.mp a
  obtain ⟨h2, e2⟩ := List.getElem?_eq_some_iff.mp b
  exact (List.getElem_inj hN).mp (e1.trans e2.symm)
theorem store_ok2 {M : Model} {A : Around} {E : Value → Shared → Prop} {i : Nat} {x : Str} {v : V} {u : Value} {Q : Unit → Shared → Prop} (I : Inv X pins σ H s) (hN : X.N.Nodup) (hi : X.N[i]? = some x) (hx : Loc X.env.scope x) (r : RelV v u)
    (h : ∀ s', Inv X pins (σ.set i (some v)) H s' → (∃ a, Heap.SameBut a s.heap s'.heap ∧ (a = X.env.locals ∨ X.env.cells.lookup x = some a)) → Q () s') (hf : X.fn x = true ∨ X.env.scope.names.lookup x = some .local := by first | exact .inl rfl | exact .inr rfl | assumption) : wpAny M A (storeName X.env x u) Q E s := by
  obtain ⟨m, hn, hl⟩ := id I.loc
  have hcls : (X.env.scope.kind == .class || (X.env.scope.kind == .module && X.env.locals != X.env.globals)) = false := by rw [I.ok.kind]; rfl
  have hiσ : i < σ.length := by rw [I.len]; exact (List.getElem?_eq_some_iff.mp hi).1
  have cne := I.cne
  have tracked : ∀ {a : Addr} {h' : Heap}, (∃ o, s.heap.get? a = some o ∧ H a = none) → Heap.SameBut a s.heap h' → HOk X.prog X.w H h' := fun {a h'} ha hs b ob e => by
    obtain ⟨_, _, hfree⟩ := ha
    refine (I.hok b ob e).stay (fun c w' hc q => (hs.2 c ?_).trans q) (fun _ q => q) fun _ _ q => q
    rintro rfl
    rcases hc with rfl | hc
    · rw [hfree] at e; cases e
    · rw [hfree] at hc; cases hc
  rcases hx with hk | hk
  · refine wpAny_storeName_local hk hn (fun h' hn' hs => ?_) hcls
    obtain ⟨oL, _, _, hoL, _⟩ := id hn
    refine h _ ⟨I.ok, I.os, I.bare, ⟨fun b o e n hb hx => ?_, fun b o e n hb hx => ?_, I.base.free, fun b o e hx => ?_, I.base.tups, I.base.frzs, I.base.tbls⟩, ⟨_, hn', fun j y v' e1 e2 e3 => ?_⟩, fun y c e => ?_, I.free, I.freeC, fun p hp => ?_, tracked ⟨oL, hoL, I.free⟩ hs, by simpa using I.len⟩ ⟨_, hs, .inl rfl⟩
    · exact (hs.2 b (Nat.ne_of_lt (Nat.lt_of_lt_of_le (Heap.lt_size e) I.ok.above))).trans (I.base.keep b o e n hb hx)
    · obtain ⟨sl, e1⟩ := I.base.slot b o e n hb hx
      exact ⟨sl, (hs.2 b (Nat.ne_of_lt (Nat.lt_of_lt_of_le (Heap.lt_size e) I.ok.above))).trans e1⟩
    · obtain ⟨o', e1⟩ := I.base.there b o e hx
      exact ⟨o', (hs.2 b (Nat.ne_of_lt (Nat.lt_of_lt_of_le (Heap.lt_size e) I.ok.above))).trans e1⟩
    · by_cases hj : j = i
      · subst hj
        rw [hi] at e1; cases e1
        rw [List.getElem?_set_self hiσ] at e2
        cases e2
        exact ⟨u, r, .inl ⟨hk, by simp⟩⟩
      · rw [List.getElem?_set_ne (Ne.symm hj)] at e2
        obtain ⟨u', r', q⟩ := hl j y v' e1 e2 e3
        refine ⟨u', r', ?_⟩
        rcases q with ⟨k, e⟩ | ⟨k, c, e, z⟩
        · refine .inl ⟨k, ?_⟩
          have : y ≠ x := fun e => hj (nodup_ix hN e1 (e ▸ hi))
          simp [this, e]
        · exact .inr ⟨k, c, e, z.sameBut hs (cne y c e)⟩
    · obtain ⟨w', z⟩ := I.cell y c e
      exact ⟨w', z.sameBut hs (cne y c e)⟩
    · obtain ⟨e, n, ne, nf, d⟩ := I.pin p hp
      exact ⟨(hs.2 p.1 ne).trans e, n, ne, nf, d⟩
  · have hfn : X.fn x = true := by
      rcases hf with z | z
      · exact z
      · rw [z] at hk; cases hk
    obtain ⟨c, hc⟩ := I.ok.has x (.inl hk)
    obtain ⟨w', z⟩ := I.cell x c hc
    refine wpAny_storeName_cell I.ok.kind hk hc z (fun h' hc' hs => ?_)
    obtain ⟨oc, hoc, hocd⟩ := id z
    refine h { s with heap := h' } ⟨I.ok, I.os, I.bare, ⟨fun b o e n hb hx => ?_, fun b o e n hb hx => ?_, I.base.free, fun b o e hx => ?_, I.base.tups, I.base.frzs, I.base.tbls⟩, ⟨m, hn.sameBut hs (Ne.symm (cne x c hc)), fun j y v' e1 e2 e3 => ?_⟩, fun y c' e => ?_, I.free, I.freeC, fun p hp => ?_, tracked ⟨oc, hoc, I.freeC x c hc⟩ hs, by simpa using I.len⟩ ⟨c, hs, .inr hc⟩
    · exact (hs.2 b (Nat.ne_of_lt (Nat.lt_of_lt_of_le (Heap.lt_size e) (I.ok.cab x c hfn hc)))).trans (I.base.keep b o e n hb hx)
    · obtain ⟨sl, e1⟩ := I.base.slot b o e n hb hx
      exact ⟨sl, (hs.2 b (Nat.ne_of_lt (Nat.lt_of_lt_of_le (Heap.lt_size e) (I.ok.cab x c hfn hc)))).trans e1⟩
    · obtain ⟨o', e1⟩ := I.base.there b o e hx
      exact ⟨o', (hs.2 b (Nat.ne_of_lt (Nat.lt_of_lt_of_le (Heap.lt_size e) (I.ok.cab x c hfn hc)))).trans e1⟩
    · by_cases hj : j = i
      · subst hj
        rw [hi] at e1; cases e1
        rw [List.getElem?_set_self hiσ] at e2
        cases e2
        exact ⟨u, r, .inr ⟨.inl hk, c, hc, hc'⟩⟩
      · rw [List.getElem?_set_ne (Ne.symm hj)] at e2
        obtain ⟨u', r', q⟩ := hl j y v' e1 e2 e3
        refine ⟨u', r', ?_⟩
        rcases q with q | ⟨k, c', e, z'⟩
        · exact .inl q
        · refine .inr ⟨k, c', e, z'.sameBut hs ?_⟩
          rintro rfl
          exact hj (nodup_ix hN e1 (I.ok.inj _ _ _ e hc ▸ hi))
    · by_cases hcc : c' = c
      · subst hcc; exact ⟨_, hc'⟩
      · obtain ⟨w2, z2⟩ := I.cell y c' e
        exact ⟨w2, z2.sameBut hs hcc⟩
    · obtain ⟨e, n, ne, nf, d⟩ := I.pin p hp
      refine ⟨(hs.2 p.1 ?_).trans e, n, ne, nf, d⟩
      intro q
      rw [q, hoc] at e
      have q' : oc = p.2 := Option.some.inj e
      exact d w' (by rw [← q']; exact hocd)
theorem store_ok {M : Model} {A : Around} {E : Value → Shared → Prop} {i : Nat} {x : Str} {v : V} {u : Value} {Q : Unit → Shared → Prop} (I : Inv X pins σ H s) (hN : X.N.Nodup) (hi : X.N[i]? = some x) (hx : Loc X.env.scope x) (r : RelV v u)
    (h : ∀ s', Inv X pins (σ.set i (some v)) H s' → Q () s') (hf : X.fn x = true ∨ X.env.scope.names.lookup x = some .local := by first | exact .inl rfl | exact .inr rfl | assumption) : wpAny M A (storeName X.env x u) Q E s :=
  store_ok2 I hN hi hx r (fun s' I' _ => h s' I') hf
theorem Inv.call' {s' : Shared} {ch : List Addr} (I : Inv X pins σ H s) (ho : s'.os = s.os) (u : Un (frs X.stack) ch H H' s.heap s'.heap) (hok : HOk X.prog X.w H' s'.heap) (hg : AllBare s'.gens)
    (hch : ∀ b ∈ ch, (b ∈ X.ex ∨ X.s₀.heap.objs.size ≤ b) ∧ b ≠ X.env.locals ∧ (∀ x c, X.env.cells.lookup x = some c → c ≠ b) ∧ ∀ p ∈ X.pn ++ pins, p.1 ≠ b) : Inv X pins σ H' s' := by
  obtain ⟨h', g', d', t', o'⟩ := s'
  have e : o' = s.os := ho
  subst e
  exact I.call (g' := g') (t' := t') (d' := d') u hok hg hch
end
abbrev XK := Value → Option Addr → Hp → Prop
abbrev St := List (Option V)
abbrev VK := V → Hp → Prop
abbrev TE := St → Hp → VK → Prop
abbrev TT := St → Hp → (Bool → Hp → Prop) → Prop
abbrev TA := St → Hp → (List V → Hp → Prop) → Prop
structure Ends where
  nx : St → Hp → Prop
  rt : VK
  bk : St → Hp → Prop := fun _ _ => False
  ct : St → Hp → Prop := fun _ _ => False
abbrev TS := Ends → St → Hp → Prop
def EP (X : Cx) (pins : List (Addr × Obj)) (σ : St) (Q : VK) (u : Value) (s' : Shared) : Prop := ∃ v H', Inv X pins σ H' s' ∧ RelV v u ∧ Q v H'
def TP (X : Cx) (pins : List (Addr × Obj)) (σ : St) (Q : Bool → Hp → Prop) (b : Bool) (s' : Shared) : Prop := ∃ H', Inv X pins σ H' s' ∧ Q b H'
def AP (X : Cx) (pins : List (Addr × Obj)) (σ : St) (Q : List V → Hp → Prop) (us : List Value) (s' : Shared) : Prop := ∃ vs H', Inv X pins σ H' s' ∧ Vals vs us ∧ Q vs H'
def SP (X : Cx) (pins : List (Addr × Obj)) (D : Ends) (f : Flow) (s' : Shared) : Prop :=
  match f with
  | .next => ∃ σ' H', Inv X pins σ' H' s' ∧ D.nx σ' H'
  | .brk => ∃ σ' H', Inv X pins σ' H' s' ∧ D.bk σ' H'
  | .cont => ∃ σ' H', Inv X pins σ' H' s' ∧ D.ct σ' H'
  | .ret u => ∃ v σ' H', Inv X pins σ' H' s' ∧ RelV v u ∧ D.rt v H'
def PE (X : Cx) (e : Expr) (t : TE) : Prop :=
  ∀ (pins : List (Addr × Obj)) (s : Shared) (σ : St) (H : Hp) (Q : VK), Inv X pins σ H s → t σ H Q → wpAny (model X.prog X.w) X.A (eval e X.env) (EP X pins σ Q) X.xe s
def PT (X : Cx) (e : Expr) (t : TT) : Prop :=
  ∀ (pins : List (Addr × Obj)) (s : Shared) (σ : St) (H : Hp) (Q : Bool → Hp → Prop), Inv X pins σ H s → t σ H Q → wpAny (model X.prog X.w) X.A (isTrue e X.env (eval e X.env)) (TP X pins σ Q) X.xe s
def PW (X : Cx) (e : Expr) (t : TT) : Prop :=
  ∀ (whole : Sem Value) (pins : List (Addr × Obj)) (s : Shared) (σ : St) (H : Hp) (Q : Bool → Hp → Prop), Inv X pins σ H s → t σ H Q → wpAny (model X.prog X.w) X.A (isTrue e X.env whole) (TP X pins σ Q) X.xe s
theorem PW.pt {X : Cx} {e : Expr} {t : TT} (h : PW X e t) : PT X e t := h _
def PA (X : Cx) (es : List Expr) (t : TA) : Prop :=
  ∀ (pos : Pos) (pins : List (Addr × Obj)) (s : Shared) (σ : St) (H : Hp) (Q : List V → Hp → Prop), Inv X pins σ H s → t σ H Q → wpAny (model X.prog X.w) X.A (spliced (backTo pos (starEach es X.env))) (AP X pins σ Q) X.xe s
def PS (X : Cx) (st : Stmt) (t : TS) : Prop :=
  ∀ (pins : List (Addr × Obj)) (s : Shared) (σ : St) (H : Hp) (D : Ends), Inv X pins σ H s → t D σ H → wpAny (model X.prog X.w) X.A (exec st X.env) (SP X pins D) X.xe s
def PSs (X : Cx) (st : List Stmt) (t : TS) : Prop :=
  ∀ (pins : List (Addr × Obj)) (s : Shared) (σ : St) (H : Hp) (D : Ends), Inv X pins σ H s → t D σ H → wpAny (model X.prog X.w) X.A (execs st X.env) (SP X pins D) X.xe s
theorem thn {α : Type} {t : Sem α} {Q Q' : α → Shared → Prop} {M : Model} {A : Around} {E : Value → Shared → Prop} {s : Shared} (h : wpAny M A t Q E s) (hQ : ∀ a s, Q a s → Q' a s) : wpAny M A t Q' E s := wpAny_mono h hQ fun _ _ x => x
end L2
namespace L2
open PySem PySem.Spec PyProof.Rows
section
variable {X : Cx}
theorem bin {a b : Expr} {ta tb : TE} (ha : PE X a ta) (hb : PE X b tb) {pins : List (Addr × Obj)} {s : Shared} {σ : St} {H : Hp} {R : V → V → Hp → Prop} (I : Inv X pins σ H s) (h : ta σ H fun x H1 => tb σ H1 fun y H2 => R x y H2)
    {α : Type} {Q : α → Shared → Prop} {f : Value → Value → Sem α}
    (hf : ∀ v u s2 x y H2, Inv X pins σ H2 s2 → RelV x v → RelV y u → R x y H2 → wpAny (model X.prog X.w) X.A (f v u) Q X.xe s2) :
    wpAny (model X.prog X.w) X.A (eval a X.env) (fun v s₁ => wpAny (model X.prog X.w) X.A (eval b X.env) (fun u s₂ => wpAny (model X.prog X.w) X.A (f v u) Q X.xe s₂) X.xe s₁) X.xe s := by
  refine thn (ha pins s σ H _ I h) fun v s1 ⟨x, H1, I1, r1, q1⟩ => ?_
  refine thn (hb pins s1 σ H1 _ I1 q1) fun u s2 ⟨y, H2, I2, r2, q2⟩ => ?_
  exact hf v u s2 x y H2 I2 r1 r2 q2
def tVar (i : Nat) : TE := fun σ H Q => ∃ v, σ[i]? = some (some v) ∧ Q v H
def tC (v : V) : TE := fun _ H Q => Q v H
theorem pe_var {i : Nat} {x : Str} {pos : Pos} (hN : X.N[i]? = some x) (hv : Vis X.env.scope x) (hd : (x == ("__debug__" : Str)) = false := by decide) (hcd : (x == ("__classdict__" : Str)) = false := by decide) : PE X (.Name x pos) (tVar i) := by
  intro pins s σ H Q I h
  obtain ⟨v, e, h⟩ := h
  obtain ⟨m, hn, hl⟩ := I.loc
  obtain ⟨u, r, l⟩ := hl i x v hN e hv
  have fin : EP X pins σ Q u s := ⟨v, H, I, r, h⟩
  rcases l with ⟨hk, hm⟩ | ⟨hk, c, hc, hcell⟩
  · exact wpAny_Name (wpAny_loadName_local I.ok.kind hk hn hm fin) hd
  · rcases hk with hk | hk
    · exact wpAny_Name (wpAny_loadName_cell I.ok.kind hk hc hcell fin) hd
    · exact wpAny_Name (wpAny_loadName_free I.ok.kind hk hc hcell fin hcd) hd
theorem pe_int {i j pos} : PE X (.Constant (.int i) j pos) (tC (.int i)) := fun _ _ _ H _ I h => wpAny_Constant_int ⟨.int i, H, I.tok _, ⟨_, rfl⟩, h⟩
theorem pe_bl {b j pos} : PE X (.Constant (.bool b) j pos) (tC (.bl b)) := fun _ _ _ H _ I h => Constant_bool ⟨.bl b, H, I, rfl, h⟩
theorem pe_str {x j pos} : PE X (.Constant (.str x) j pos) (tC (.str x)) := fun _ _ _ H _ I h => Calls.Constant_str ⟨.str x, H, I.tok _, ⟨_, rfl⟩, h⟩
def Gl (X : Cx) (x : Str) : Prop := X.env.kindOf x = some .globalImplicit
theorem ld_glob {E : Value → Shared → Prop} {pins : List (Addr × Obj)} {s : Shared} {σ : St} {H : Hp} {x : Str} {u : Value} {pos : Pos} {Q : Value → Shared → Prop} (I : Inv X pins σ H s) (hg : Gl X x) (hm : X.mg x = some u) (h : Q u s)
    (hd : (x == ("__debug__" : Str)) = false := by decide) : wpAny (model X.prog X.w) X.A (eval (.Name x pos) X.env) Q E s :=
  Calls.Name_function_global I.ok.kind hg (Calls.loadGlobal_global (by rw [I.ok.glob]; exact I.mod.glob.keeps I.bk) hm h) hd
theorem ld_blt {E : Value → Shared → Prop} {pins : List (Addr × Obj)} {s : Shared} {σ : St} {H : Hp} {x : Str} {u : Value} {pos : Pos} {Q : Value → Shared → Prop} (I : Inv X pins σ H s) (hg : Gl X x) (hm : X.mg x = none) (hv : bootBuiltins x = some u) (h : Q u s)
    (hn : x ≠ "__name__" := by decide) (hd : (x == ("__debug__" : Str)) = false := by decide) : wpAny (model X.prog X.w) X.A (eval (.Name x pos) X.env) Q E s := by
  obtain ⟨mb, h1, h2⟩ := I.mod.blt
  exact Calls.Name_function_global I.ok.kind hg (Calls.loadGlobal_builtin (by rw [I.ok.glob]; exact I.mod.glob.keeps I.bk) hm (by rw [I.ok.blt]; exact h1.keeps I.bk) ((h2 x hn).trans hv) h) hd
theorem pe_glob {x : Str} {v : V} {u : Value} {pos : Pos} (hg : Gl X x) (hm : X.mg x = some u) (r : RelV v u) (hd : (x == ("__debug__" : Str)) = false := by decide) : PE X (.Name x pos) (tC v) :=
  fun _ _ _ H _ I h => ld_glob I hg hm ⟨v, H, I, r, h⟩ hd
theorem pe_bltn {x : Str} {v : V} {u : Value} {pos : Pos} (hg : Gl X x) (hm : X.mg x = none) (hv : bootBuiltins x = some u) (r : RelV v u) (hn : x ≠ "__name__" := by decide) (hd : (x == ("__debug__" : Str)) = false := by decide) : PE X (.Name x pos) (tC v) :=
  fun _ _ _ H _ I h => ld_blt I hg hm hv ⟨v, H, I, r, h⟩ hn hd
variable {a b : Expr} {ta tb : TE} {pos : Pos}
def PC (X : Cx) (op : CmpOp) (a b : Expr) (t : TE) : Prop :=
  ∀ (pins : List (Addr × Obj)) (s : Shared) (σ : St) (H : Hp) (Q : VK), Inv X pins σ H s → t σ H Q →
    wpAny (model X.prog X.w) X.A (eval a X.env) (fun v s₁ => wpAny (model X.prog X.w) X.A (eval b X.env) (fun u s₂ => wpAny (model X.prog X.w) X.A (compareOp op v u) (EP X pins σ Q) X.xe s₂) X.xe s₁) X.xe s
theorem nobehind (b : Expr) {op : CmpOp} (h : op ≠ .In) (h2 : op ≠ .NotIn) : behindInMarks op b = false := by
  have e1 : (op == CmpOp.In) = false := by cases op <;> first | rfl | exact absurd rfl h
  have e2 : (op == CmpOp.NotIn) = false := by cases op <;> first | rfl | exact absurd rfl h2
  cases b <;> simp [behindInMarks, e1, e2]
def tB (t : TE) : TT := fun σ H Q => t σ H fun x H1 => ∃ c, x = .bl c ∧ Q c H1
theorem pt_cmp {op : CmpOp} {t : TE} (h : PC X op a b t) (h1 : behindInMarks op b = false := by first | exact nobehind _ (by decide) (by decide) | rfl) : PT X (.Compare a [op] [b] pos) (tB t) := by
  intro pins s σ H Q I hw
  refine wpAny_isTrue_Compare1 (thn (h pins s σ H _ I hw) fun v s1 h1 => thn h1 fun u s2 h2 => thn h2 fun c s3 ⟨x, H1, I1, r1, q1⟩ => ?_) h1
  obtain ⟨d, rfl, q⟩ := q1
  cases r1
  exact wpAny_truthy_bool ⟨H1, I1, q⟩
theorem pt_val {e : Expr} {t : TE} (h : PE X e t) (he : ∀ whole, isTrue e X.env whole = (do let v ← whole; standAt e.pos; holding [v] (truthy v)) := by intro _; rfl) : PT X e (tB t) := by
  intro pins s σ H Q I hw
  refine isTrue_plain (thn (h pins s σ H _ I hw) fun v s1 ⟨x, H1, I1, r1, q1⟩ => ?_) (he _)
  obtain ⟨d, rfl, q⟩ := q1
  cases r1
  exact wpAny_truthy_bool ⟨H1, I1, q⟩
variable {tA tB' : TT} {rest : List Expr}
def tOr (t u : TT) : TT := fun σ H Q => t σ H fun c H1 => if c = true then Q true H1 else u σ H1 Q
def tNot (t : TT) : TT := fun σ H Q => t σ H fun c H1 => Q (!c) H1
theorem pw_or1 (ha : PT X a tA) : PW X (.BoolOp .Or [a] pos) tA := by
  intro wh pins s σ H Q I h
  refine isTrue_or (thn (ha pins s σ H Q I h) fun c s1 e => ?_)
  cases c with
  | false => exact isTrue_or_nil e
  | true => exact e
theorem pw_or (ha : PT X a tA) (hb : PW X (.BoolOp .Or (b :: rest) pos) tB') : PW X (.BoolOp .Or (a :: b :: rest) pos) (tOr tA tB') := by
  intro wh pins s σ H Q I h
  refine isTrue_or (thn (ha pins s σ H _ I h) fun c s1 ⟨H1, I1, q1⟩ => ?_)
  cases c with
  | true => exact ⟨H1, I1, q1⟩
  | false => exact hb wh pins s1 σ H1 Q I1 q1
theorem pt_not (ha : PT X a tA) : PT X (.UnaryOp .Not a pos) (tNot tA) := by
  intro pins s σ H Q I h
  exact isTrue_not (ha pins s σ H (fun c H1 => Q (!c) H1) I h)
def tIf (t : TT) (ta tb : TE) : TE := fun σ H Q => t σ H fun c H1 => if c = true then ta σ H1 Q else tb σ H1 Q
theorem pe_ifExp {c : Expr} (hc : PT X c tA) (ha : PE X a ta) (hb : PE X b tb) : PE X (.IfExp c a b pos) (tIf tA ta tb) := by
  intro pins s σ H Q I h
  refine wpAny_IfExp (thn (hc pins s σ H _ I h) fun d s1 ⟨H1, I1, q1⟩ => ?_)
  cases d with
  | true => exact ha pins s1 σ H1 Q I1 q1
  | false => exact hb pins s1 σ H1 Q I1 q1
end
end L2
namespace L2
open PySem PySem.Spec PyProof.Rows
def SqL (K : PySem.W.Frag) (H : Hp) (a : Addr) (xs : List V) : Prop :=
  Rd H a (.lst xs) ∨
    ∃ (o : Obj) (its : Array Value) (n : Nat), K.lookup a = some o ∧ o.cls = .type "list" ∧ o.dict = none ∧ o.data = .seq its n ∧ its.size ≤ sizeLine ∧ Vals xs its.toList
def SqT (K : PySem.W.Frag) (H : Hp) (a : Addr) (xs : List V) : Prop :=
  Rd H a (.tup xs) ∨
    ∃ (o : Obj) (its : Array Value) (n : Nat), K.lookup a = some o ∧ o.cls = .type "tuple" ∧ o.data = .seq its n ∧ its.size ≤ sizeLine ∧ Vals xs its.toList
def absV : Value → Option V
  | .none => some .non
  | .bool b => some (.bl b)
  | .int i _ => some (.int i)
  | .str x _ => some (.str x)
  | .bytes b _ => some (.byt b)
  | .float b _ => some (.flt b)
  | .ref a => some (.ref a)
  | .type n => some (.ty n)
  | _ => none
theorem RelV.abs {x : V} {u : Value} (r : RelV x u) : absV u = some x := by
  cases x with
  | non => cases r; rfl
  | bl _ => cases r; rfl
  | int _ => obtain ⟨t, rfl⟩ := r; rfl
  | str _ => obtain ⟨t, rfl⟩ := r; rfl
  | byt _ => obtain ⟨t, rfl⟩ := r; rfl
  | flt _ => obtain ⟨t, rfl⟩ := r; rfl
  | ref _ => cases r; rfl
  | ty _ => cases r; rfl
theorem RelV.inj {x y : V} {u : Value} (r : RelV x u) (q : RelV y u) : x = y := Option.some.inj (r.abs.symm.trans q.abs)
theorem Vals.inj : ∀ {xs ys : List V} {us : List Value}, Vals xs us → Vals ys us → xs = ys
  | _, _, _, .nil, .nil => rfl
  | _, _, _, .cons r t, .cons r' t' => by rw [r.inj r', Vals.inj t t']
section
variable {X : Cx} {pins : List (Addr × Obj)} {σ : St} {H : Hp} {s : Shared} {a : Addr} {xs ys : List V}
theorem SqL.of {K : PySem.W.Frag} (h : H a = some (.lst xs)) : SqL K H a xs := .inl (.inl h)
theorem SqT.of {K : PySem.W.Frag} (h : H a = some (.tup xs)) : SqT K H a xs := .inl (.inl h)
theorem Inv.list (I : Inv X pins σ H s) (h : SqL X.K H a xs) : ∃ its : List Value, Vals xs its ∧ PlainL s.heap a its.toArray ∧ xs.length ≤ sizeLine := by
  rcases h with h | ⟨o, its, n, hk, hc, hd, hs, hz, r⟩
  · obtain ⟨z, its, n, r, e⟩ := h.ok I.hok
    exact ⟨its, r, ⟨_, n, e, rfl, rfl, rfl⟩, z⟩
  · refine ⟨its.toList, r, ⟨o, n, I.kIn a o hk, hc, hd, by simpa using hs⟩, ?_⟩
    have e := r.length
    simp only [Array.length_toList] at e
    omega
theorem Inv.tuple (I : Inv X pins σ H s) (h : SqT X.K H a xs) : ∃ its : List Value, Vals xs its ∧ IsTup s.heap a its.toArray ∧ xs.length ≤ sizeLine := by
  rcases h with h | ⟨o, its, n, hk, hc, hs, hz, r⟩
  · obtain ⟨z, its, r, p⟩ := h.ok I.hok
    exact ⟨its, r, p, z⟩
  · refine ⟨its.toList, r, ⟨o, I.kIn a o hk, hc, n, by simpa using hs⟩, ?_⟩
    have e := r.length
    simp only [Array.length_toList] at e
    omega
theorem Inv.list_inj (I : Inv X pins σ H s) (h : SqL X.K H a xs) (h' : SqL X.K H a ys) : xs = ys := by
  obtain ⟨its, r, ⟨o, n, e, _, _, d⟩, _⟩ := I.list h
  obtain ⟨its', r', ⟨o', n', e', _, _, d'⟩, _⟩ := I.list h'
  rw [e] at e'; cases e'
  rw [d] at d'
  injection d' with d1 _
  have : its = its' := by simpa using congrArg Array.toList d1
  subst this
  exact r.inj r'
end
abbrev Cx.wish (X : Cx) (E : Value → Shared → Prop) : Cx := { X with xe := E }
abbrev Cx.nox (X : Cx) : Cx := X.wish fun _ _ => False
theorem Cx.Ok.wish {X : Cx} (ok : X.Ok) (E : Value → Shared → Prop) : (X.wish E).Ok :=
  ⟨ok.mod, ok.kind, ok.glob, ok.blt, ok.above, ok.inj, ok.has, ok.cab, ok.hd, ok.frames, ok.stk, ok.exf, ok.bs, ok.bsz, ok.noex, ok.exfs, ok.funs, ok.frf⟩
theorem Cx.Ok.unwish {X : Cx} {E : Value → Shared → Prop} (ok : (X.wish E).Ok) : X.Ok :=
  ⟨ok.mod, ok.kind, ok.glob, ok.blt, ok.above, ok.inj, ok.has, ok.cab, ok.hd, ok.frames, ok.stk, ok.exf, ok.bs, ok.bsz, ok.noex, ok.exfs, ok.funs, ok.frf⟩
section
variable {X : Cx} {pins : List (Addr × Obj)} {σ : St} {H : Hp} {s : Shared} {E : Value → Shared → Prop}
theorem Inv.wish (I : Inv X pins σ H s) (E : Value → Shared → Prop) : Inv (X.wish E) pins σ H s := ⟨I.ok.wish E, I.os, I.bare, I.base, I.loc, I.cell, I.free, I.freeC, I.pin, I.hok, I.len⟩
theorem Inv.unwish (I : Inv (X.wish E) pins σ H s) : Inv X pins σ H s := ⟨I.ok.unwish, I.os, I.bare, I.base, I.loc, I.cell, I.free, I.freeC, I.pin, I.hok, I.len⟩
theorem SP.unwish {D : Ends} {f : Flow} {s' : Shared} (h : SP (X.wish E) pins D f s') : SP X pins D f s' := by
  cases f with
  | next => obtain ⟨σ', H', I, q⟩ := h; exact ⟨σ', H', I.unwish, q⟩
  | brk => obtain ⟨σ', H', I, q⟩ := h; exact ⟨σ', H', I.unwish, q⟩
  | cont => obtain ⟨σ', H', I, q⟩ := h; exact ⟨σ', H', I.unwish, q⟩
  | ret u => obtain ⟨v, σ', H', I, r, q⟩ := h; exact ⟨v, σ', H', I.unwish, r, q⟩
theorem PE.nox {e : Expr} {t : TE} (h : PE X.nox e t) : PE X e t := fun pins s σ H Q I hw =>
  wpAny_mono (h pins s σ H Q (I.wish _) hw) (fun _ _ ⟨v, H', I', r, q⟩ => ⟨v, H', I'.unwish, r, q⟩) fun _ _ z => False.elim z
theorem PT.nox {e : Expr} {t : TT} (h : PT X.nox e t) : PT X e t := fun pins s σ H Q I hw =>
  wpAny_mono (h pins s σ H Q (I.wish _) hw) (fun _ _ ⟨H', I', q⟩ => ⟨H', I'.unwish, q⟩) fun _ _ z => False.elim z
theorem PSs.nox {st : List Stmt} {t : TS} (h : PSs X.nox st t) : PSs X st t := fun pins s σ H D I hw =>
  wpAny_mono (h pins s σ H D (I.wish _) hw) (fun _ _ q => q.unwish) fun _ _ z => False.elim z
end
section
variable {X : Cx} {st : Stmt} {rest : List Stmt} {t u : TS} {e : Expr} {te : TE} {pos : Pos}
def tNext : TS := fun D σ H => D.nx σ H
def tSeq (t u : TS) : TS := fun D σ H => t { D with nx := u D } σ H
theorem pss_nil : PSs X [] tNext := fun _ _ σ H _ I h => wpAny_execs_nil ⟨σ, H, I, h⟩
theorem pss_cons (h1 : PS X st t) (h2 : PSs X rest u) : PSs X (st :: rest) (tSeq t u) := by
  intro pins s σ H D I h
  refine wpAny_execs_cons (thn (h1 pins s σ H { D with nx := u D } I h) fun f s1 q => ?_)
  cases f with
  | next =>
    obtain ⟨σ', H', I', q⟩ := q
    exact h2 pins s1 σ' H' D I' q
  | ret v => exact q
  | brk => exact q
  | cont => exact q
theorem pss_one (h1 : PS X st t) : PSs X [st] t := by
  intro pins s σ H D I h
  refine wpAny_execs_cons (thn (h1 pins s σ H D I h) fun f s1 q => ?_)
  cases f with
  | next => exact wpAny_execs_nil q
  | ret v => exact q
  | brk => exact q
  | cont => exact q
theorem Inv.quiet {pins : List (Addr × Obj)} {σ : St} {H : Hp} {s : Shared} (I : Inv X pins σ H s) : interactive X.env = false := by simp [interactive, I.ok.kind]
def tDrop (te : TE) : TS := fun D σ H => te σ H fun _ H1 => D.nx σ H1
theorem ps_expr (he : PE X e te) (hs : swapsWith e none pos.line X.env = pure false := by rfl) : PS X (.Expr e pos) (tDrop te) := by
  intro pins s σ H D I h
  exact wpAny_Expr_any (thn (he pins s σ H _ I h) fun v s1 ⟨x, H1, I1, r1, q1⟩ => ⟨σ, H1, I1, q1⟩) I.quiet hs
def tRet (te : TE) : TS := fun D σ H => te σ H D.rt
theorem ps_ret (he : PE X e te) : PS X (.Return (some e) pos) (tRet te) := by
  intro pins s σ H D I h
  exact wpAny_Return_some (thn (he pins s σ H _ I h) fun v s1 ⟨x, H1, I1, r1, q1⟩ => ⟨x, σ, H1, I1, r1, q1⟩)
def tIfS (c : TT) (t u : TS) : TS := fun D σ H => c σ H fun b H1 => if b = true then t D σ H1 else u D σ H1
theorem ps_if {c : Expr} {a b : List Stmt} {tc : TT} (hc : PT X c tc) (ha : PSs X a t) (hb : PSs X b u) : PS X (.If c a b pos) (tIfS tc t u) := by
  intro pins s σ H D I h
  refine wpAny_If (thn (hc pins s σ H _ I h) fun d s1 ⟨H1, I1, q1⟩ => ?_)
  cases d with
  | true => exact ha pins s1 σ H1 D I1 q1
  | false => exact hb pins s1 σ H1 D I1 q1
def tNever : TS := fun _ _ _ => False
theorem pss_never {sts : List Stmt} : PSs X sts tNever := fun _ _ _ _ _ _ h => h.elim
end
abbrev TG := V → St → Hp → (St → Hp → Prop) → Prop
def PG (X : Cx) (target : Expr) (t : TG) : Prop :=
  ∀ (pins : List (Addr × Obj)) (s : Shared) (σ : St) (H : Hp) (v : V) (u : Value) (Q : St → Hp → Prop), Inv X pins σ H s → RelV v u → t v σ H Q →
    wpAny (model X.prog X.w) X.A (assign target X.env u) (fun _ s' => ∃ σ' H', Inv X pins σ' H' s' ∧ Q σ' H') X.xe s
abbrev TSet := V → V → V → Hp → (Hp → Prop) → Prop
def PSet (X : Cx) (t : TSet) : Prop :=
  ∀ (pins : List (Addr × Obj)) (s : Shared) (σ : St) (H : Hp) (o i v : V) (ov iv u : Value) (Q : Hp → Prop), Inv X pins σ H s → RelV o ov → RelV i iv → RelV v u → t o i v H Q →
    wpAny (model X.prog X.w) X.A (setItem ov iv u) (fun _ s' => ∃ H', Inv X pins σ H' s' ∧ Q H') X.xe s
section
variable {X : Cx} {pos : Pos}
def gName (i : Nat) : TG := fun v σ H Q => Q (σ.set i (some v)) H
theorem pg_name {i : Nat} {x : Str} (hN : X.N.Nodup) (hi : X.N[i]? = some x) (hx : Loc X.env.scope x) (hf : X.fn x = true ∨ X.env.scope.names.lookup x = some .local := by first | exact .inl rfl | exact .inr rfl | assumption) : PG X (.Name x pos) (gName i) := by
  intro pins s σ H v u Q I r h
  exact wpAny_assign_Name (store_ok I hN hi hx r (fun s' I' => ⟨_, H, I', h⟩) hf)
def gSub (to ti : TE) (t : TSet) : TG := fun v σ H Q => to σ H fun o H1 => ti σ H1 fun i H2 => t o i v H2 fun H3 => Q σ H3
theorem pg_sub {o i : Expr} {to ti : TE} {t : TSet} (ho : PE X o to) (hi : PE X i ti) (hs : PSet X t)
    (ha : ∀ v, assign (.Subscript o i pos) X.env v = (do
      let ov ← holding [v] (eval o X.env)
      let iv ← holding [v, ov] (eval i X.env)
      standAt pos
      holding [v, ov, iv] (setItem ov iv v)
      release [v, ov, iv] []) := by intro _; rfl) : PG X (.Subscript o i pos) (gSub to ti t) := by
  intro pins s σ H v u Q I r h
  rw [ha]
  refine wpAny_bind (wpAny_holding (thn (ho pins s σ H _ I h) fun ov s1 ⟨x, H1, I1, r1, q1⟩ => ?_))
  refine wpAny_bind (wpAny_holding (thn (hi pins s1 σ H1 _ I1 q1) fun iv s2 ⟨y, H2, I2, r2, q2⟩ => ?_))
  refine wpAny_bind (wpAny_standAt (wpAny_bind (wpAny_holding (thn (hs pins s2 σ H2 x y v ov iv u _ I2 r1 r2 r q2) fun _ s3 ⟨H3, I3, q3⟩ => ?_))))
  exact wpAny_release ⟨σ, H3, I3, q3⟩
def tAsg (te : TE) (g : TG) : TS := fun D σ H => te σ H fun x H1 => g x σ H1 D.nx
theorem ps_asg {tg e : Expr} {te : TE} {g : TG} (he : PE X e te) (hg : PG X tg g) (hs : swapsWithSole [tg] e pos.line X.env = pure false := by rfl) (hw : swappedStores [tg] e X.env = pure none := by rfl)
    (h1 : (assignEach [tg] X.env).map (·.2) = [assign tg X.env] := by rfl) : PS X (.Assign [tg] e pos) (tAsg te g) := by
  intro pins s σ H D I h
  refine wpAny_Assign_stores (thn (he pins s σ H _ I h) fun v s1 ⟨x, H1, I1, r1, q1⟩ => ?_) hs hw
  rw [h1]
  exact thn (hg pins s1 σ H1 x v _ I1 r1 q1) fun _ s2 q => q
theorem ps_set {i : Nat} {x : Str} {e : Expr} {te : TE} {pos' : Pos} (hN : X.N.Nodup) (hi : X.N[i]? = some x) (hx : Loc X.env.scope x) (he : PE X e te) (hs : swapsWith e (some (.Name x pos')) pos.line X.env = pure false := by rfl) (hf : X.fn x = true ∨ X.env.scope.names.lookup x = some .local := by first | exact .inl rfl | exact .inr rfl | assumption) :
    PS X (.Assign [.Name x pos'] e pos) (tAsg te (gName i)) := by
  intro pins s σ H D I h
  refine wpAny_Assign_Name (thn (he pins s σ H _ I h) fun v s1 ⟨y, H1, I1, r1, q1⟩ => ?_) hs
  exact store_ok I1 hN hi hx r1 (fun s2 I2 => ⟨_, H1, I2, q1⟩) hf
end
section
variable {X : Cx} {pos : Pos}
end
structure It where
  go : Nat → Hp → Prop
  yld : Nat → Hp → V → Hp → Prop
  stop : Nat → Hp → Prop
def FpOk (X : Cx) (pins : List (Addr × Obj)) (H : Hp) (b : Addr) : Prop :=
  H b = none ∧ b ≠ X.env.locals ∧ b ∉ X.fs ∧ (b ∈ X.ex ∨ X.s₀.heap.objs.size ≤ b) ∧ (∀ x c, X.env.cells.lookup x = some c → c ≠ b) ∧ ∀ p ∈ X.pn ++ pins, p.1 ≠ b
theorem Inv.fpOk {X : Cx} {pins : List (Addr × Obj)} {σ : St} {H H' : Hp} {s : Shared} {b : Addr} (I : Inv X pins σ H s) (hb : s.heap.objs.size ≤ b) (hn : H' b = none) : FpOk X pins H' b := by
  refine ⟨hn, Nat.ne_of_gt (Nat.lt_of_lt_of_le I.lt hb), I.nofs hb, .inr (Nat.le_trans I.sz hb), fun x c e z => ?_, fun p hp z => ?_⟩
  · obtain ⟨v, q⟩ := I.cell x c e
    exact absurd (Nat.lt_of_lt_of_le q.lt (by rw [z]; exact hb)) (Nat.lt_irrefl _)
  · exact absurd (Nat.lt_of_lt_of_le (Heap.lt_size (I.pin p hp).1) (by rw [z]; exact hb)) (Nat.lt_irrefl _)
structure Turn (P : Program) (w : World) (K : PySem.W.Frag) (tg : Expr) (J : It) (fp : List Addr) (it : Addr) (tn : Nat → Heap → Prop) : Prop where
  mem : it ∈ fp
  obj : ∀ i h, tn i h → ∀ b ∈ fp, ∃ o, h.get? b = some o ∧ ∀ v, o.data ≠ .cell v
  keep : ∀ i h h', tn i h → (∀ b ∈ fp, ∀ o, h.get? b = some o → h'.get? b = some o) → tn i h'
  item : ∀ (X : Cx), X.prog = P → X.w = w → X.K = K → X.calm = true → ∀ (i : Nat) (pins : List (Addr × Obj)) (s : Shared) (σ : St) (H : Hp) (E : Value → Shared → Prop), Inv X pins σ H s → (∀ b ∈ fp, FpOk X pins H b) → tn i s.heap → J.go i H →
    wpAny (model P w) X.A (pyNext (.ref it)) (fun r s1 => ∃ u, r = some u ∧
      wpAny (model P w) X.A (letOwnedTupleGo tg (.ref it) u) (fun _ s2 => ∃ x H', Inv X pins σ H' s2 ∧ RelV x u ∧ J.yld i H x H' ∧ tn (i + 1) s2.heap ∧ ∀ b ∈ fp, H' b = none) E s1) E s
  done : ∀ (X : Cx), X.prog = P → X.w = w → X.K = K → X.calm = true → ∀ (i : Nat) (pins : List (Addr × Obj)) (s : Shared) (σ : St) (H : Hp) (E : Value → Shared → Prop), Inv X pins σ H s → (∀ b ∈ fp, FpOk X pins H b) → tn i s.heap → J.stop i H →
    wpAny (model P w) X.A (pyNext (.ref it)) (fun r s1 => r = none ∧ Inv X pins σ H s1) E s
  self : ∀ (A : Around) (i : Nat) (s : Shared) (Q : Value → Shared → Prop) (E : Value → Shared → Prop), tn i s.heap → Q (.ref it) s → wpAny (model P w) A (pyIter (.ref it)) Q E s
abbrev TI := St → Hp → (It → Hp → Prop) → Prop
def PIE (X : Cx) (pins : List (Addr × Obj)) (σ : St) (tg : Expr) (R : It → Hp → Prop) (itv : Value) (s2 : Shared) : Prop :=
  ∃ (it : Addr) (fp : List Addr) (tn : Nat → Heap → Prop) (J : It) (H' : Hp), itv = .ref it ∧ Inv X pins σ H' s2 ∧ Turn X.prog X.w X.K tg J fp it tn ∧ tn 0 s2.heap ∧ (∀ b ∈ fp, FpOk X pins H' b) ∧ R J H'
def PI (X : Cx) (tg iter : Expr) (wi : TI) : Prop :=
  ∀ (pins : List (Addr × Obj)) (s : Shared) (σ : St) (H : Hp) (R : It → Hp → Prop), Inv X pins σ H s → wi σ H R →
    wpAny (model X.prog X.w) X.A (eval iter X.env) (fun v s1 => wpAny (model X.prog X.w) X.A (pyIter v) (PIE X pins σ tg R) X.xe s1) X.xe s
theorem go_of {M : Model} {A : Around} {E : Value → Shared → Prop} {s : Shared} {tg : Expr} {it : Addr} {u : Value} {o : Obj} {n : String} {vs : Array Value} {Q : Unit → Shared → Prop} (ho : s.heap.get? it = some o) (hc : o.cls = .type n) (hd : o.data = .fields vs)
    (hn : ["enumerate", "zip", "dict_itemiterator", "dict_reverseitemiterator", "odict_iterator", "itertools.zip_longest", "itertools.pairwise"].contains n = false) (hQ : Q () s) : wpAny M A (letOwnedTupleGo tg (.ref it) u) Q E s := by
  unfold letOwnedTupleGo
  cases tg <;> first
    | exact wpAny_pure hQ
    | (cases u <;> first
        | exact wpAny_pure hQ
        | (refine wpAny_bind (wpAny_load ho ?_)
           rw [hc, hd]
           show wpAny M A (if (["enumerate", "zip", "dict_itemiterator", "dict_reverseitemiterator", "odict_iterator", "itertools.zip_longest", "itertools.pairwise"].contains n && vs[0]? == some (rawInt _)) = true then _ else _) Q E s
           rw [if_neg (by intro h; rw [hn, Bool.false_and] at h; cases h)]
           exact wpAny_pure hQ))
def Itl (K : PySem.W.Frag) (a : Addr) : It :=
  ⟨fun i H => ∃ xs x, SqL K H a xs ∧ xs[i]? = some x, fun i H x H' => H' = H ∧ ∀ xs, SqL K H a xs → xs[i]? = some x, fun i H => ∃ xs, SqL K H a xs ∧ xs.length ≤ i⟩
def Itr (lo : Int) (n : Nat) : It := ⟨fun i _ => i < n, fun i H x H' => H' = H ∧ x = .int (lo + i), fun i _ => n ≤ i⟩
theorem turn_list {P : Program} {w : World} {K : PySem.W.Frag} {tg : Expr} (a it : Addr) : Turn P w K tg (Itl K a) [it] it (fun i h => h.IsListIter it a i) where
  mem := by simp
  obj := fun i h st b hb => by
    have e : b = it := by simpa using hb
    subst e
    obtain ⟨o, e, c, d⟩ := st
    exact ⟨o, e, fun v z => by rw [d] at z; cases z⟩
  keep := fun i h h' st k => st.at fun o e => k it (by simp) o e
  item := by
    intro X hP hw hK hc i pins s σ H E I hf st hg
    subst hP hw hK
    obtain ⟨xs, x, hq, hx⟩ := hg
    obtain ⟨its, rv, p, hz⟩ := I.list hq
    obtain ⟨u, hu, ru⟩ := rv.get hx
    obtain ⟨f0, f1, f2, f3, f4, f5⟩ := hf it (by simp)
    refine wpAny_pyNext_list_item st p.isList (x := u) (by simpa using hu) fun h' st' sb => ?_
    have I1 : Inv X pins σ H { s with heap := h' } := I.turned (t' := s.toks) (fun b o hb e => (sb.2 b hb).trans e) f0 f1 f3 f4 f5
    obtain ⟨o, e, c, d⟩ := id st'
    exact ⟨u, rfl, go_of (s := { s with heap := h' }) e c d (by decide) ⟨x, H, I1, ru, ⟨rfl, fun ys hy => by rw [I.list_inj hy hq]; exact hx⟩, st', fun b hb => (hf b hb).1⟩⟩
  done := by
    intro X hP hw hK hc i pins s σ H E I hf st hg
    subst hP hw hK
    obtain ⟨xs, hq, hx⟩ := hg
    obtain ⟨its, rv, p, hz⟩ := I.list hq
    obtain ⟨f0, f1, f2, f3, f4, f5⟩ := hf it (by simp)
    have hl := rv.length
    exact wpAny_pyNext_list_end (I.ok.hd hc) st p.isList (by simp; omega) fun h' eb => ⟨rfl, I.turned (t' := s.toks) (fun b o hb e => eb b o hb e) f0 f1 f3 f4 f5⟩
  self := fun _ _ _ _ _ st h => wpAny_pyIter_listiter st h
theorem turn_range {P : Program} {w : World} {K : PySem.W.Frag} {tg : Expr} (it : Addr) (lo : Int) (n : Nat) : Turn P w K tg (Itr lo n) [it] it (fun i h => IsRangeIter h it (lo + (i : Nat) * 1) ((n : Int) - (i : Nat)) 1) where
  mem := by simp
  obj := fun i h st b hb => by
    have e : b = it := by simpa using hb
    subst e
    exact ⟨_, st, fun v z => by
      have z' : Data.fields _ = Data.cell v := z
      cases z'⟩
  keep := fun i h h' st k => k it (by simp) _ st
  item := by
    intro X hP hw hK hc i pins s σ H E I hf st hg
    subst hP hw hK
    obtain ⟨f0, f1, f2, f3, f4, f5⟩ := hf it (by simp)
    have W := Walks.range (prog := X.prog) (w := X.w) (I.ok.hd hc) it lo 1 n
    refine W.item i s _ _ hg st fun v h' tk hv st' kk => ?_
    obtain ⟨t, rfl⟩ := hv
    have I1 : Inv X pins σ H { s with heap := h', toks := tk } := I.turned (fun b o hb e => kk b o (by simpa using hb) e) f0 f1 f3 f4 f5
    refine ⟨_, rfl, go_of (s := { s with heap := h', toks := tk }) (n := "range_iterator") st' rfl rfl (by decide) ⟨.int (lo + i), H, I1, ⟨t, ?_⟩, ⟨rfl, rfl⟩, st', fun b hb => (hf b hb).1⟩⟩
    rw [Int.mul_one]
  done := by
    intro X hP hw hK hc i pins s σ H E I hf st hg
    subst hP hw hK
    obtain ⟨f0, f1, f2, f3, f4, f5⟩ := hf it (by simp)
    exact wpAny_pyNext_range_end (I.ok.hd hc) st (by have : n ≤ i := hg; omega) fun h' eb => ⟨rfl, I.turned (t' := s.toks) (fun b o hb e => eb b o hb e) f0 f1 f3 f4 f5⟩
  self := fun _ _ _ _ _ st h => wpAny_pyIter_rangeiter st h
end L2
namespace L2
open PySem PySem.Spec PyProof.Rows
section
variable {X : Cx} {tg : Expr}
def iList (K : PySem.W.Frag) (tl : TE) : TI := fun σ H R => tl σ H fun x H1 => ∃ a, x = .ref a ∧ (∃ xs, SqL K H1 a xs) ∧ R (Itl K a) H1
theorem pi_list {l : Expr} {tl : TE} (hl : PE X l tl) : PI X tg l (iList X.K tl) := by
  intro pins s σ H R I h
  refine thn (hl pins s σ H _ I h) fun v s1 ⟨x, H1, I1, r1, q1⟩ => ?_
  obtain ⟨a, e, ⟨xs, hq⟩, q⟩ := q1
  subst e
  cases r1
  obtain ⟨its, rv, p, hz⟩ := I1.list hq
  refine wpAny_pyIter_list p.isList ?_
  refine ⟨s1.heap.objs.size, [s1.heap.objs.size], _, _, H1, rfl, I1.kept (t' := s1.toks) fun b o e => Heap.get?_push_of_some _ e, turn_list a _, ⟨_, Heap.get?_push_size _ rfl, rfl, rfl⟩, fun b hb => ?_, q⟩
  have e : b = s1.heap.objs.size := by simpa using hb
  subst e
  exact I1.fpOk (Nat.le_refl _) (I1.hok.fresh (Nat.le_refl _))
theorem range_it {pins : List (Addr × Obj)} {σ : St} {H : Hp} {s : Shared} {R : It → Hp → Prop} {E : Value → Shared → Prop} {lo hi : Int} {t u v : Tok} {tk : Nat} (I : Inv X pins σ H s) (h1 : -(2 ^ 62) ≤ lo) (h2 : lo < 2 ^ 62) (h3 : -(2 ^ 62) ≤ hi) (h4 : hi < 2 ^ 62)
    (q : R (Itr lo (hi - lo).toNat) H) : wpAny (model X.prog X.w) X.A (pyIter (.ref s.heap.objs.size)) (PIE X pins σ tg R) E { s with heap := s.heap.push { cls := .type "range", data := .fields #[.int lo t, .int hi u, .int 1 v] }, toks := tk } := by
  refine wpAny_pyIter_range (IsRange.new ..) (small_one h1 h2 h3 h4) ?_
  have I1 : Inv X pins σ H { s with heap := s.heap.push { cls := .type "range", data := .fields #[.int lo t, .int hi u, .int 1 v] }, toks := tk } := I.kept fun b o e => Heap.get?_push_of_some _ e
  refine ⟨(s.heap.push { cls := .type "range", data := .fields #[.int lo t, .int hi u, .int 1 v] }).objs.size, [(s.heap.push { cls := .type "range", data := .fields #[.int lo t, .int hi u, .int 1 v] }).objs.size], _, _, H, rfl,
    I1.kept (t' := tk) fun b o e => Heap.get?_push_of_some _ e, turn_range _ lo (hi - lo).toNat, ?_, fun b hb => ?_, q⟩
  · have e1 : lo + ((0 : Nat) : Int) * 1 = lo := by simp
    have e2 : (((hi - lo).toNat : Nat) : Int) - ((0 : Nat) : Int) = Builtin.Range.rangeSize lo hi 1 := by rw [rangeSize_one]; split <;> omega
    show IsRangeIter _ _ (lo + ((0 : Nat) : Int) * 1) ((((hi - lo).toNat : Nat) : Int) - ((0 : Nat) : Int)) 1
    rw [e1, e2]
    exact Heap.get?_push_size _ rfl
  · have e : b = (s.heap.push { cls := .type "range", data := .fields #[.int lo t, .int hi u, .int 1 v] }).objs.size := by simpa using hb
    subst e
    exact I1.fpOk (Nat.le_refl _) (I1.hok.fresh (Nat.le_refl _))
def iRng1 (ta : TA) : TI := fun σ H R => ta σ H fun vs H1 => ∃ j : Int, vs = [.int j] ∧ -(2 ^ 62) ≤ j ∧ j < 2 ^ 62 ∧ R (Itr 0 j.toNat) H1
theorem pi_range1 {a : Expr} {ta : TA} {p pos : Pos} (hg : Gl X "range") (hm : X.mg "range" = none) (ha : PA X [a] ta) (hs : starEach [a] X.env = [(false, eval a X.env)] := by rfl) : PI X tg (.Call (.Name "range" p) [a] [] pos) (iRng1 ta) := by
  intro pins s σ H R I h
  refine Call_ (ld_blt I hg hm boot_range (PyProof.Rows.callWith_type1 (thn (ha pos pins s σ H _ I h) fun us s1 ⟨vs, H1, I1, r1, q1⟩ => ?_) hs rfl))
  obtain ⟨j, e, q1, q2, q⟩ := q1
  subst e
  cases r1 with
  | cons r rr =>
    cases rr
    obtain ⟨t, rfl⟩ := r
    exact call_range_1 (range_it I1 (by omega) (by omega) q1 q2 (by simpa using q))
def tFor (wi : TI) (g : TG) (tb : TS) : TS := fun D σ H => wi σ H fun J H1 => ∃ W : Nat → Nat → St → Hp → Prop, (∃ m, W 0 m σ H1) ∧ ∀ i m σ H, W i m σ H →
  (J.stop i H ∧ D.nx σ H) ∨ (J.go i H ∧ ∃ N : St → Hp → Prop, (∀ σ' H', N σ' H' → ∃ m', m' < m ∧ W (i + 1) m' σ' H') ∧ ∀ x H', J.yld i H x H' → g x σ H' fun σ2 H2 => tb { D with nx := N, ct := N, bk := D.nx } σ2 H2)
def pinsAt (fp : List Addr) (h : Heap) : List (Addr × Obj) := fp.filterMap fun b => (h.get? b).map fun o => (b, o)
theorem mem_pinsAt {fp : List Addr} {h : Heap} {b : Addr} {o : Obj} (hb : b ∈ fp) (e : h.get? b = some o) : (b, o) ∈ pinsAt fp h := List.mem_filterMap.mpr ⟨b, hb, by rw [e]; rfl⟩
theorem of_pinsAt {fp : List Addr} {h : Heap} {p : Addr × Obj} (hp : p ∈ pinsAt fp h) : p.1 ∈ fp ∧ h.get? p.1 = some p.2 := by
  obtain ⟨b, hb, e⟩ := List.mem_filterMap.mp hp
  cases q : h.get? b with
  | none => rw [q] at e; cases e
  | some o =>
    rw [q] at e
    have e' : (b, o) = p := Option.some.inj e
    subst e'
    exact ⟨hb, q⟩
theorem Inv.pinned {pins : List (Addr × Obj)} {σ : St} {H : Hp} {s : Shared} {fp : List Addr} (I : Inv X pins σ H s) (hf : ∀ b ∈ fp, FpOk X pins H b) (ho : ∀ b ∈ fp, ∃ o, s.heap.get? b = some o ∧ ∀ v, o.data ≠ .cell v) : Inv X (pins ++ pinsAt fp s.heap) σ H s :=
  I.pins_of fun p hp => (List.mem_append.mp hp).elim (fun z => I.pin p (List.mem_append_right _ z)) fun z => by
    obtain ⟨hb, e⟩ := of_pinsAt z
    obtain ⟨f0, f1, f2, _⟩ := hf p.1 hb
    obtain ⟨o, e', d⟩ := ho p.1 hb
    rw [e] at e'; cases e'
    exact ⟨e, f0, f1, f2, d⟩
theorem Inv.unpinned {pins pl : List (Addr × Obj)} {σ : St} {H : Hp} {s : Shared} (I : Inv X (pins ++ pl) σ H s) : Inv X pins σ H s := I.pins_of fun p hp => I.pin p (List.mem_append_right _ (List.mem_append_left _ hp))
theorem ps_for {iter : Expr} {body : List Stmt} {wi : TI} {g : TG} {tb : TS} {pos : Pos} (hp : PassesOwn (model X.prog X.w) X.A X.env X.xe) (hc : X.calm = true) (hi : PI X tg iter wi) (hg : PG X tg g) (hb : PSs X body tb)
    (hs : ∀ x, foldedSetIterable iter X.env x = pure x := by intro _; rfl) : PS X (.For tg iter body [] pos) (tFor wi g tb) := by
  intro pins s σ H D I h
  refine wpAny_For (thn (hi pins s σ H _ I h) fun v s1 h1 => thn h1 fun itv s2 h2 => ?_) hs
  obtain ⟨it, fp, tn, J, H2, e, I2, T, st2, f2, W, ⟨m0, w0⟩, turn⟩ := h2
  subst e
  -- what stays true of the iterator's objects through the loop
  have stat : ∀ {H' : Hp}, (∀ b ∈ fp, H' b = none) → ∀ b ∈ fp, FpOk X pins H' b := fun hn b hb => ⟨hn b hb, (f2 b hb).2⟩
  refine codeAny_forLoop_any (fun n s' => ∃ i σ' H', Inv X pins σ' H' s' ∧ tn i s'.heap ∧ (∀ b ∈ fp, H' b = none) ∧ W i n σ' H') ?_ m0 ⟨0, σ, H2, I2, st2, fun b hb => (f2 b hb).1, w0⟩
  rintro n s3 ⟨i, σ3, H3, I3, st3, fr3, w3⟩
  rcases turn i n σ3 H3 w3 with ⟨stop, qn⟩ | ⟨go, N, hN, step⟩
  · refine wpAny_passesOwn hp (thn (T.done X rfl rfl rfl hc i pins s3 σ3 H3 X.xe I3 (stat fr3) st3 stop) fun r s4 ⟨hr, I4⟩ => ?_)
    subst hr
    exact wpAny_execs_nil ⟨σ3, H3, I4, qn⟩
  · refine wpAny_passesOwn hp (thn (T.item X rfl rfl rfl hc i pins s3 σ3 H3 X.xe I3 (stat fr3) st3 go) fun r s4 ⟨u, hr, h4⟩ => ?_)
    subst hr
    refine wpAny_passesOwn hp (thn h4 fun _ s5 ⟨x, H5, I5, r5, y5, st5, fr5⟩ => ?_)
    have I5' := I5.pinned (stat fr5) (T.obj _ _ st5)
    refine wpAny_passesOwn hp (thn (hg _ s5 σ3 H5 x u _ I5' r5 (step x H5 y5)) fun _ s6 ⟨σ6, H6, I6, q6⟩ => ?_)
    refine wpAny_passesOwn hp (thn (hb _ s6 σ6 H6 _ I6 q6) fun f s7 q7 => ?_)
    have again : ∀ {σ7 : St} {H7 : Hp}, Inv X (pins ++ pinsAt fp s5.heap) σ7 H7 s7 → N σ7 H7 → ∃ m, m < n ∧ ∃ i σ' H', Inv X pins σ' H' s7 ∧ tn i s7.heap ∧ (∀ b ∈ fp, H' b = none) ∧ W i m σ' H' := fun {σ7 H7} I7 n7 => by
      obtain ⟨m', hm, w7⟩ := hN σ7 H7 n7
      refine ⟨m', hm, i + 1, σ7, H7, I7.unpinned, T.keep _ _ _ st5 fun b hb o e => (I7.pin (b, o) (List.mem_append_right _ (List.mem_append_right _ (mem_pinsAt hb e)))).1, fun b hb => ?_, w7⟩
      obtain ⟨o, e, d⟩ := T.obj _ _ st5 b hb
      exact (I7.pin (b, o) (List.mem_append_right _ (List.mem_append_right _ (mem_pinsAt hb e)))).2.1
    cases f with
    | next => obtain ⟨σ7, H7, I7, n7⟩ := q7; exact again I7 n7
    | cont => obtain ⟨σ7, H7, I7, n7⟩ := q7; exact again I7 n7
    | brk => obtain ⟨σ7, H7, I7, q7⟩ := q7; exact ⟨σ7, H7, I7.unpinned, q7⟩
    | ret v => obtain ⟨x7, σ7, H7, I7, r7, q7⟩ := q7; exact ⟨x7, σ7, H7, I7.unpinned, r7, q7⟩
end
theorem for_list {K : PySem.W.Frag} {a : Addr} {xs : List V} {g : TG} {tb : TS} {D : Ends} {σ : St} {H : Hp} (Pv : Nat → St → Hp → Prop) (h0 : Pv 0 σ H) (hl : ∀ i σ H, i ≤ xs.length → Pv i σ H → SqL K H a xs)
    (hs : ∀ i x σ H, xs[i]? = some x → Pv i σ H → g x σ H fun σ2 H2 => tb { D with nx := Pv (i + 1), ct := Pv (i + 1), bk := D.nx } σ2 H2) (hd : ∀ σ H, Pv xs.length σ H → D.nx σ H) :
    ∃ W : Nat → Nat → St → Hp → Prop, (∃ m, W 0 m σ H) ∧ ∀ i m σ H, W i m σ H →
      ((Itl K a).stop i H ∧ D.nx σ H) ∨ ((Itl K a).go i H ∧ ∃ N : St → Hp → Prop, (∀ σ' H', N σ' H' → ∃ m', m' < m ∧ W (i + 1) m' σ' H') ∧ ∀ x H', (Itl K a).yld i H x H' → g x σ H' fun σ2 H2 => tb { D with nx := N, ct := N, bk := D.nx } σ2 H2) := by
  refine ⟨fun i m σ H => m = xs.length - i ∧ i ≤ xs.length ∧ Pv i σ H, ⟨xs.length, by simp, Nat.zero_le _, h0⟩, ?_⟩
  rintro i m σ H ⟨rfl, hi, p⟩
  have q := hl i σ H hi p
  by_cases hlt : i < xs.length
  · refine .inr ⟨⟨xs, xs[i], q, by simp [hlt]⟩, Pv (i + 1), fun σ' H' p' => ⟨xs.length - (i + 1), by omega, rfl, hlt, p'⟩, fun x H' y => ?_⟩
    obtain ⟨e, y⟩ := y
    subst e
    exact hs i x σ _ (y xs q) p
  · have e : i = xs.length := by omega
    subst e
    exact .inl ⟨⟨xs, q, Nat.le_refl _⟩, hd σ H p⟩
theorem for_range {lo : Int} {n : Nat} {g : TG} {tb : TS} {D : Ends} {σ : St} {H : Hp} (Pv : Nat → St → Hp → Prop) (h0 : Pv 0 σ H)
    (hs : ∀ i σ H, i < n → Pv i σ H → g (.int (lo + i)) σ H fun σ2 H2 => tb { D with nx := Pv (i + 1), ct := Pv (i + 1), bk := D.nx } σ2 H2) (hd : ∀ σ H, Pv n σ H → D.nx σ H) :
    ∃ W : Nat → Nat → St → Hp → Prop, (∃ m, W 0 m σ H) ∧ ∀ i m σ H, W i m σ H →
      ((Itr lo n).stop i H ∧ D.nx σ H) ∨ ((Itr lo n).go i H ∧ ∃ N : St → Hp → Prop, (∀ σ' H', N σ' H' → ∃ m', m' < m ∧ W (i + 1) m' σ' H') ∧ ∀ x H', (Itr lo n).yld i H x H' → g x σ H' fun σ2 H2 => tb { D with nx := N, ct := N, bk := D.nx } σ2 H2) := by
  refine ⟨fun i m σ H => m = n - i ∧ i ≤ n ∧ Pv i σ H, ⟨n, by simp, Nat.zero_le _, h0⟩, ?_⟩
  rintro i m σ H ⟨rfl, hi, p⟩
  by_cases hlt : i < n
  · refine .inr ⟨hlt, Pv (i + 1), fun σ' H' p' => ⟨n - (i + 1), by omega, rfl, hlt, p'⟩, fun x H' y => ?_⟩
    obtain ⟨e, y⟩ := y
    subst e y
    exact hs i σ _ hlt p
  · have e : i = n := by omega
    subst e
    exact .inl ⟨Nat.le_refl _, hd σ H p⟩
end L2
namespace L2
open PySem PySem.Spec PyProof.Rows
abbrev R2 := V → V → Hp → VK → Prop
def OpR (X : Cx) (f : Value → Value → Sem Value) (r : R2) : Prop :=
  ∀ (pins : List (Addr × Obj)) (s : Shared) (σ : St) (H : Hp) (x y : V) (v u : Value) (Q : VK), Inv X pins σ H s → RelV x v → RelV y u → r x y H Q →
    wpAny (model X.prog X.w) X.A (f v u) (EP X pins σ Q) X.xe s
def CallR (X : Cx) (f : Value) (r : List V → Hp → VK → Prop) : Prop :=
  ∀ (pins : List (Addr × Obj)) (s : Shared) (σ : St) (H : Hp) (xs : List V) (us : List Value) (Q : VK), Inv X pins σ H s → Vals xs us → r xs H Q →
    wpAny (model X.prog X.w) X.A (call f us) (EP X pins σ Q) X.xe s
def tOp (r : R2) (ta tb : TE) : TE := fun σ H Q => ta σ H fun x H1 => tb σ H1 fun y H2 => r x y H2 Q
def rI (C : Int → Int → Prop) (g : Int → Int → V) : R2 := fun x y H Q => ∃ i j, x = .int i ∧ y = .int j ∧ C i j ∧ Q (g i j) H
def rI0 (g : Int → Int → V) : R2 := fun x y H Q => ∃ i j, x = .int i ∧ y = .int j ∧ Q (g i j) H
section
variable {X : Cx} {a b c : Expr} {ta tb tc : TE} {pos : Pos}
theorem binT (ha : PE X a ta) (hb : PE X b tb) {pins : List (Addr × Obj)} {s : Shared} {σ : St} {H : Hp} {R : V → V → Hp → Prop} (I : Inv X pins σ H s)
    (h : ta σ H fun x H1 => tb σ H1 fun y H2 => R x y H2) {Q : Value → Shared → Prop} {f : Value → Value → Sem Value}
    (hf : ∀ v u s2 x y H2, Inv X pins σ H2 s2 → RelV x v → RelV y u → R x y H2 → wpAny (model X.prog X.w) X.A (f v u) Q X.xe s2) :
    wpAny (model X.prog X.w) X.A (eval a X.env) (fun v s₁ => wpAny (model X.prog X.w) X.A (eval b X.env) (fun u s₂ => wpAny (model X.prog X.w) X.A (f v u) Q X.xe s₂) X.xe s₁) X.xe s := by
  refine thn (ha pins s σ H _ I h) fun v s1 ⟨x, H1, I1, r1, q1⟩ => ?_
  refine thn (hb pins s1 σ H1 _ I1 q1) fun u s2 ⟨y, H2, I2, r2, q2⟩ => ?_
  exact hf v u s2 x y H2 I2 r1 r2 q2
theorem pe_op {op : Operator} {r : R2} (ho : OpR X (binaryOp op) r) (ha : PE X a ta) (hb : PE X b tb) : PE X (.BinOp a op b pos) (tOp r ta tb) := by
  intro pins s σ H Q I h
  exact wpAny_BinOp (binT ha hb I h fun v u s2 x y H2 I2 rx ry q => ho pins s2 σ H2 x y v u Q I2 rx ry q)
theorem opI {f : Value → Value → Sem Value} {C : Int → Int → Prop} {g : Int → Int → Int}
    (rule : ∀ (i j : Int) (t u : Tok) (s : Shared) (Q : Value → Shared → Prop) (E : Value → Shared → Prop), C i j → Q (.int (g i j) s.toks) { s with toks := s.toks + 1 } → wpAny (model X.prog X.w) X.A (f (.int i t) (.int j u)) Q E s) :
    OpR X f (rI C fun i j => .int (g i j)) := by
  intro pins s σ H x y v u Q I rx ry h
  obtain ⟨i, j, rfl, rfl, hc, q⟩ := h
  obtain ⟨t, rfl⟩ := rx
  obtain ⟨t', rfl⟩ := ry
  exact rule i j t t' s _ _ hc ⟨.int (g i j), H, I.tok _, ⟨_, rfl⟩, q⟩
theorem opI0 {f : Value → Value → Sem Value} {g : Int → Int → Int}
    (rule : ∀ (i j : Int) (t u : Tok) (s : Shared) (Q : Value → Shared → Prop) (E : Value → Shared → Prop), Q (.int (g i j) s.toks) { s with toks := s.toks + 1 } → wpAny (model X.prog X.w) X.A (f (.int i t) (.int j u)) Q E s) :
    OpR X f (rI0 fun i j => .int (g i j)) := by
  intro pins s σ H x y v u Q I rx ry h
  obtain ⟨i, j, rfl, rfl, q⟩ := h
  obtain ⟨t, rfl⟩ := rx
  obtain ⟨t', rfl⟩ := ry
  exact rule i j t t' s _ _ ⟨.int (g i j), H, I.tok _, ⟨_, rfl⟩, q⟩
theorem opB0 {f : Value → Value → Sem Value} {g : Int → Int → Bool}
    (rule : ∀ (i j : Int) (t u : Tok) (s : Shared) (Q : Value → Shared → Prop) (E : Value → Shared → Prop), Q (.bool (g i j)) s → wpAny (model X.prog X.w) X.A (f (.int i t) (.int j u)) Q E s) :
    OpR X f (rI0 fun i j => .bl (g i j)) := by
  intro pins s σ H x y v u Q I rx ry h
  obtain ⟨i, j, rfl, rfl, q⟩ := h
  obtain ⟨t, rfl⟩ := rx
  obtain ⟨t', rfl⟩ := ry
  exact rule i j t t' s _ _ ⟨.bl (g i j), H, I, rfl, q⟩
def CDiv (i j : Int) : Prop := 0 < j ∧ j < 1073741824
def CMul (i j : Int) : Prop := (-(2 ^ 64) < i ∧ i < 2 ^ 64) ∨ (-(2 ^ 64) < j ∧ j < 2 ^ 64)
theorem CMul.ok {i j : Int} (h : CMul i j) : IntMulOk i j := by
  rcases h with ⟨h1, h2⟩ | ⟨h1, h2⟩
  · exact .of_left (intBits_le_64 h1 h2)
  · exact .of_right (intBits_le_64 h1 h2)
theorem op_add : OpR X (binaryOp .Add) (rI0 fun i j => .int (i + j)) := opI0 fun _ _ _ _ _ _ _ q => add_int q
theorem op_sub : OpR X (binaryOp .Sub) (rI0 fun i j => .int (i - j)) := opI0 fun _ _ _ _ _ _ _ q => sub_int q
theorem op_mul : OpR X (binaryOp .Mult) (rI CMul fun i j => .int (i * j)) := opI fun _ _ _ _ _ _ _ hc q => mul_int q hc.ok
theorem op_fdiv : OpR X (binaryOp .FloorDiv) (rI CDiv fun i j => .int (i / j)) := opI fun i j _ _ _ _ _ hc q => by
  have h1 : (0 : Int) < j := hc.1
  have h2 : j < 1073741824 := hc.2
  exact floordiv_int (by omega) (by rw [Int.fdiv_eq_ediv_of_nonneg i (by omega)]; exact q) (.inl (PyProof.noPylong_small (by omega)))
theorem op_mod : OpR X (binaryOp .Mod) (rI (fun _ j => 0 < j) fun i j => .int (i % j)) := opI fun i j _ _ _ _ _ hc q => by
  have h1 : (0 : Int) < j := hc
  exact mod_int' (by omega) (by rw [Int.fmod_eq_emod_of_nonneg i (by omega)]; exact q)
end
def scal : V → V → Bool
  | .non, .non => true | .non, .int _ => true | .int _, .non => true | .non, .bl _ => true | .bl _, .non => true | .non, .str _ => true | .str _, .non => true
  | .int _, .int _ => true | .bl _, .bl _ => true | .str _, .str _ => true | .byt _, .byt _ => true
  | .int _, .str _ => true | .str _, .int _ => true | .bl _, .str _ => true | .str _, .bl _ => true
  | _, _ => false
def rEq : R2 := fun x y H Q => scal x y = true ∧ Q (.bl (decide (x = y))) H
def rNe : R2 := fun x y H Q => scal x y = true ∧ Q (.bl (!decide (x = y))) H
theorem dec_int {i j : Int} : decide (V.int i = V.int j) = (i == j) := by
  rw [Bool.eq_iff_iff]
  simp
theorem dec_bl {i j : Bool} : decide (V.bl i = V.bl j) = (i == j) := by
  rw [Bool.eq_iff_iff]
  simp
theorem dec_str {i j : Str} : decide (V.str i = V.str j) = (i == j) := by
  rw [Bool.eq_iff_iff]
  simp
theorem dec_byt {i j : Array UInt8} : decide (V.byt i = V.byt j) = (i.toList == j.toList) := by
  rw [Bool.eq_iff_iff]
  cases i
  cases j
  simp
section
variable {X : Cx} {a b c : Expr} {ta tb tc : TE} {pos : Pos}
theorem fin_bl {pins : List (Addr × Obj)} {σ : St} {H : Hp} {s : Shared} {Q : VK} {k k' : Bool} (I : Inv X pins σ H s) (q : Q (.bl k) H) (e : k = k') : EP X pins σ Q (.bool k') s := by
  subst e
  exact ⟨.bl k, H, I, rfl, q⟩
theorem op_eq : OpR X (compareOp .Eq) rEq := by
  intro pins s σ H x y v u Q I rx ry h
  obtain ⟨hs, q⟩ := h
  cases x with
  | non =>
    cases rx
    cases y with
    | non => cases ry; exact PySem.EqNone.eq_none_none (fin_bl I q (by simp))
    | bl j => cases ry; exact PySem.EqNone.eq_none_bool (fin_bl I q (by simp))
    | int j => obtain ⟨t', rfl⟩ := ry; exact PySem.EqNone.eq_none_int (fin_bl I q (by simp))
    | str j => obtain ⟨t', rfl⟩ := ry; exact PySem.EqNone.eq_none_str (fin_bl I q (by simp))
    | _ => exact absurd (show false = true from hs) Bool.false_ne_true
  | bl i =>
    cases rx
    cases y with
    | non => cases ry; exact PySem.EqNone.eq_bool_none (fin_bl I q (by simp))
    | bl j => cases ry; exact eq_bool (fin_bl I q dec_bl)
    | str j => obtain ⟨t', rfl⟩ := ry; exact PySem.EqMixed.eq_bool_str (fin_bl I q (by simp))
    | _ => exact absurd (show false = true from hs) Bool.false_ne_true
  | int i =>
    obtain ⟨t, rfl⟩ := rx
    cases y with
    | non => cases ry; exact PySem.EqNone.eq_int_none (fin_bl I q (by simp))
    | int j => obtain ⟨t', rfl⟩ := ry; exact eq_int (fin_bl I q dec_int)
    | str j => obtain ⟨t', rfl⟩ := ry; exact PySem.EqMixed.eq_int_str (fin_bl I q (by simp))
    | _ => exact absurd (show false = true from hs) Bool.false_ne_true
  | str i =>
    obtain ⟨t, rfl⟩ := rx
    cases y with
    | non => cases ry; exact PySem.EqNone.eq_str_none (fin_bl I q (by simp))
    | bl j => cases ry; exact PySem.EqMixed.eq_str_bool (fin_bl I q (by simp))
    | int j => obtain ⟨t', rfl⟩ := ry; exact PySem.EqMixed.eq_str_int (fin_bl I q (by simp))
    | str j => obtain ⟨t', rfl⟩ := ry; exact eq_str (fin_bl I q dec_str)
    | _ => exact absurd (show false = true from hs) Bool.false_ne_true
  | byt i =>
    obtain ⟨t, rfl⟩ := rx
    cases y with
    | byt j => obtain ⟨t', rfl⟩ := ry; exact PySem.W.eq_bytes (fin_bl I q dec_byt)
    | _ => exact absurd (show false = true from hs) Bool.false_ne_true
  | _ => cases y <;> exact absurd (show false = true from hs) Bool.false_ne_true
theorem op_ne : OpR X (compareOp .NotEq) rNe := by
  intro pins s σ H x y v u Q I rx ry h
  obtain ⟨hs, q⟩ := h
  cases x with
  | non =>
    cases rx
    cases y with
    | non => cases ry; exact PySem.EqNone.ne_none_none (fin_bl I q (by simp))
    | bl j => cases ry; exact PySem.EqNone.ne_none_bool (fin_bl I q (by simp))
    | int j => obtain ⟨t', rfl⟩ := ry; exact PySem.EqNone.ne_none_int (fin_bl I q (by simp))
    | str j => obtain ⟨t', rfl⟩ := ry; exact PySem.EqNone.ne_none_str (fin_bl I q (by simp))
    | _ => exact absurd (show false = true from hs) Bool.false_ne_true
  | bl i =>
    cases rx
    cases y with
    | non => cases ry; exact PySem.EqNone.ne_bool_none (fin_bl I q (by simp))
    | bl j => cases ry; exact ne_bool (fin_bl I q (congrArg not dec_bl))
    | str j => obtain ⟨t', rfl⟩ := ry; exact PySem.EqMixed.ne_bool_str (fin_bl I q (by simp))
    | _ => exact absurd (show false = true from hs) Bool.false_ne_true
  | int i =>
    obtain ⟨t, rfl⟩ := rx
    cases y with
    | non => cases ry; exact PySem.EqNone.ne_int_none (fin_bl I q (by simp))
    | int j => obtain ⟨t', rfl⟩ := ry; exact ne_int (fin_bl I q (congrArg not dec_int))
    | str j => obtain ⟨t', rfl⟩ := ry; exact PySem.EqMixed.ne_int_str (fin_bl I q (by simp))
    | _ => exact absurd (show false = true from hs) Bool.false_ne_true
  | str i =>
    obtain ⟨t, rfl⟩ := rx
    cases y with
    | non => cases ry; exact PySem.EqNone.ne_str_none (fin_bl I q (by simp))
    | bl j => cases ry; exact PySem.EqMixed.ne_str_bool (fin_bl I q (by simp))
    | int j => obtain ⟨t', rfl⟩ := ry; exact PySem.EqMixed.ne_str_int (fin_bl I q (by simp))
    | str j => obtain ⟨t', rfl⟩ := ry; exact ne_str (fin_bl I q (congrArg not dec_str))
    | _ => exact absurd (show false = true from hs) Bool.false_ne_true
  | byt i =>
    obtain ⟨t, rfl⟩ := rx
    cases y with
    | byt j => obtain ⟨t', rfl⟩ := ry; exact PySem.W.ne_bytes (fin_bl I q (congrArg not dec_byt))
    | _ => exact absurd (show false = true from hs) Bool.false_ne_true
  | _ => cases y <;> exact absurd (show false = true from hs) Bool.false_ne_true
theorem op_lt : OpR X (compareOp .Lt) (rI0 fun i j => .bl (decide (i < j))) := opB0 fun _ _ _ _ _ _ _ q => lt_int q
theorem op_gt : OpR X (compareOp .Gt) (rI0 fun i j => .bl (decide (j < i))) := opB0 fun _ _ _ _ _ _ _ q => gt_int q
theorem OpR.or {f : Value → Value → Sem Value} {r r' : R2} (h : OpR X f r) (h' : OpR X f r') : OpR X f (fun x y H Q => r x y H Q ∨ r' x y H Q) := by
  intro pins s σ H x y v u Q I rx ry q
  rcases q with q | q
  · exact h pins s σ H x y v u Q I rx ry q
  · exact h' pins s σ H x y v u Q I rx ry q
theorem nomark (b : Expr) {op : CmpOp} (h : op ≠ .In := by decide) (h2 : op ≠ .NotIn := by decide) : behindInMarks op b = false := by
  have e1 : (op == CmpOp.In) = false := by cases op <;> first | rfl | exact absurd rfl h
  have e2 : (op == CmpOp.NotIn) = false := by cases op <;> first | rfl | exact absurd rfl h2
  cases b <;> simp [behindInMarks, e1, e2]
theorem pe_cmpR {op : CmpOp} {r : R2} (ho : OpR X (compareOp op) r) (ha : PE X a ta) (hb : PE X b tb) (hm : behindInMarks op b = false) : PE X (.Compare a [op] [b] pos) (tOp r ta tb) := by
  intro pins s σ H Q I h
  exact wpAny_Compare1 (binT ha hb I h fun v u s2 x y H2 I2 rx ry q => ho pins s2 σ H2 x y v u Q I2 rx ry q) hm
def tTest (t : TE) : TT := fun σ H Q => t σ H fun x H' => ∃ k, x = .bl k ∧ Q k H'
theorem pt_cmpR {op : CmpOp} {r : R2} (ho : OpR X (compareOp op) r) (ha : PE X a ta) (hb : PE X b tb) (hm : behindInMarks op b = false) : PT X (.Compare a [op] [b] pos) (tTest (tOp r ta tb)) := by
  intro pins s σ H Q I h
  refine wpAny_isTrue_Compare1 (thn (ha pins s σ H _ I h) fun v s1 ⟨x, H1, I1, r1, q1⟩ => thn (hb pins s1 σ H1 _ I1 q1) fun u s2 ⟨y, H2, I2, r2, q2⟩ =>
    thn (ho pins s2 σ H2 x y v u _ I2 r1 r2 q2) fun c s3 ⟨z, H3, I3, r3, k, e, q3⟩ => ?_) hm
  subst e
  cases r3
  exact wpAny_truthy_bool ⟨H3, I3, q3⟩
theorem line63 : (sizeLine : Nat) < 2 ^ 63 := by rw [sizeLine_eq]; decide
theorem op_add_str : OpR X (binaryOp .Add) (fun x y H Q => ∃ i j, x = .str i ∧ y = .str j ∧ i.length + j.length ≤ sizeLine ∧ Q (.str (i ++ j)) H) := by
  intro pins s σ H x y v u Q I rx ry h
  obtain ⟨i, j, rfl, rfl, hz, q⟩ := h
  obtain ⟨t, rfl⟩ := rx
  obtain ⟨t', rfl⟩ := ry
  exact add_str (fun t' tk => ⟨.str (i ++ j), H, I.tok _, ⟨_, rfl⟩, q⟩) hz
theorem vals1 {x : V} {us : List Value} (r : Vals [x] us) : ∃ u, us = [u] ∧ RelV x u := by
  cases r with
  | cons r1 r2 => cases r2; exact ⟨_, rfl, r1⟩
theorem call_abs : CallR X (.builtin "abs") (fun xs H Q => ∃ i, xs = [.int i] ∧ Q (.int (if i < 0 then -i else i)) H) := by
  intro pins s σ H xs us Q I r h
  obtain ⟨i, rfl, q⟩ := h
  obtain ⟨u, rfl, t, rfl⟩ := vals1 r
  exact call_abs_int fun u tk => ⟨.int (if i < 0 then -i else i), H, I.tok _, ⟨_, rfl⟩, q⟩
theorem call_str_int : CallR X (.type "str") (fun xs H Q => ∃ i, xs = [.int i] ∧ i.natAbs.log2 < 1920 ∧ Q (.str (toString i)) H) := by
  intro pins s σ H xs us Q I r h
  obtain ⟨i, rfl, hz, q⟩ := h
  obtain ⟨u, rfl, t, rfl⟩ := vals1 r
  exact PySem.P.str_of_int hz ⟨.str _, H, I.tok _, ⟨_, rfl⟩, q⟩
end
end L2
namespace L2
open PySem PySem.Spec PyProof.Rows
structure ObjM (h : Heap) (x dx C : Addr) (mA : Str → Option Value) : Prop where
  obj : h.get? x = some (PySem.W.instObj C dx)
  ns : h.Ns1 dx mA
  ne : dx ≠ x
section
variable {prog : Program} {w : World} {A : Around} {E : Value → Shared → Prop} {s : Shared} {K : PySem.W.Frag} {x dx C f : Addr} {mA : Str → Option Value} {name : Str} {v : Value}
end
def putF (f : Str) (v : V) : List (Str × V) → List (Str × V)
  | [] => [(f, v)]
  | (g, x) :: r => if g = f then (g, v) :: r else (g, x) :: putF f v r
section
variable {P : Program} {w : World} {H H' : Hp} {h h' : Heap} {a C dx : Addr} {fs fs' : List (Str × V)}
end
structure Cls (K : PySem.W.Frag) (C : Addr) : Prop where
  pg : PySem.W.plainGet K C Str.empty = true
  hd : PySem.W.hasDictIn K C = true
  po : PySem.W.plainOver K C = true
  sa : PySem.W.findIn K (.ref C) "__setattr__" = some (some (.builtin "object.__setattr__"))
theorem Cls.get {K : PySem.W.Frag} {C : Addr} (c : Cls K C) (f : Str) : PySem.W.plainGet K C f = true := c.pg
structure Con (K : PySem.W.Frag) (C : Addr) (f : Str) (v : V) (u : Value) : Prop where
  at_ : PySem.W.findIn K (.ref C) f = some (some u)
  rel : RelV v u
  get : PySem.W.specialIn K u "__get__" = some none
  cp : PySem.W.copiedNames.contains f = false
structure Meth (K : PySem.W.Frag) (C : Addr) (m : Str) (f : Addr) : Prop where
  at_ : PySem.W.findIn K (.ref C) m = some (some (.ref f))
  fn : PySem.W.isFn K (.ref f) = true
  kp : PySem.W.keepIn K (.ref f) = true
section
variable {X : Cx} {pins : List (Addr × Obj)} {σ : St} {H : Hp} {s : Shared} {a C dx : Addr} {fs : List (Str × V)} {f : Str} {v : V} {A : Around} {E : Value → Shared → Prop}
end
section
variable {X : Cx} {o e value : Expr} {f : Str} {pos pos' tpos : Pos} {ta tv : TE}
end
section
variable {X : Cx} {pins : List (Addr × Obj)} {σ : St} {H : Hp} {s : Shared} {A : Around} {E : Value → Shared → Prop} {Q : Value → Shared → Prop} {c : Value} {b : Bool}
inductive TyOf (K : PySem.W.Frag) (H : Hp) : V → Value → Prop where
  | non : TyOf K H .non (.type "NoneType")
  | bl (x : Bool) : TyOf K H (.bl x) (.type "bool")
  | int (i : Int) : TyOf K H (.int i) (.type "int")
  | str (x : Str) : TyOf K H (.str x) (.type "str")
  | flt (x : UInt64) : TyOf K H (.flt x) (.type "float")
  | lst {a : Addr} {xs : List V} (e : H a = some (.lst xs)) : TyOf K H (.ref a) (.type "list")
  | frz {a : Addr} {o : Obj} {xs : List V} (e : H a = some (.frz o (.lst xs))) : TyOf K H (.ref a) (.type "list")
  | tup {a : Addr} {xs : List V} (e : H a = some (.tup xs)) : TyOf K H (.ref a) (.type "tuple")
  | dK {a : Addr} {kvs : List (Key × V)} (e : H a = some (.dK kvs)) : TyOf K H (.ref a) (.type "dict")
  | dT {a : Addr} {kvs : List (List Key × V)} (e : H a = some (.dT kvs)) : TyOf K H (.ref a) (.type "dict")
  | ins {a C dx : Addr} {fs : List (Str × V)} (e : H a = some (.ins C dx fs)) (cl : Cls K C) (ha : PySem.W.findIn K (.ref C) "__class__" = some (some (.builtin "object.__class__")))
      (hn : PySem.W.specialIn K (.builtin "object.__class__") "__get__" = some (some (.builtin "getset_descriptor.__get__"))) (htk : PySem.W.takesIn K (.builtin "object.__class__") = some true)
      (hm : PySem.W.mroIn K C (.type "object") = some true) : TyOf K H (.ref a) (.ref C)
end
end L2
namespace L2
open PySem PySem.Spec PyProof.Rows
structure Room (k : Nat) (A : Around) : Prop where
  hd : A.handled = none
  dp : A.depth + 3 * k + 5 < recursionLimit
  un : A.units + 16 * k + 200 < cLine
  gd : A.guards = some []
theorem Room.mono {j k : Nat} {A : Around} (r : Room k A) (h : j ≤ k) : Room j A := ⟨r.hd, by have := r.dp; omega, by have := r.un; omega, r.gd⟩
theorem Room.deeper {k : Nat} {A : Around} (r : Room (k + 1) A) (env : Env) : Room k (A.deeper env) :=
  ⟨r.hd, by have := r.dp; show A.depth + 1 + 3 * k + 5 < _; omega, by have := r.un; show A.units + 3 + 16 * k + 200 < _; omega, r.gd⟩
theorem Room.in1 {k : Nat} {A : Around} (r : Room (k + 1) A) : Room k A.in1 :=
  ⟨r.hd, by have := r.dp; show A.depth + 3 * k + 5 < _; omega, by have := r.un; show A.units + 1 + 16 * k + 200 < _; omega, r.gd⟩
theorem Room.depth {k : Nat} {A : Around} (r : Room k A) : A.depth < recursionLimit := by have := r.dp; omega
theorem Room.units {k : Nat} {A : Around} (r : Room k A) : A.units + 64 < cLine := by have := r.un; omega
def tNil : TA := fun _ H Q => Q [] H
def tCons (ta : TE) (tr : TA) : TA := fun σ H Q => ta σ H fun x H1 => tr σ H1 fun xs H2 => Q (x :: xs) H2
section
variable {X : Cx} {e : Expr} {es : List Expr} {te : TE} {t : TA} {pos : Pos}
theorem pa_nil : PA X [] tNil := fun _ _ _ _ H Q I h => Calls.spliced_nil ⟨[], H, I, .nil, h⟩
theorem pa_cons (ha : PE X e te) (hr : PA X es t) (hs : starEach (e :: es) X.env = (false, eval e X.env) :: starEach es X.env := by rfl) : PA X (e :: es) (tCons te t) := by
  intro pos pins s σ H Q I h
  rw [hs]
  show wpAny _ _ (spliced ((false, eval e X.env) :: backTo pos (starEach es X.env))) _ _ s
  refine Calls.spliced_cons (thn (ha pins s σ H _ I h) fun u s1 ⟨x, H1, I1, r1, q1⟩ => ?_)
  exact thn (hr pos pins s1 σ H1 _ I1 q1) fun us s2 ⟨xs, H2, I2, r2, q2⟩ => ⟨x :: xs, H2, I2, .cons r1 r2, q2⟩
def tTup (t : TA) : TE := fun σ H Q => t σ H fun xs H1 => xs.length ≤ sizeLine ∧ ∀ p, H1 p = none → Q (.ref p) (upd H1 p (.tup xs))
def tLst (t : TA) : TE := fun σ H Q => t σ H fun xs H1 => xs.length ≤ sizeLine ∧ ∀ p, H1 p = none → Q (.ref p) (upd H1 p (.lst xs))
theorem pe_tup {x1} (h : PA X es t) : PE X (.Tuple es x1 pos) (tTup t) := by
  intro pins s σ H Q I hq
  refine wpAny_Tuple_spliced (thn (h pos pins s σ H _ I hq) fun us s1 ⟨xs, H1, I1, r, z, q⟩ => ⟨by rw [← r.length]; exact z, ?_⟩)
  have hf : H1 s1.heap.objs.size = none := I1.hok.fresh (Nat.le_refl _)
  refine ⟨.ref s1.heap.objs.size, upd H1 s1.heap.objs.size (.tup xs), I1.laid (t' := s1.toks) (fun b u e => Heap.get?_push_of_some _ e) (Nat.le_refl _) ?_, rfl, q _ hf⟩
  exact ⟨z, us, r, ⟨_, Heap.get?_push_size _ rfl, rfl, _, rfl⟩⟩
theorem pe_lst (h : PA X es t) : PE X (.List es pos) (tLst t) := by
  intro pins s σ H Q I hq
  refine wpAny_List_spliced (thn (h pos pins s σ H _ I hq) fun us s1 ⟨xs, H1, I1, r, z, q⟩ => ⟨by rw [← r.length]; exact z, ?_⟩)
  have hf : H1 s1.heap.objs.size = none := I1.hok.fresh (Nat.le_refl _)
  refine ⟨.ref s1.heap.objs.size, upd H1 s1.heap.objs.size (.lst xs), I1.laid (t' := s1.toks) (fun b u e => Heap.get?_push_of_some _ e) (Nat.le_refl _) ?_, rfl, q _ hf⟩
  exact ⟨z, us, 0, r, Heap.get?_push_size _ rfl⟩
end
abbrev Sp := List V → Hp → VK → XK → Prop
abbrev CXT := List Env → Hp → Shared → XK → Value → Shared → Prop
structure Env0 (P : Program) (w : World) (K : PySem.W.Frag) (mg : Str → Option Value) (base : Heap) (A : Around) (outer : List Env) (s : Shared) (H : Hp) : Prop where
  frames : A.frames = some outer
  mod : Mod K mg base
  bs : ∀ b o, base.get? b = some o → s.heap.get? b = some o ∧ H b = none
  bsz : base.objs.size ≤ s.heap.objs.size
  funs : s.heap.FunFrames base outer
  frf : ∀ b ∈ frs outer, H b = none
  hok : HOk P w H s.heap
  bare : AllBare s.gens
def CE (outer : List Env) (P : Program) (w : World) (H : Hp) (s : Shared) (Q : VK) (u : Value) (s' : Shared) : Prop :=
  ∃ v H', s'.os = s.os ∧ AllBare s'.gens ∧ Un (frs outer) [] H H' s.heap s'.heap ∧ HOk P w H' s'.heap ∧ RelV v u ∧ Q v H'
def CR (CX : CXT) (outer : List Env) (P : Program) (w : World) (H : Hp) (s : Shared) (Q : VK) (E : XK) (r : Result) (s' : Shared) : Prop :=
  match r with
  | .ok (.ret u) => CE outer P w H s Q u s'
  | .ok _ => False
  | .error e => CX outer H s E e s'
structure FnOk (P : Program) (w : World) (K : PySem.W.Frag) (mg : Str → Option Value) (base : Heap) (CX : CXT) (k : Nat) (f : Addr) (fd : FuncData) (ps : List Str) (sp : Sp) : Prop where
  len : ∀ vs H Q E, sp vs H Q E → vs.length = ps.length
  run : ∀ (A : Around) (outer : List Env) (s : Shared) (H : Hp) (args : Args) (us : List Value) (vs : List V) (Q : VK) (E : XK), Room k A → Env0 P w K mg base A outer s H → BindsTo s fd args (ps.zip us) → Vals vs us → sp vs H Q E →
    codeAny (model P w) A (.call (.ref f) args) (CR CX outer P w H s Q E) s
theorem FnOk.mono {P : Program} {w : World} {K : PySem.W.Frag} {mg : Str → Option Value} {base : Heap} {CX : CXT} {j k : Nat} {f : Addr} {fd : FuncData} {ps : List Str} {sp : Sp} (F : FnOk P w K mg base CX j f fd ps sp) (h : j ≤ k) :
    FnOk P w K mg base CX k f fd ps sp := ⟨F.len, fun A outer s H args us vs Q E hr => F.run A outer s H args us vs Q E (hr.mono h)⟩
theorem Env0.in1 {P : Program} {w : World} {K : PySem.W.Frag} {mg : Str → Option Value} {base : Heap} {A : Around} {outer : List Env} {s : Shared} {H : Hp} (e : Env0 P w K mg base A outer s H) :
    Env0 P w K mg base A.in1 outer s H := ⟨e.frames, e.mod, e.bs, e.bsz, e.funs, e.frf, e.hok, e.bare⟩
section
variable {X : Cx} {pins : List (Addr × Obj)} {σ : St} {H : Hp} {s s' : Shared}
theorem Inv.env0 (I : Inv X pins σ H s) : Env0 X.prog X.w X.K X.mg X.base X.A X.stack s H :=
  ⟨I.ok.frames, I.ok.mod, I.bs, Nat.le_trans I.ok.bsz I.sz, I.stack, I.stkFree, I.hok, I.bare⟩
theorem Inv.after {Q : VK} {u : Value} (I : Inv X pins σ H s) (h : CE X.stack X.prog X.w H s Q u s') : EP X pins σ Q u s' := by
  obtain ⟨v, H', os, bare, un, hok, r, q⟩ := h
  obtain ⟨hh, g, d, t, os'⟩ := s'
  obtain rfl : os' = s.os := os
  exact ⟨v, H', I.call (h' := hh) (g' := g) (d' := d) (t' := t) (ch := []) un hok bare (fun b z => absurd z (by simp)), r, q⟩
end
def tCall (sp : Sp) (dvs : List V) (E : XK) (t : TA) : TE := fun σ H Q => t σ H fun vs H1 => sp (vs ++ dvs) H1 Q E
def Binds (K : PySem.W.Frag) (fd : FuncData) (ps : List Str) (ds : List Value) : Prop :=
  ∀ (s : Shared) (us : List Value), K.In s.heap → (us ++ ds).length = ps.length → BindsTo s fd ⟨us, []⟩ (ps.zip (us ++ ds))
theorem Binds.all {K : PySem.W.Frag} {fd : FuncData} {ps : List Str} (h : ∀ us : List Value, us.length = ps.length → bindArgs fd ⟨us, []⟩ = pure (ps.zip us)) : Binds K fd ps [] := fun s us _ hl => by
  rw [List.append_nil] at hl ⊢
  exact .of_eq (h us hl)
def Passes (CX : CXT) (X : Cx) (E : XK) : Prop := ∀ (pins : List (Addr × Obj)) (σ : St) (H : Hp) (s : Shared) (e : Value) (s' : Shared), Inv X pins σ H s → CX X.stack H s E e s' → X.xe e s'
section
variable {X : Cx} {CX : CXT} {k : Nat} {f C : Addr} {fd : FuncData} {ps : List Str} {sp : Sp} {dvs : List V} {ds : List Value} {E : XK} {x m : Str} {p pos apos : Pos} {e o : Expr} {es : List Expr} {ta : TE} {t : TA}
theorem run_fn {pins : List (Addr × Obj)} {σ : St} {H : Hp} {s : Shared} {Q : VK} {us : List Value} {vs : List V} (F : FnOk X.prog X.w X.K X.mg X.base CX k f fd ps sp) (hr : Room k X.A) (hb : Binds X.K fd ps ds) (hd : Vals dvs ds) (hx : Passes CX X E)
    (I : Inv X pins σ H s) (r : Vals vs us) (h : sp (vs ++ dvs) H Q E) : wpAny (model X.prog X.w) X.A (call (.ref f) us) (EP X pins σ Q) X.xe s := by
  have r2 : Vals (vs ++ dvs) (us ++ ds) := r.append hd
  have hl : (us ++ ds).length = ps.length := by rw [← r2.length]; exact F.len _ _ _ _ h
  refine wpAny_call (codeAny_mono (F.run X.A X.stack s H ⟨us, []⟩ (us ++ ds) (vs ++ dvs) Q E hr I.env0 (hb s us I.kIn hl) r2 h) fun r s' hq => ?_)
  cases r with
  | error e => exact hx pins σ H s e s' I hq
  | ok fl =>
    cases fl with
    | ret u => exact I.after hq
    | next => exact False.elim hq
    | brk => exact False.elim hq
    | cont => exact False.elim hq
theorem pe_call (F : FnOk X.prog X.w X.K X.mg X.base CX k f fd ps sp) (hr : Room k X.A) (hg : Gl X x) (hm : X.mg x = some (.ref f)) (hk : PySem.W.keepIn X.K (.ref f) = true) (hb : Binds X.K fd ps ds) (hd : Vals dvs ds) (hx : Passes CX X E)
    (ha : PA X (e :: es) t) (hdb : (x == ("__debug__" : Str)) = false := by decide) (he : starEach (e :: es) X.env = (false, eval e X.env) :: starEach es X.env := by rfl) (hpl : (backTo pos (starEach es X.env)).any (·.1) = false := by rfl) :
    PE X (.Call (.Name x p) (e :: es) [] pos) (tCall sp dvs E t) := by
  intro pins s σ H Q I h
  refine wpAny_Call_Name_kw (ld_glob I hg hm ?_ hdb)
  refine PySem.W.callWith_K (h₀ := X.base) I.ok.mod.kin hk (thn (ha pos pins s σ H _ I h) fun us s1 ⟨vs, H1, I1, r, q⟩ => ⟨I1.kIn, ?_⟩) he hpl
  exact run_fn F hr hb hd hx I1 r q
structure Mk (K : PySem.W.Frag) (C f : Addr) : Prop where
  makes : PySem.W.makesIn K C = true
  init : PySem.W.findIn K (.ref C) "__init__" = some (some (.ref f))
  fn : PySem.W.isFn K (.ref f) = true
  kp : PySem.W.keepIn K (.ref C) = true
end
section
variable {X : Cx} {CX : CXT} {k : Nat} {f C : Addr} {fd : FuncData} {ps ks : List Str} {sp : Sp} {E : XK} {x m : Str} {p pos apos kpos : Pos} {e o : Expr} {es : List Expr} {kws : List Keyword} {te ta : TE} {t tk : TA} {nm : Option Str}
structure KBinds (K : PySem.W.Frag) (fd : FuncData) (ps ks : List Str) (g : List Value → List Value → List Value) (gV : List V → List V → List V) : Prop where
  to : ∀ (s : Shared) (us ws : List Value), K.In s.heap → (g us ws).length = ps.length → BindsTo s fd ⟨us, ks.zip ws⟩ (ps.zip (g us ws))
  rel : ∀ {vs : List V} {us : List Value} {zs : List V} {ws : List Value}, Vals vs us → Vals zs ws → Vals (gV vs zs) (g us ws)
variable {g : List Value → List Value → List Value} {gV : List V → List V → List V}
end
structure FnScope (N P : List Str) (sc : Scope) : Prop where
  kind : sc.kind = .function
  co : sc.isCoroutine = false
  gen : sc.isGenerator = false
  nd : N.Nodup
  pre : N.take P.length = P
  par : ∀ x ∈ P, sc.names.lookup x = some .local ∨ sc.names.lookup x = some .cell
  nofree : ∀ y ∈ sc.names, y.2 ≠ .free
theorem bindL_out {kindOf : Str → Option NameKind} {x : Str} : ∀ {binds : List (Str × Value)} {m : Str → Option Value}, (∀ v, (x, v) ∉ binds) → bindL kindOf binds m x = m x
  | [], _, _ => rfl
  | (n, v) :: r, m, h => by
    unfold bindL
    rw [bindL_out fun w hw => h w (List.mem_cons_of_mem _ hw)]
    split
    · have : x ≠ n := by rintro rfl; exact h v List.mem_cons_self
      simp [this]
    · rfl
theorem bindC_out {kindOf : Str → Option NameKind} {x : Str} : ∀ {binds : List (Str × Value)} {m : Str → Option Value}, (∀ v, (x, v) ∉ binds) → bindC kindOf binds m x = m x
  | [], _, _ => rfl
  | (n, v) :: r, m, h => by
    unfold bindC
    rw [bindC_out fun w hw => h w (List.mem_cons_of_mem _ hw)]
    split
    · rfl
    · have : x ≠ n := by rintro rfl; exact h v List.mem_cons_self
      simp [this]
theorem bindL_get {kindOf : Str → Option NameKind} {x : Str} {v : Value} : ∀ {P : List Str} {vs : List Value} {i : Nat} {m : Str → Option Value}, P.Nodup → P[i]? = some x → vs[i]? = some v → kindOf x = some .local →
    bindL kindOf (P.zip vs) m x = some v
  | [], _, _, _, _, h, _, _ => by simp at h
  | _ :: _, [], _, _, _, _, h, _ => by simp at h
  | p :: P, w :: vs, 0, m, nd, h1, h2, hk => by
    simp at h1 h2; subst h1; subst h2
    show bindL kindOf ((p, w) :: P.zip vs) m p = _
    unfold bindL
    rw [bindL_out fun v hv => (List.nodup_cons.mp nd).1 (List.of_mem_zip hv).1, if_pos hk]
    simp
  | p :: P, w :: vs, i + 1, m, nd, h1, h2, hk => by
    show bindL kindOf ((p, w) :: P.zip vs) m x = _
    unfold bindL
    exact bindL_get (i := i) (List.nodup_cons.mp nd).2 (by simpa using h1) (by simpa using h2) hk
theorem bindC_get {kindOf : Str → Option NameKind} {x : Str} {v : Value} : ∀ {P : List Str} {vs : List Value} {i : Nat} {m : Str → Option Value}, P.Nodup → P[i]? = some x → vs[i]? = some v → kindOf x ≠ some .local →
    bindC kindOf (P.zip vs) m x = some v
  | [], _, _, _, _, h, _, _ => by simp at h
  | _ :: _, [], _, _, _, _, h, _ => by simp at h
  | p :: P, w :: vs, 0, m, nd, h1, h2, hk => by
    simp at h1 h2; subst h1; subst h2
    show bindC kindOf ((p, w) :: P.zip vs) m p = _
    unfold bindC
    rw [bindC_out fun v hv => (List.nodup_cons.mp nd).1 (List.of_mem_zip hv).1, if_neg hk]
    simp
  | p :: P, w :: vs, i + 1, m, nd, h1, h2, hk => by
    show bindC kindOf ((p, w) :: P.zip vs) m x = _
    unfold bindC
    exact bindC_get (i := i) (List.nodup_cons.mp nd).2 (by simpa using h1) (by simpa using h2) hk
def start (N : List Str) (vs : List V) : St := vs.map some ++ List.replicate (N.length - vs.length) none
def cxOf (CX : CXT) (P : Program) (w : World) (K : PySem.W.Frag) (mg : Str → Option Value) (base : Heap) (N : List Str) (qual : Str) (scope : Scope) (f : Addr) (cd : Value) (A : Around) (outer : List Env) (s : Shared) (H : Hp) (E : XK) : Cx where
  prog := P
  w := w
  K := K
  mg := mg
  base := base
  A := A.deeper (envOfC qual scope s.heap.objs.size f cd)
  N := N
  s₀ := s
  H₀ := H
  env := envOfC qual scope s.heap.objs.size f cd
  outer := outer
  stack := envOfC qual scope s.heap.objs.size f cd :: outer
  ex := []
  calm := true
  fn := fun _ => true
  pn := []
  xe := fun e s' => wpAny (model P w) (A.deeper (envOfC qual scope s.heap.objs.size f cd)) (leaving (envOfC qual scope s.heap.objs.size f cd) e) (fun _ s'' => CX outer H s E e s'') (fun e' s'' => CX outer H s E e' s'') s'
theorem cell_has {sc : Scope} {n : Nat} {x : Str} (h : sc.names.lookup x = some .cell) : ∃ c, (cellsFrom n sc.names []).lookup x = some c := by
  have q := PySem.W.cellsFrom_some sc.names n [] (.inl h)
  exact Option.isSome_iff_exists.mp q
theorem inv_start {CX : CXT} {P : Program} {w : World} {K : PySem.W.Frag} {mg : Str → Option Value} {base : Heap} {N ps : List Str} {qual : Str} {scope : Scope} {f : Addr} {cd : Value} {A : Around} {outer : List Env} {s s1 : Shared} {H : Hp} {E : XK} {us : List Value} {vs : List V}
    (S : FnScope N ps scope) (hd : A.handled = none) (e0 : Env0 P w K mg base A outer s H) (hl : vs.length = ps.length) (r : Vals vs us)
    (x : InCallC s s.heap.objs.size (bindL (envOfC qual scope s.heap.objs.size f cd).kindOf (ps.zip us) fun _ => none) (cellsFrom (s.heap.objs.size + 1) scope.names []) (bindC (envOfC qual scope s.heap.objs.size f cd).kindOf (ps.zip us) fun _ => none) s1) :
    Inv (cxOf CX P w K mg base N qual scope f cd A outer s H E) [] (start N vs) H s1 := by
  have hpl : ps.length ≤ N.length := by have := congrArg List.length S.pre; rw [List.length_take] at this; omega
  obtain ⟨h1, tk, rfl, hk⟩ := x.done
  have noA : ∀ b : Addr, b ∉ (cxOf CX P w K mg base N qual scope f cd A outer s H E).ex := fun b z => absurd (show b ∈ ([] : List Addr) from z) (by simp)
  refine ⟨⟨e0.mod, S.kind, rfl, rfl, Nat.le_refl _, fun y z c h1 h2 => ?_, fun y hy => ?_, fun y c _ h => ?_, fun _ => hd, Around.frames_deeper e0.frames, .inr ⟨rfl, rfl⟩, fun b z => absurd z (noA b), e0.bs, e0.bsz, fun b _ _ => noA b, fun b z => absurd z (noA b), e0.funs, e0.frf⟩,
    rfl, e0.bare, Un.kept hk, ⟨_, x.toInCall.ns, fun i y v h1 h2 h3 => ?_⟩, fun y c h => ⟨_, x.cell y c h⟩, e0.hok.fresh (Nat.le_refl _), fun y c h => ?_, fun p hp => absurd (show p ∈ ([] : List (Addr × Obj)) from hp) (by simp), e0.hok.kept hk, ?_⟩
  · exact name_of_addr x.apart (PySem.mem_of_lookup h1) (PySem.mem_of_lookup h2)
  · have hy : scope.names.lookup y = some .cell ∨ scope.names.lookup y = some .free := hy
    rcases hy with hy | hy
    · exact cell_has hy
    · exact absurd rfl (S.nofree _ (PySem.mem_of_lookup hy))
  · exact Nat.le_of_lt (x.above y c (PySem.mem_of_lookup h))
  · have hi : i < vs.length := by
      unfold start at h2
      by_cases hi : i < vs.length
      · exact hi
      · rw [List.getElem?_append_right (by simpa using hi)] at h2
        rw [List.getElem?_replicate] at h2
        split at h2 <;> cases h2
    have ha : vs[i]? = some v := by
      unfold start at h2
      rw [List.getElem?_append_left (by simpa using hi), List.getElem?_map] at h2
      cases e : vs[i]? with
      | none => rw [e] at h2; cases h2
      | some a => rw [e] at h2; cases h2; rfl
    obtain ⟨u, hu, rv⟩ := r.get ha
    have hp : ps[i]? = some y := by
      rw [← S.pre, List.getElem?_take_of_lt (by omega)]; exact h1
    have ndP : ps.Nodup := by rw [← S.pre]; exact S.nd.sublist (List.take_sublist _ _)
    refine ⟨u, rv, ?_⟩
    rcases S.par y (List.mem_of_getElem? hp) with k | k
    · exact .inl ⟨k, bindL_get ndP hp hu k⟩
    · obtain ⟨c, e⟩ := cell_has (n := s.heap.objs.size + 1) k
      refine .inr ⟨.inl k, c, e, ?_⟩
      have q := x.cell y c e
      rw [bindC_get ndP hp hu (by show scope.names.lookup y ≠ _; rw [k]; decide)] at q
      exact q
  · exact e0.hok.fresh (Nat.le_of_lt (x.above y c (PySem.mem_of_lookup h)))
  · unfold start
    show _ = N.length
    rw [List.length_append, List.length_map, List.length_replicate]
    omega
theorem fn_of {CX : CXT} {P : Program} {w : World} {K : PySem.W.Frag} {mg : Str → Option Value} {base : Heap} {k : Nat} {f : Addr} {name qual : Str} {params : Arguments} {body : List Stmt} {scope : Scope} {dV kV doc pm cdv ct oc : Value} {an od : Option Addr}
    {osl : Array (Option Value)} {N ps : List Str} {sp : Sp} (lk : K.lookup f = some ⟨oc, od, .func (PySem.W.fnOf name qual params body scope dV kV doc pm an cdv ct), osl⟩) (hcd : PySem.W.codeIn K cdv qual = true) (S : FnScope N ps scope)
    (len : ∀ vs H Q E, sp vs H Q E → vs.length = ps.length)
    (hbody : ∀ (A : Around) (outer : List Env) (s : Shared) (H : Hp) (vs : List V) (Q : VK) (E : XK), Room k (A.deeper (envOfC qual scope s.heap.objs.size f cdv)) → sp vs H Q E →
      ∃ t, PSs (cxOf CX P w K mg base N qual scope f cdv A outer s H E) body t ∧ t { nx := fun _ H' => Q .non H', rt := Q } (start N vs) H) :
    FnOk P w K mg base CX (k + 1) f (PySem.W.fnOf name qual params body scope dV kV doc pm an cdv ct) ps sp := by
  refine ⟨len, fun A outer s H args us vs Q E hr e0 hb r hsp => ?_⟩
  have hl := len _ _ _ _ hsp
  have KX : K.In s.heap := e0.mod.kin.keeps fun b o e => (e0.bs b o e).1
  have lim : s.heap.NoLimit := e0.mod.nolimit.keeps fun b o e => (e0.bs b o e).1
  have hkind : ∀ y ∈ ps.zip us, scope.names.lookup y.1 = some .local ∨ (scope.names.lookup y.1 = some .cell ∧ ((cellsFrom (s.heap.objs.size + 1) scope.names []).lookup y.1).isSome = true) := fun ⟨n, v⟩ hy => by
    rcases S.par n (List.of_mem_zip hy).1 with q | q
    · exact .inl q
    · exact .inr ⟨q, PySem.W.cellsFrom_some _ _ _ (.inl q)⟩
  refine codeAny_call_function hr.depth (KX _ _ lk) rfl S.co S.gen rfl (PySem.W.codeRec_of KX hcd) (hb _ _ _ _ ?_)
  refine wpAny_newFunctionEnv_cells S.kind hkind fun env he s1 x => ?_
  subst he
  refine ⟨lim.keeps x.toInCall.keep, codeAny_func ?_⟩
  obtain ⟨t, ht, hq⟩ := hbody A outer s H vs Q E (hr.deeper _) hsp
  have I : Inv (cxOf CX P w K mg base N qual scope f cdv A outer s H E) [] (start N vs) H s1 := inv_start S hr.hd e0 hl r x
  refine wpAny_mono (ht [] s1 (start N vs) H _ I hq) (fun fl s' hs => ?_) fun e s' hs => hs
  have fin : ∀ {σ' : St} {H' : Hp} {v : V} {u : Value}, Inv (cxOf CX P w K mg base N qual scope f cdv A outer s H E) [] σ' H' s' → RelV v u → Q v H' → CE outer P w H s Q u s' :=
    fun {σ' H' v u} J rv q => ⟨v, H', J.os, J.bare, J.base, J.hok, rv, q⟩
  cases fl with
  | ret u =>
    obtain ⟨v, σ', H', J, rv, q⟩ := hs
    exact fin J rv q
  | next =>
    obtain ⟨σ', H', J, q⟩ := hs
    exact fin (v := V.non) (u := Value.none) J rfl q
  | brk =>
    obtain ⟨_, _, _, q⟩ := hs
    exact False.elim q
  | cont =>
    obtain ⟨_, _, _, q⟩ := hs
    exact False.elim q
end L2
namespace L2
open PySem PySem.Spec PyProof.Rows
section
variable {X : Cx} {x : Str} {p pos : Pos} {e : Expr} {es : List Expr} {t : TA} {id T : String} {r : List V → Hp → VK → Prop}
def tCB (r : List V → Hp → VK → Prop) (t : TA) : TE := fun σ H Q => t σ H fun vs H1 => r vs H1 Q
theorem pe_callB (hc : CallR X (.builtin id) r) (hg : Gl X x) (hm : X.mg x = none) (hv : bootBuiltins x = some (.builtin id)) (ha : PA X (e :: es) t) (hn : x ≠ "__name__" := by decide) (hdb : (x == ("__debug__" : Str)) = false := by decide)
    (he : starEach (e :: es) X.env = (false, eval e X.env) :: starEach es X.env := by rfl) (hpl : (backTo pos (starEach es X.env)).any (·.1) = false := by rfl) : PE X (.Call (.Name x p) (e :: es) [] pos) (tCB r t) := by
  intro pins s σ H Q I h
  refine wpAny_Call_Name_kw (ld_blt I hg hm hv ?_ hn hdb)
  exact PyProof.Rows.callWith_builtin1 (thn (ha pos pins s σ H _ I h) fun us s1 ⟨vs, H1, I1, r1, q1⟩ => hc pins s1 σ H1 vs us Q I1 r1 q1) he hpl
theorem pe_callTy (hc : CallR X (.type T) r) (hg : Gl X x) (hm : X.mg x = none) (hv : bootBuiltins x = some (.type T)) (ha : PA X (e :: es) t) (hn : x ≠ "__name__" := by decide) (hdb : (x == ("__debug__" : Str)) = false := by decide)
    (he : starEach (e :: es) X.env = (false, eval e X.env) :: starEach es X.env := by rfl) (hpl : (backTo pos (starEach es X.env)).any (·.1) = false := by rfl) : PE X (.Call (.Name x p) (e :: es) [] pos) (tCB r t) := by
  intro pins s σ H Q I h
  refine wpAny_Call_Name_kw (ld_blt I hg hm hv ?_ hn hdb)
  exact PyProof.Rows.callWith_type1 (thn (ha pos pins s σ H _ I h) fun us s1 ⟨vs, H1, I1, r1, q1⟩ => hc pins s1 σ H1 vs us Q I1 r1 q1) he hpl
end
end L2
namespace HT
open PySem PyProof.Rows
section
open PySem.SeqAt
open PySem.AutoSeq1 (wpAny_loadPart')
open PySem.MeetsSeq PySem.MeetsSeq2 PySem.MeetsSeq3
end
section
variable {prog : Program} {w : World} {A : Around} {E : Value → Shared → Prop} {s : Shared}
def sIx (n d : Nat) : Option Int → Nat
  | none => d
  | some v => if v < 0 then (v + (n : Int)).toNat else min v.toNat n
theorem sIx_nat (n d k : Nat) : sIx n d (some (k : Int)) = min k n := by
  show (if (k : Int) < 0 then ((k : Int) + (n : Int)).toNat else min (k : Int).toNat n) = min k n
  rw [if_neg (by omega), Int.toNat_natCast]
end
end HT
namespace L2
open PySem PySem.Spec PyProof.Rows
abbrev TO := St → Hp → (Option Int → Hp → Prop) → Prop
def PO (X : Cx) (e : Option Expr) (t : TO) : Prop :=
  ∀ (pins : List (Addr × Obj)) (s : Shared) (σ : St) (H : Hp) (Q : Option Int → Hp → Prop), Inv X pins σ H s → t σ H Q →
    wpAny (model X.prog X.w) X.A (evalPart e X.env) (fun u s' => ∃ o H', Inv X pins σ H' s' ∧ IsPart u o ∧ Q o H') X.xe s
def tNoPart : TO := fun _ H Q => Q none H
def tPart (t : TE) : TO := fun σ H Q => t σ H fun x H1 => ∃ i, x = .int i ∧ Q (some i) H1
section
variable {X : Cx} {e : Expr} {te : TE} {lo hi : Option Expr} {tl th : TO} {pos p2 : Pos}
theorem po_none : PO X none tNoPart := by
  intro pins s σ H Q I h
  rw [evalPart_none]
  exact wpAny_pure ⟨none, H, I, .none, h⟩
theorem po_some (h : PE X e te) : PO X (some e) (tPart te) := by
  intro pins s σ H Q I hw
  rw [evalPart_some]
  refine thn (h pins s σ H _ I hw) fun u s1 ⟨x, H1, I1, r1, q1⟩ => ?_
  obtain ⟨i, rfl, q⟩ := q1
  obtain ⟨t, rfl⟩ := r1
  exact ⟨some i, H1, I1, .int i t, q⟩
def SlR (X : Cx) (r : V → Option Int → Option Int → Hp → VK → Prop) : Prop :=
  ∀ (pins : List (Addr × Obj)) (s : Shared) (σ : St) (H : Hp) (x : V) (v vl vu : Value) (lo hi : Option Int) (sl : Addr) (Q : VK), Inv X pins σ H s → RelV x v → s.heap.IsSliceOf sl vl vu .none → IsPart vl lo → IsPart vu hi → r x lo hi H Q →
    ∃ T id, typeLookup (.type T) "__getitem__" = pure (some (.builtin id)) ∧ s.TypeIs v T ∧ wpAny (model X.prog X.w) X.A (getItem v (.ref sl)) (EP X pins σ Q) X.xe s
theorem SlR.or {r r' : V → Option Int → Option Int → Hp → VK → Prop} (h : SlR X r) (h' : SlR X r') : SlR X (fun x lo hi H Q => r x lo hi H Q ∨ r' x lo hi H Q) := by
  intro pins s σ H x v vl vu lo hi sl Q I rx hs pl pu q
  rcases q with q | q
  · exact h pins s σ H x v vl vu lo hi sl Q I rx hs pl pu q
  · exact h' pins s σ H x v vl vu lo hi sl Q I rx hs pl pu q
def tSl (r : V → Option Int → Option Int → Hp → VK → Prop) (te : TE) (tl th : TO) : TE := fun σ H Q => te σ H fun x H1 => tl σ H1 fun l H2 => th σ H2 fun u H3 => r x l u H3 Q
theorem pe_slice {r : V → Option Int → Option Int → Hp → VK → Prop} (hr : SlR X r) (he : PE X e te) (hl : PO X lo tl) (hu : PO X hi th) : PE X (.Subscript e (.Slice lo hi none p2) pos) (tSl r te tl th) := by
  intro pins s σ H Q I h
  refine Subscript_ (thn (he pins s σ H _ I h) fun v s1 ⟨x, H1, I1, r1, q1⟩ => ?_)
  refine wpAny_Slice (thn (hl pins s1 σ H1 _ I1 q1) fun vl s2 ⟨l, H2, I2, pl, q2⟩ => thn (hu pins s2 σ H2 _ I2 q2) fun vu s3 ⟨u, H3, I3, pu, q3⟩ => ?_)
  rw [evalPart_none]
  refine wpAny_pure ?_
  have I4 : Inv X pins σ H3 { s3 with heap := s3.heap.push { cls := .type "slice", data := .fields #[vl, vu, .none] } } := I3.kept (t' := s3.toks) fun b ob q => Heap.get?_push_of_some _ q
  obtain ⟨T, id, hT, ht, hg⟩ := hr pins { s3 with heap := s3.heap.push { cls := .type "slice", data := .fields #[vl, vu, .none] } } σ H3 x v vl vu l u s3.heap.objs.size Q I4 r1 (Heap.IsSliceOf.new ..) pl pu q3
  show wpAny (model X.prog X.w) X.A (subscriptTail e (.Slice lo hi none p2) v (.ref s3.heap.objs.size)) (EP X pins σ Q) X.xe { s3 with heap := s3.heap.push { cls := .type "slice", data := .fields #[vl, vu, .none] } }
  exact tail_any (ops := [.ref s3.heap.objs.size, v]) ht hT hg (by with_unfolding_all rfl)
def cutV (xs : List V) (lo hi : Option Int) : List V := (xs.drop (HT.sIx xs.length 0 lo)).take (HT.sIx xs.length xs.length hi - HT.sIx xs.length 0 lo)
theorem cutV_length (xs : List V) (lo hi : Option Int) : (cutV xs lo hi).length ≤ xs.length := by
  unfold cutV
  rw [List.length_take, List.length_drop]
  omega
end
end L2
namespace L2
open PySem PySem.Spec PyProof.Rows
def ixN (n : Nat) (i : Int) : Option Nat := if 0 ≤ i then (if i < n then some i.toNat else none) else if -(n : Int) ≤ i then some (i + n).toNat else none
def atI {α : Type} (xs : List α) (i : Int) : Option α := (ixN xs.length i).bind fun j => xs[j]?
theorem ixN_seq {n : Nat} {i : Int} {j : Nat} (h : ixN n i = some j) : seqIndex? i n = some j ∧ j < n ∧ -(n : Int) ≤ i ∧ i < n := by
  unfold ixN at h
  by_cases h0 : 0 ≤ i
  · rw [if_pos h0] at h
    by_cases h1 : i < n
    · rw [if_pos h1] at h
      have e : i.toNat = j := Option.some.inj h
      exact ⟨by rw [seqIndex_of h0 h1, e], by omega, by omega, h1⟩
    · rw [if_neg h1] at h; cases h
  · rw [if_neg h0] at h
    by_cases h1 : -(n : Int) ≤ i
    · rw [if_pos h1] at h
      have e : (i + n).toNat = j := Option.some.inj h
      exact ⟨by rw [seqIndex_neg (by omega) h1, e], by omega, h1, by omega⟩
    · rw [if_neg h1] at h; cases h
theorem atI_get {α : Type} {xs : List α} {i : Int} {v : α} (h : atI xs i = some v) : ∃ j, seqIndex? i xs.length = some j ∧ xs[j]? = some v ∧ j < xs.length ∧ -(xs.length : Int) ≤ i ∧ i < xs.length := by
  unfold atI at h
  cases e : ixN xs.length i with
  | none => rw [e] at h; cases h
  | some j =>
    rw [e] at h
    obtain ⟨h1, h2, h3, h4⟩ := ixN_seq e
    exact ⟨j, h1, h, h2, h3, h4⟩
theorem atI_nat {α : Type} {xs : List α} {j : Nat} {v : α} (h : xs[j]? = some v) : atI xs (j : Int) = some v := by
  have hj : j < xs.length := (List.getElem?_eq_some_iff.mp h).1
  have e : ixN xs.length (j : Int) = some j := by
    unfold ixN
    rw [if_pos (by omega), if_pos (by omega)]; simp
  unfold atI; rw [e]; exact h
def PlainIx (b : Expr) : Prop := ∀ o i, subscripted b false o i = operate [o, i] (getItem o i)
def IxR (X : Cx) (r : R2) : Prop :=
  ∀ (value slice : Expr) (pins : List (Addr × Obj)) (s : Shared) (σ : St) (H : Hp) (x y : V) (v u : Value) (Q : VK), Inv X pins σ H s → RelV x v → RelV y u → r x y H Q →
    subscripted slice false v u = operate [v, u] (getItem v u) → wpAny (model X.prog X.w) X.A (subscriptTail value slice v u) (EP X pins σ Q) X.xe s
def MtR (X : Cx) (id : String) (r : V → List V → Hp → VK → Prop) : Prop :=
  ∀ (pins : List (Addr × Obj)) (s : Shared) (σ : St) (H : Hp) (x : V) (xs : List V) (v : Value) (us : List Value) (Q : VK), Inv X pins σ H s → RelV x v → Vals xs us → r x xs H Q →
    wpAny (model X.prog X.w) X.A (call (.builtin id) (v :: us)) (EP X pins σ Q) X.xe s
section
variable {X : Cx} {a b : Expr} {ta tb : TE} {pos : Pos}
theorem IxR.or {r r' : R2} (h : IxR X r) (h' : IxR X r') : IxR X (fun x y H Q => r x y H Q ∨ r' x y H Q) := by
  intro value slice pins s σ H x y v u Q I rx ry q hs
  rcases q with q | q
  · exact h value slice pins s σ H x y v u Q I rx ry q hs
  · exact h' value slice pins s σ H x y v u Q I rx ry q hs
theorem MtR.or {id : String} {r r' : V → List V → Hp → VK → Prop} (h : MtR X id r) (h' : MtR X id r') : MtR X id (fun x xs H Q => r x xs H Q ∨ r' x xs H Q) := by
  intro pins s σ H x xs v us Q I rx rs q
  rcases q with q | q
  · exact h pins s σ H x xs v us Q I rx rs q
  · exact h' pins s σ H x xs v us Q I rx rs q
theorem pe_ix {r : R2} (hr : IxR X r) (ha : PE X a ta) (hb : PE X b tb) (hs : PlainIx b) : PE X (.Subscript a b pos) (tOp r ta tb) := by
  intro pins s σ H Q I h
  exact Subscript_ (binT ha hb I h fun v u s2 x y H2 I2 rx ry q => hr a b pins s2 σ H2 x y v u Q I2 rx ry q (hs _ _))
def rIxL (K : PySem.W.Frag) : R2 := fun x y H Q => ∃ p xs i v, x = .ref p ∧ y = .int i ∧ SqL K H p xs ∧ atI xs i = some v ∧ Q v H
def rIxT (K : PySem.W.Frag) : R2 := fun x y H Q => ∃ p xs i v, x = .ref p ∧ y = .int i ∧ SqT K H p xs ∧ atI xs i = some v ∧ Q v H
theorem ix_list : IxR X (rIxL X.K) := by
  intro value slice pins s σ H x y v u Q I rx ry h hs
  obtain ⟨p, xs, i, z, rfl, rfl, hq, he, q⟩ := h
  cases rx
  obtain ⟨t, rfl⟩ := ry
  obtain ⟨its, r, pl, hz⟩ := I.list hq
  obtain ⟨j, h1, h2, h3, h4, h5⟩ := atI_get he
  obtain ⟨w, ew, rw'⟩ := r.get h2
  have hl := r.length
  have hn := line63
  have fin : EP X pins σ Q w s := ⟨z, H, I, rw', q⟩
  by_cases h0 : 0 ≤ i
  · have hj : i.toNat = j := by
      rw [seqIndex_of h0 h5] at h1
      exact Option.some.inj h1
    exact item_listR pl.isList h0 (by omega) (by rw [hj]; simpa using ew) fin hs
  · have hj : (i + (its.toArray.size : Int)).toNat = j := by
      rw [seqIndex_neg (by omega) h4] at h1
      rw [List.size_toArray, ← hl]
      exact Option.some.inj h1
    exact subscriptTail_builtinR (x := w) pl.isList.typeIs slot_list_getitem.lookup
      (wpAny_getItem_list_neg (Q := fun r s' => r = w ∧ EP X pins σ Q r s') pl.isList (by omega) (by rw [List.size_toArray] <;> omega) (by omega) (by rw [hj]; simpa using ew) ⟨rfl, fin⟩) hs
theorem ix_tup : IxR X (rIxT X.K) := by
  intro value slice pins s σ H x y v u Q I rx ry h hs
  obtain ⟨p, xs, i, z, rfl, rfl, hq, he, q⟩ := h
  cases rx
  obtain ⟨t, rfl⟩ := ry
  obtain ⟨its, r, pl, hz⟩ := I.tuple hq
  obtain ⟨j, h1, h2, h3, h4, h5⟩ := atI_get he
  obtain ⟨w, ew, rw'⟩ := r.get h2
  have hl := r.length
  have hn := line63
  have fin : EP X pins σ Q w s := ⟨z, H, I, rw', q⟩
  exact subscriptTail_builtinR (x := w) pl.typeIs slot_tuple_getitem.lookup
    (getItem_tuple (j := j) (Q := fun r s' => r = w ∧ EP X pins σ Q r s') pl (by omega) (by omega) (by rw [List.size_toArray, ← hl]; exact h1) (by simpa using ew) ⟨rfl, fin⟩) hs
theorem mapSeq_set (its : List Value) (n j : Nat) (u : Value) : Obj.mapSeq (·.setIfInBounds j u) { cls := .type "list", data := .seq its.toArray n } = { cls := .type "list", data := .seq (its.set j u).toArray n } := by
  simp [Obj.mapSeq]
theorem Inv.lst {pins : List (Addr × Obj)} {σ : St} {H : Hp} {s : Shared} {p : Addr} {xs : List V} (I : Inv X pins σ H s) (h : H p = some (.lst xs)) :
    ∃ (its : List Value) (n : Nat), Vals xs its ∧ s.heap.get? p = some { cls := .type "list", data := .seq its.toArray n } ∧ xs.length ≤ sizeLine := by
  obtain ⟨z, its, n, r, e⟩ := I.hok p _ h
  exact ⟨its, n, r, e, z⟩
theorem Inv.lstUpd {pins : List (Addr × Obj)} {σ : St} {H : Hp} {s : Shared} {p : Addr} {xs ys : List V} {its its' : List Value} {n n' : Nat} {f : Obj → Obj} (I : Inv X pins σ H s) (h : H p = some (.lst xs))
    (ho : s.heap.get? p = some { cls := .type "list", data := .seq its.toArray n }) (hf : f { cls := .type "list", data := .seq its.toArray n } = { cls := .type "list", data := .seq its'.toArray n' }) (r : Vals ys its') (hz : ys.length ≤ sizeLine) (t : Nat) :
    Inv X pins σ (upd H p (.lst ys)) { s with heap := s.heap.update p f, toks := t } := by
  have e : (s.heap.update p f).get? p = some { cls := .type "list", data := .seq its'.toArray n' } := by
    rw [Heap.get?_update_self f ho (by rw [hf] <;> rfl), hf]
  refine I.write (x := p) (e := p) (by rw [h]; trivial) (.inl rfl) (fun b u hb q => (Heap.get?_update_other _ _ (Ne.symm hb)).trans q) ⟨_, e⟩ ?_
  exact ⟨hz, its', n', r, e⟩
def rSetL : V → V → V → Hp → (Hp → Prop) → Prop := fun o i v H Q => ∃ p xs k j, o = .ref p ∧ i = .int k ∧ H p = some (.lst xs) ∧ ixN xs.length k = some j ∧ Q (upd H p (.lst (xs.set j v)))
theorem set_list : PSet X rSetL := by
  intro pins s σ H o i v ov iv u Q I ro ri rv h
  obtain ⟨p, xs, k, j, rfl, rfl, hp, hj, q⟩ := h
  cases ro
  obtain ⟨t, rfl⟩ := ri
  obtain ⟨its, n, r, ho, hz⟩ := I.lst hp
  obtain ⟨h1, h2, h3, h4⟩ := ixN_seq hj
  have hl := r.length
  have hn := line63
  have I' : Inv X pins σ (upd H p (.lst (xs.set j v))) { s with heap := s.heap.update p (Obj.mapSeq (·.setIfInBounds j u)) } :=
    I.lstUpd hp ho (mapSeq_set its n j u) (r.set rv j) (by rw [List.length_set]; exact hz) s.toks
  by_cases h0 : 0 ≤ k
  · have hk : k.toNat = j := by
      rw [seqIndex_of h0 h4] at h1
      exact Option.some.inj h1
    exact PySem.W.ki_setAt ho h0 (by omega) (by rw [List.size_toArray, ← hl]; exact h4) (by rw [hk]; exact ⟨_, I', q⟩)
  · have hk : (k + (its.toArray.size : Int)).toNat = j := by
      rw [seqIndex_neg (by omega) h3] at h1
      rw [List.size_toArray, ← hl]
      exact Option.some.inj h1
    exact PySem.W.ki_setBack ho (by omega) (by rw [List.size_toArray, ← hl]; exact h3) (by omega) (by rw [hk]; exact ⟨_, I', q⟩)
theorem slice_bounds (lo hi : Option Int) (n : Nat) : (sliceBounds lo hi none n).1 = ((HT.sIx n 0 lo : Nat) : Int) ∧ (sliceBounds lo hi none n).2.1 = ((HT.sIx n n hi : Nat) : Int) ∧ (sliceBounds lo hi none n).2.2 = 1 := by
  refine ⟨?_, ?_, rfl⟩
  · cases lo with
    | none => simp [sliceBounds, HT.sIx]
    | some i =>
      simp only [sliceBounds, HT.sIx, Option.getD_none, show (1 : Int) > 0 by decide, if_true]
      by_cases h : i < 0
      · simp only [h, if_true] <;> omega
      · simp only [h, if_false] <;> omega
  · cases hi with
    | none => simp [sliceBounds, HT.sIx]
    | some i =>
      simp only [sliceBounds, HT.sIx, Option.getD_none, show (1 : Int) > 0 by decide, if_true]
      by_cases h : i < 0
      · simp only [h, if_true] <;> omega
      · simp only [h, if_false] <;> omega
theorem slicePick_cut (its : List Value) (lo hi : Option Int) : slicePick its.toArray lo hi none = ((its.drop (HT.sIx its.length 0 lo)).take (HT.sIx its.length its.length hi - HT.sIx its.length 0 lo)).toArray := by
  obtain ⟨h1, h2, h3⟩ := slice_bounds lo hi its.toArray.size
  unfold slicePick
  rw [h1, h2, h3]
  simp only [sliceRange_one, pick_run, List.size_toArray] <;> rfl
def rSlL (K : PySem.W.Frag) : V → Option Int → Option Int → Hp → VK → Prop := fun x lo hi H Q => ∃ a xs, x = .ref a ∧ SqL K H a xs ∧ ∀ p, H p = none → Q (.ref p) (upd H p (.lst (cutV xs lo hi)))
theorem sl_list : SlR X (rSlL X.K) := by
  intro pins s σ H x v vl vu lo hi sl Q I rx hs pl pu h
  obtain ⟨a, xs, rfl, hx, q⟩ := h
  cases rx
  obtain ⟨its, r, ht, hz⟩ := I.list hx
  have hlen := r.length
  refine ⟨"list", _, slot_list_getitem.lookup, ht.isList.typeIs, ?_⟩
  refine wpAny_getItem_list_slice ht.isList hs pl pu .none (by simp) ?_ (by rw [List.size_toArray] <;> omega)
  rw [slicePick_cut, ← hlen]
  refine ⟨.ref s.heap.objs.size, _, I.laid (t' := s.toks) (o := .lst (cutV xs lo hi)) (fun b ob q => Heap.get?_push_of_some _ q) (Nat.le_refl _) ?_, rfl, q _ (I.hok.fresh (Nat.le_refl _))⟩
  exact ⟨Nat.le_trans (cutV_length xs lo hi) hz, _, 0, (r.drop (HT.sIx xs.length 0 lo)).take (HT.sIx xs.length xs.length hi - HT.sIx xs.length 0 lo), Heap.get?_push_size _ rfl⟩
def flatV : V → Bool
  | .non => true
  | .bl _ => true
  | .int _ => true
  | .str _ => true
  | _ => false
def eqV : V → V → Bool
  | .non, .non => true
  | .bl a, .bl b => a == b
  | .bl a, .int b => (if a then 1 else 0) == b
  | .int a, .bl b => a == (if b then 1 else 0)
  | .int a, .int b => a == b
  | .str a, .str b => a == b
  | _, _ => false
theorem eqAt_V {A : Around} {s : Shared} {y x : V} {u v : Value} (ry : RelV y u) (rx : RelV x v) (fy : flatV y = true) (fx : flatV x = true) : SeqAt.EqAt A s u v (eqV y x) := by
  cases y with
  | non =>
    cases ry
    cases x with
    | non => cases rx; exact SeqAt.EqAt.same _
    | bl b => cases rx; exact SeqAt.EqAt.none_bool b
    | int b => obtain ⟨t, rfl⟩ := rx; exact SeqAt.EqAt.none_int b t
    | str b => obtain ⟨t, rfl⟩ := rx; exact SeqAt.EqAt.none_str b t
    | _ => exact absurd (show false = true from fx) Bool.false_ne_true
  | bl a =>
    cases ry
    cases x with
    | non => cases rx; exact SeqAt.EqAt.bool_none a
    | bl b => cases rx; exact SeqAt.EqAt.bool_bool a b
    | int b => obtain ⟨t, rfl⟩ := rx; exact SeqAt.EqAt.bool_int a b t
    | str b => obtain ⟨t, rfl⟩ := rx; exact SeqAt.EqAt.bool_str a b t
    | _ => exact absurd (show false = true from fx) Bool.false_ne_true
  | int a =>
    obtain ⟨t', rfl⟩ := ry
    cases x with
    | non => cases rx; exact SeqAt.EqAt.int_none a t'
    | bl b => cases rx; exact SeqAt.EqAt.int_bool a t' b
    | int b => obtain ⟨t, rfl⟩ := rx; exact SeqAt.EqAt.int_int a t' b t
    | str b => obtain ⟨t, rfl⟩ := rx; exact SeqAt.EqAt.int_str a t' b t
    | _ => exact absurd (show false = true from fx) Bool.false_ne_true
  | str a =>
    obtain ⟨t', rfl⟩ := ry
    cases x with
    | non => cases rx; exact SeqAt.EqAt.str_none a t'
    | bl b => cases rx; exact SeqAt.EqAt.str_bool a t' b
    | int b => obtain ⟨t, rfl⟩ := rx; exact SeqAt.EqAt.str_int a t' b t
    | str b => obtain ⟨t, rfl⟩ := rx; exact SeqAt.EqAt.str_str a t' b t
    | _ => exact absurd (show false = true from fx) Bool.false_ne_true
  | _ => exact absurd (show false = true from fy) Bool.false_ne_true
theorem op_notIn_str : OpR X (compareOp .NotIn) (fun x y H Q => ∃ i j, x = .str i ∧ y = .str j ∧ Q (.bl (!(!(Builtin.Str.occurrences j i 0 j.length 1).isEmpty))) H) := by
  intro pins s σ H x y v u Q I rx ry h
  obtain ⟨i, j, rfl, rfl, q⟩ := h
  obtain ⟨t, rfl⟩ := rx
  obtain ⟨t', rfl⟩ := ry
  exact notIn_str ⟨.bl _, H, I, rfl, q⟩
theorem call_len_seq : CallR X (.builtin "len") (fun xs H Q => ∃ p ys, xs = [.ref p] ∧ (SqL X.K H p ys ∨ SqT X.K H p ys) ∧ Q (.int ys.length) H) := by
  intro pins s σ H xs us Q I r h
  obtain ⟨p, ys, rfl, hq, q⟩ := h
  obtain ⟨u, rfl, rx⟩ := vals1 r
  cases rx
  have hn := line63
  rcases hq with hq | hq
  · obtain ⟨its, r', pl, hz⟩ := I.list hq
    have hlen := r'.length
    exact Calls.call_len_list pl.isList (by simp only [List.size_toArray] <;> omega) ⟨.int ys.length, H, I.tok _, ⟨s.toks + 1, by rw [List.size_toArray, hlen]⟩, q⟩
  · obtain ⟨its, r', pl, hz⟩ := I.tuple hq
    have hlen := r'.length
    exact len_tuple pl (by simp only [List.size_toArray] <;> omega) ⟨.int ys.length, H, I.tok _, ⟨s.toks + 1, by rw [List.size_toArray, hlen]⟩, q⟩
theorem CallR.or {f : Value} {r r' : List V → Hp → VK → Prop} (h : CallR X f r) (h' : CallR X f r') : CallR X f (fun xs H Q => r xs H Q ∨ r' xs H Q) := by
  intro pins s σ H xs us Q I rs q
  rcases q with q | q
  · exact h pins s σ H xs us Q I rs q
  · exact h' pins s σ H xs us Q I rs q
def tyV (K : PySem.W.Frag) (T : String) (x : V) (H : Hp) : Prop := match x with
  | .str _ => T = "str"
  | .int _ => T = "int"
  | .ref p => (T = "list" ∧ ∃ xs, SqL K H p xs) ∨ (T = "tuple" ∧ ∃ o, K.lookup p = some o ∧ o.cls = .type "tuple" ∧ o.dict = none) ∨
      (T = "dict" ∧ ((∃ kvs, H p = some (.dK kvs)) ∨ ∃ kvs, H p = some (.dT kvs))) ∨ (T = "set" ∧ ∃ S n, H p = some (.set S n))
  | _ => False
theorem tyV_is {pins : List (Addr × Obj)} {σ : St} {H : Hp} {s : Shared} {T : String} {x : V} {v : Value} (I : Inv X pins σ H s) (r : RelV x v) (ty : tyV X.K T x H) :
    s.TypeIs v T ∧ ∀ a, v = .ref a → ∃ ob, s.heap.get? a = some ob ∧ ob.dict = none := by
  cases x with
  | str z =>
    obtain ⟨t, rfl⟩ := r
    cases (show T = "str" from ty)
    exact ⟨typeIs_str s z t, fun _ e => nomatch e⟩
  | int i =>
    obtain ⟨t, rfl⟩ := r
    cases (show T = "int" from ty)
    exact ⟨typeIs_int s i t, fun _ e => nomatch e⟩
  | ref p =>
    cases r
    rcases ty with ⟨rfl, xs, hq⟩ | ⟨rfl, o, hk, hc, hd⟩ | ⟨rfl, hk⟩ | ⟨rfl, S, n, hk⟩
    · obtain ⟨its, _, pl, _⟩ := I.list hq
      refine ⟨pl.isList.typeIs, fun a e => ?_⟩
      cases e
      obtain ⟨o, n, e, c, hd, _⟩ := pl
      exact ⟨o, e, hd⟩
    · refine ⟨⟨o, I.kIn p o hk, hc⟩, fun a e => ?_⟩
      cases e
      exact ⟨o, I.kIn _ o hk, hd⟩
    · have z : ∃ o, s.heap.get? p = some o ∧ o.ExactDict := by
        rcases hk with ⟨kvs, hk⟩ | ⟨kvs, hk⟩
        · obtain ⟨_, _, _, _, o, _, _, e, ex, _⟩ := I.hok p _ hk
          exact ⟨o, e, ex⟩
        · obtain ⟨_, _, _, _, o, _, _, e, ex, _⟩ := I.hok p _ hk
          exact ⟨o, e, ex⟩
      obtain ⟨o, e, ex⟩ := z
      refine ⟨⟨o, e, ex.1⟩, fun a e2 => ?_⟩
      cases e2
      exact ⟨o, e, ex.2.1⟩
    · obtain ⟨o, _, _, _, e, ex, _⟩ := I.hok p _ hk
      refine ⟨⟨o, e, ex.1⟩, fun a e2 => ?_⟩
      cases e2
      exact ⟨o, e, ex.2.1⟩
  | _ => exact False.elim ty
def tBM (K : PySem.W.Frag) (T : String) (r : V → List V → Hp → VK → Prop) (to : TE) (t : TA) : TE := fun σ H Q => to σ H fun x H1 => tyV K T x H1 ∧ t σ H1 fun xs H2 => r x xs H2 Q
variable {o e : Expr} {es : List Expr} {to : TE} {t : TA} {name : Str} {apos cpos : Pos} {T id : String} {r : V → List V → Hp → VK → Prop}
theorem pe_bm (pa : PlainAttrs T) (slot : Slot T name id) (hty : typeOf (.builtin id) = pure (.type "method_descriptor")) (hm : MtR X id r) (ho : PE X o to) (ha : PA X (e :: es) t)
    (hbase : attributeBase o name X.env (eval o X.env) = eval o X.env := by rfl)
    (hfew : ((backTo cpos (starEach (e :: es) X.env)).all (fun x => !x.1) && (backToKw cpos (keywordEach [] X.env)).all (fun x => x.1.isSome)
      && decide ((e :: es).length + ([] : List Keyword).length + (if ([] : List Keyword).isEmpty then 0 else 1) < 30)) = true := by rfl)
    (hline : (apos.endLine == cpos.line) = true := by rfl) (hs : starEach (e :: es) X.env = (false, eval e X.env) :: starEach es X.env := by rfl) (hplain : (backTo cpos (starEach es X.env)).any (·.1) = false := by rfl) :
    PE X (.Call (.Attribute o name apos) (e :: es) [] cpos) (tBM X.K T r to t) := by
  intro pins s σ H Q I h
  refine wpAny_Call_method_late hbase hfew hline rfl (thn (ho pins s σ H _ I h) fun v s1 ⟨x, H1, I1, r1, ty, q1⟩ => ?_)
  obtain ⟨h1, h2⟩ := tyV_is I1 r1 ty
  refine ⟨T, id, pa, slot, hty, h1, h2, ?_⟩
  have hA := ha cpos pins s1 σ H1 _ I1 q1
  rw [hs] at hA ⊢
  refine Calls.callWith_builtin (by show (false || (backTo cpos (starEach es X.env)).any (·.1)) = false; rw [hplain] <;> rfl) (Calls.evalArgs_plain ?_)
  exact thn hA fun us s2 ⟨vs, H2, I2, r2, q2⟩ => hm pins s2 σ H2 x vs v us Q I2 r1 r2 q2
/- xs.append(e), list.index on a module's tuple .. are MtR facts of 06m -/
end
end L2
namespace L2
open PySem PySem.Spec PyProof.Rows
def MtM (X : Cx) (id : String) (r : V → List V → Hp → VK → Prop) : Prop :=
  ∀ (pins : List (Addr × Obj)) (s : Shared) (σ : St) (H : Hp) (x : V) (xs : List V) (v : Value) (us : List Value) (Q : VK), Inv X pins σ H s → RelV x v → Vals xs us → r x xs H Q →
    wpAny (model X.prog X.w) X.A (call (.builtin id) (v :: us)) (EP X pins σ Q) X.xe s
theorem Vals.one : ∀ {x : V} {us : List Value}, Vals [x] us → ∃ u, us = [u] ∧ RelV x u
  | _, _, .cons r .nil => ⟨_, rfl, r⟩
theorem Vals.two : ∀ {x y : V} {us : List Value}, Vals [x, y] us → ∃ u v, us = [u, v] ∧ RelV x u ∧ RelV y v
  | _, _, _, .cons r (.cons q .nil) => ⟨_, _, rfl, r, q⟩
theorem Vals.zero : ∀ {us : List Value}, Vals [] us → us = []
  | _, .nil => rfl
theorem Vals.dropLast {xs : List V} {us : List Value} (h : Vals xs us) : Vals xs.dropLast us.dropLast := by
  induction h with
  | nil => exact .nil
  | cons r t ih =>
    cases t with
    | nil => exact .nil
    | cons q t' => exact .cons r ih
theorem Vals.reverse {xs : List V} {us : List Value} (h : Vals xs us) : Vals xs.reverse us.reverse := by
  induction h with
  | nil => exact .nil
  | cons r t ih => rw [List.reverse_cons, List.reverse_cons]; exact Vals.append ih (.cons r .nil)
theorem Vals.rep {xs : List V} {us : List Value} (h : Vals xs us) : ∀ k : Nat, Vals (List.replicate k xs).flatten (List.replicate k us).flatten
  | 0 => .nil
  | k + 1 => by
    rw [List.replicate_succ, List.replicate_succ, List.flatten_cons, List.flatten_cons]
    exact Vals.append h (Vals.rep h k)
section
variable {X : Cx} {pins : List (Addr × Obj)} {σ : St} {H : Hp} {s : Shared} {l b : Addr} {xs ys zs : List V}
theorem Inv.lset {its its' : List Value} {n : Nat} {f : Array Value → Array Value} {t' : Nat} (I : Inv X pins σ H s) (hH : H l = some (.lst xs))
    (e : s.heap.get? l = some { cls := .type "list", data := .seq its.toArray n }) (hf : f its.toArray = its'.toArray) (hv : Vals ys its') (hz : ys.length ≤ sizeLine) :
    Inv X pins σ (upd H l (.lst ys)) { s with heap := s.heap.update l (Obj.mapSeq f), toks := t' } := by
  have q := PySem.IsL.update e f
  rw [hf] at q
  refine I.write (x := l) (e := l) (by rw [hH]; exact trivial) (.inl rfl) (fun b' u hb hu => (Heap.get?_update_other s.heap (Obj.mapSeq f) (Ne.symm hb)).trans hu) ⟨_, q⟩ ?_
  exact ⟨hz, its', _, hv, q⟩
theorem Inv.lnew {its : List Value} {t' : Nat} (I : Inv X pins σ H s) (hv : Vals ys its) (hz : ys.length ≤ sizeLine) :
    Inv X pins σ (upd H s.heap.objs.size (.lst ys)) { s with heap := s.heap.push { cls := .type "list", data := .seq its.toArray }, toks := t' } :=
  I.laid (fun _ _ q => Heap.get?_push_of_some _ q) (Nat.le_refl _) ⟨hz, its, 0, hv, Heap.get?_push_size _ rfl⟩
theorem Inv.fresh (I : Inv X pins σ H s) : H s.heap.objs.size = none := I.hok.fresh (Nat.le_refl _)
theorem Inv.lstM (I : Inv X pins σ H s) (hH : H l = some (.lst xs)) : xs.length ≤ sizeLine ∧ ∃ (its : List Value) (n : Nat), Vals xs its ∧ xs.length = its.length ∧ s.heap.get? l = some { cls := .type "list", data := .seq its.toArray n } := by
  obtain ⟨z, its, n, r, e⟩ := I.hok l _ hH
  exact ⟨z, its, n, r, r.length, e⟩
theorem notLongL {n : Nat} (h : n ≤ sizeLine) : Builtin.List.listTooLong n = false := by
  unfold Builtin.List.listTooLong
  exact decide_eq_false (by omega)
end
section
variable {X : Cx}
def rAppend : V → List V → Hp → VK → Prop := fun x vs H Q => ∃ l xs y, x = .ref l ∧ vs = [y] ∧ H l = some (.lst xs) ∧ xs.length < sizeLine ∧ Q .non (upd H l (.lst (xs ++ [y])))
theorem mt_append : MtM X "list.append" rAppend := by
  intro pins s σ H x vs v us Q I rx rv h
  obtain ⟨l, xs, y, rfl, rfl, hH, hz, q⟩ := h
  cases rx
  obtain ⟨u, rfl, ru⟩ := rv.one
  obtain ⟨z, its, n, r, hl, e⟩ := I.lstM hH
  refine call_meets F.slot_list_append ⟨_, e, rfl⟩ F.entry_list_append (F.args_list_append_2 _ _) (PySem.list_append l its.toArray n u (by rw [List.size_toArray]; omega)) ⟨e, ?_⟩
  refine ⟨.non, _, I.lset (its' := its ++ [u]) hH e (by simp) (r.append (.cons ru .nil)) ?_, rfl, q⟩
  rw [List.length_append, List.length_singleton]
  omega
def rExtend : V → List V → Hp → VK → Prop := fun x vs H Q => ∃ l b xs zs, x = .ref l ∧ vs = [.ref b] ∧ H l = some (.lst xs) ∧ H b = some (.lst zs) ∧ xs.length + zs.length ≤ sizeLine ∧ Q .non (upd H l (.lst (xs ++ zs)))
theorem mt_extend : MtM X "list.extend" rExtend := by
  intro pins s σ H x vs v us Q I rx rv h
  obtain ⟨l, b, xs, zs, rfl, rfl, hH, hB, hz, q⟩ := h
  cases rx
  obtain ⟨u, rfl, ru⟩ := rv.one
  cases ru
  obtain ⟨z, its, n, r, hl, e⟩ := I.lstM hH
  obtain ⟨z2, its2, n2, r2, hl2, e2⟩ := I.lstM hB
  have hsz : its.toArray.size + its2.toArray.size ≤ sizeLine := by rw [List.size_toArray, List.size_toArray]; omega
  have hlong : ¬ (!its.toArray.isEmpty && Builtin.List.listTooLong (its.toArray.size + its2.toArray.size)) = true := by
    rw [notLongL hsz, Bool.and_false]
    exact Bool.false_ne_true
  refine call_meets F.slot_list_extend ⟨_, e, rfl⟩ F.entry_list_extend (F.args_list_extend_2 _ _)
    (AutoSeq1.list_extend_list_list_0 l its.toArray n b its2.toArray n2 hlong (by rw [List.size_toArray]; omega) (by omega)) ⟨e, e2, ?_⟩
  refine ⟨.non, _, I.lset (its' := its ++ its2) hH e (by simp) (r.append r2) ?_, rfl, q⟩
  rw [List.length_append]
  omega
def rCat : R2 := fun x y H Q => ∃ l b xs zs, x = .ref l ∧ y = .ref b ∧ H l = some (.lst xs) ∧ H b = some (.lst zs) ∧ xs.length + zs.length ≤ sizeLine ∧ ∀ p, H p = none → Q (.ref p) (upd H p (.lst (xs ++ zs)))
theorem op_cat : OpR X (binaryOp .Add) rCat := by
  intro pins s σ H x y v u Q I rx ry h
  obtain ⟨l, b, xs, zs, rfl, rfl, hH, hB, hz, q⟩ := h
  cases rx
  cases ry
  obtain ⟨z, its, n, r, hl, e⟩ := I.lstM hH
  obtain ⟨z2, its2, n2, r2, hl2, e2⟩ := I.lstM hB
  refine PySem.P.add_list e e2 ?_ (by rw [List.size_toArray, List.size_toArray]; omega)
  have ea : its.toArray ++ its2.toArray = (its ++ its2).toArray := by simp
  rw [ea]
  exact ⟨.ref _, _, I.lnew (t' := s.toks) (r.append r2) (by rw [List.length_append]; omega), rfl, q _ I.fresh⟩
end
section
variable {prog : Program} {w : World} {A : Around} {E : Value → Shared → Prop} {s : Shared}
end
section
variable {X : Cx}
end
end L2
namespace Att
open PySem PySem.W PySem.Calls PyProof.Rows
theorem ints_of_wellAll {P : Params} {h : Heap} : ∀ (ns : List Int) (vs : List Value), WellAll P h vs (ns.map WData.int) → IntsAre vs ns := by
  intro ns
  induction ns with
  | nil =>
    intro vs w
    rw [List.map_nil] at w
    cases w
    exact .nil
  | cons n ns ih =>
    intro vs w
    rw [List.map_cons] at w
    cases w with
    | cons a b =>
      cases a
      exact .cons _ _ (ih _ b)
theorem script_of {l : OpenLaw} {n : Nat} (hn : l.most = some n) {P : Params} {h : Heap} {args : List WData} {vals : List Value}
    (hpre : l.row.toRowW.claim.pre args = true) (hwl : WellAll P h vals args) :
    ∃ a vs ns, vals = [Value.ref a] ∧ args = [WData.list (ns.map WData.int)] ∧ h.get? a = some { cls := .type "list", data := .seq vs.toArray } ∧ IntsAre vs ns ∧ ns.length ≤ n := by
  have hsh : WShape.hasAll [] args [.list .int] = true := (pre_splitW hpre).1
  have hc : l.pre.holds [] { args := args } = true := (pre_splitW hpre).2
  obtain ⟨d, r, rfl, h1, h2⟩ := hasAllW_cons hsh
  obtain rfl := hasAllW_nil h2
  obtain ⟨xs, rfl, h3⟩ := hasW_list h1
  obtain ⟨ns, rfl⟩ := items_int h3
  have hlen : ns.length ≤ n := by
    unfold OpenLaw.pre at hc
    have h4 : (WTm.not (.lt (.lit (.int (n : Int))) (.len (.arg 0)))).holds [] { args := [.list (ns.map .int)] } = true := by
      have h4 := (holds_andW hc).1
      rw [hn] at h4
      exact h4
    have h5 := condW_of h4 (w_not (w_lt w_lit (w_len_list (w_arg rfl))))
    rw [List.length_map] at h5
    refine Nat.le_of_not_lt fun q => ?_
    have q' : (n : Int) < ((ns.length : Nat) : Int) := by omega
    first
      | (rw [decide_eq_true q'] at h5; exact absurd h5 (by decide))
      | (simp at h5; omega)
  cases hwl with
  | cons w1 w2 =>
    cases w2
    cases w1 with
    | list ho hall => exact ⟨_, _, ns, rfl, rfl, ho, ints_of_wellAll ns _ hall, hlen⟩
theorem post_true (l : OpenLaw) (args : List WData) : l.row.toRowW.claim.post args (.bool true) args = true :=
  postW_of (r := l.row.toRowW) (X := (true == true))
    (show WShape.has [] (.bool true) .bool = true by first | rfl | decide | simp [WShape.has, WShape.arms, WShape.armsAll])
    (show (WTm.eq .res (.lit (.bool true))).value [] { args := args, res := some (.bool true), after := args } = some (.bool (true == true)) from w_eq_bool (w_res rfl) w_lit) rfl
theorem attach_call {l : OpenLaw} {n : Nat} {q : Program} {loose : List Str} {XP : (Str → Option Value) → Heap → Prop} {YP : World → Heap → Prop} {d : DefRec}
    (hn : l.most = some n) (hdf : d.params.defaults = [])
    (call : ∀ (w : World) (s₀ s₁ : Shared) (mg mb : Str → Option Value) (fa : Addr) (o : Obj) (pm cd doc : Value) (a : Addr) (vs : List Value) (ns : List Int),
      Ground q loose [] XP w s₀ mg mb s₁.heap → YP w s₁.heap →
      s₁.heap.get? fa = some o → o.data = .func (docDef d.name d.params d.body d.scope pm cd doc) → s₁.heap.CodeRec cd d.name → mg d.name = some (.ref fa) →
      s₁.heap.get? a = some { cls := .type "list", data := .seq vs.toArray } → IntsAre vs ns → ns.length ≤ n → s₁.gens = #[] →
      codeAny (model l.prog w) callerA (.call (.ref fa) ⟨[.ref a], []⟩) (fun r s' => r = .ok (.ret (.bool true)) ∧ OldK s₁.heap s'.heap ∧ s'.os = s₁.os ∧ AllBare s'.gens) s₁) :
    WalkO q loose XP YP l.row.toRowW d [] (fun f vs => PySem.call f vs) := by
  intro w s₀ s₁ mg mb G Y fa o pm cd doc dV kV ho hd hcd hD hmg hg args vals as hpre hlay hrd hwl hlo
  obtain rfl : dV = .none := Dflts.none hD hdf
  obtain rfl : kV = .none := Dflts.noKw hD
  obtain ⟨a, vs, ns, rfl, rfl, hobj, hints, hlen⟩ := script_of hn hpre hwl
  refine enter_call (codeAny_mono (call w s₀ s₁ mg mb fa o pm cd doc a vs ns G Y ho (fd_plain hd) hcd hmg hobj hints hlen hg) fun r s' hq => ?_)
  obtain ⟨rfl, h2, h3, h4⟩ := hq
  exact ⟨.inl ⟨.bool true, .bool true, [], rfl, fun _ => rfl, .bool true, post_true l _, fun _ => ⟨List.Pairwise.nil, fun _ hm => (nomatch hm)⟩⟩, h2, h3, h4⟩
section
variable {prog : Program} {w : World} {A : Around} {E : Value → Shared → Prop} {s : Shared} {K : Frag}
end
end Att
namespace L2
open PySem PySem.Spec PyProof.Rows
theorem vals_ints : ∀ {vs : List Value} {ns : List Int}, IntsAre vs ns → Vals (ns.map V.int) vs
  | _, _, .nil => .nil
  | _, _, .cons n t h => .cons ⟨t, rfl⟩ (vals_ints h)
def Only (H : Hp) : Prop := ∀ b, H b = none ∨ ∃ o xs, H b = some (.frz o (.lst xs))
theorem law_call {P : Program} {w : World} {K : PySem.W.Frag} {mg mb : Str → Option Value} {CX : CXT} {k : Nat} {fa a : Addr} {fd : FuncData} {x : Str} {sp : Sp} {s₁ : Shared} {vs : List Value} {ns : List Int}
    (KX : K.In s₁.heap) (hns : s₁.heap.Ns mainGlobals mg) (hb : s₁.heap.Ns builtinsNs mb) (hbb : ∀ x : Str, x ≠ "__name__" → mb x = bootBuiltins x) (hlim : s₁.heap.NoLimit) (hg : s₁.gens = #[])
    (ha : s₁.heap.get? a = some { cls := .type "list", data := .seq vs.toArray }) (hi : IntsAre vs ns) (hl : ns.length ≤ sizeLine) (hr : Room k callerA)
    (F : ∀ base : Heap, K.In base → base.Ns mainGlobals mg → FnOk P w K mg base CX k fa fd [x] sp) (hbind : ∀ (s : Shared) (u : Value), BindsTo s fd ⟨[u], []⟩ [(x, u)])
    (hsp : ∀ H : Hp, Only H → SqL K H a (ns.map V.int) → sp [.ref a] H (fun v _ => v = .bl true) fun _ _ _ => False)
    (hCX : ∀ H e s', CX [] H s₁ (fun _ _ _ => False) e s' → False) :
    codeAny (model P w) callerA (.call (.ref fa) ⟨[.ref a], []⟩) (fun r s' => r = .ok (.ret (.bool true)) ∧ OldK s₁.heap s'.heap ∧ s'.os = s₁.os ∧ AllBare s'.gens) s₁ := by
  have rv := vals_ints hi
  have lenV := hi.length
  -- from an abstract heap in which nothing but the script may be tracked
  have core : ∀ H : Hp, Only H → SqL K H a (ns.map V.int) → HOk P w H s₁.heap → (∀ b, H b ≠ none → b = a) → (H a ≠ none → K.lookup a = none) →
      codeAny (model P w) callerA (.call (.ref fa) ⟨[.ref a], []⟩) (fun r s' => r = .ok (.ret (.bool true)) ∧ OldK s₁.heap s'.heap ∧ s'.os = s₁.os ∧ AllBare s'.gens) s₁ := by
    intro H hO hS hok hA hK
    have base_of : ∀ {b : Addr} {o : Obj}, s₁.heap.get? b = some o → H b = none → (hidT s₁.heap H).get? b = some o := fun e n => hidT_get e n
    have noA : ∀ {b : Addr} {o : Obj} {es : Array DictEntry} {ep : Nat}, s₁.heap.get? b = some o → o.data = .dict es ep → H b = none := fun {b o es ep} e d => by
      cases q : H b with
      | none => rfl
      | some u =>
        have e' : b = a := hA b (by rw [q]; simp)
        subst e'
        rw [ha] at e; cases e
        have d' : Data.seq vs.toArray _ = Data.dict es ep := d
        cases d'
    have nsK : ∀ {b : Addr} {m : Str → Option Value}, s₁.heap.Ns b m → (hidT s₁.heap H).Ns b m := fun {b m} ⟨o, es, ep, e, d, r⟩ => ⟨o, es, ep, base_of e (noA e d), d, r⟩
    have hKb : K.In (hidT s₁.heap H) := fun b o e => base_of (KX b o e) (by
      cases q : H b with
      | none => rfl
      | some u =>
        have e' : b = a := hA b (by rw [q]; simp)
        subst e'
        rw [hK (by rw [q]; simp)] at e; cases e)
    have hM : Mod K mg (hidT s₁.heap H) := ⟨hKb, nsK hns, ⟨mb, nsK hb, hbb⟩, let ⟨mc, h1, h2⟩ := hlim; ⟨mc, nsK h1, h2⟩⟩
    have e0 : Env0 P w K mg (hidT s₁.heap H) callerA [] s₁ H := ⟨rfl, hM, fun b o e => of_hidT e, Nat.le_of_eq (hidT_size _ _), trivial, fun b hb => absurd (show b ∈ ([] : List Addr) from hb) (by simp), hok, .of_eq hg⟩
    refine codeAny_mono ((F _ hKb (nsK hns)).run callerA [] s₁ H ⟨[.ref a], []⟩ [.ref a] [.ref a] _ _ hr e0 (hbind s₁ (.ref a)) (.cons rfl .nil) (hsp H hO hS)) fun r s' h => ?_
    cases r with
    | error e => exact (hCX H e s' h).elim
    | ok fl =>
      cases fl with
      | next => exact False.elim h
      | brk => exact False.elim h
      | cont => exact False.elim h
      | ret u =>
        obtain ⟨v, H', os, bare, un, hok', r', q⟩ := h
        have q' : v = .bl true := q
        subst q'
        obtain rfl : u = Value.bool true := r'
        refine ⟨rfl, OldK.of_keep fun b o e => ?_, os, bare⟩
        cases q : H b with
        | none => exact un.keep b o e q (by intro z; exact absurd (show b ∈ ([] : List Addr) from z) (by simp)) (by simp)
        | some u =>
          rcases hO b with z | ⟨ob, xs, z⟩
          · rw [q] at z; cases z
          · have z2 := un.frzs b ob _ z
            obtain ⟨e1, _⟩ := hok b _ z
            obtain ⟨e2, _⟩ := hok' b _ z2
            rw [e] at e1; cases e1
            exact e2
  cases hk : K.lookup a with
  | some o =>
    -- the script is one of the module's own objects
    have e := KX a o hk
    rw [ha] at e
    cases e
    refine core (fun _ => none) (fun _ => .inl rfl) (.inr ⟨_, vs.toArray, _, hk, rfl, rfl, rfl, by rw [List.size_toArray, lenV]; exact hl, by simpa using rv⟩) (fun b u z => by have z' : (none : Option HO) = some u := z; cases z') (fun b z => absurd rfl z) fun z => absurd rfl z
  | none =>
    refine core (fun b => if b = a then some (.frz { cls := .type "list", data := .seq vs.toArray } (.lst (ns.map V.int))) else none) (fun b => ?_) (.inl (.inr ⟨{ cls := .type "list", data := .seq vs.toArray }, if_pos rfl⟩)) (fun b u z => ?_) (fun b z => ?_) fun _ => hk
    · by_cases hb : b = a
      · exact .inr ⟨_, _, if_pos hb⟩
      · exact .inl (if_neg hb)
    · by_cases hb : b = a
      · have z' := (if_pos hb).symm.trans z
        cases z'
        subst hb
        exact ⟨ha, by rw [List.length_map]; exact hl, vs, _, rv, ha⟩
      · have z' := (if_neg hb).symm.trans z
        cases z'
    · by_cases hb : b = a
      · exact hb
      · exact absurd (if_neg hb) z
end L2
namespace L2
open PySem PySem.Spec PyProof.Rows
theorem walk_of {l : PySem.W.OpenLaw} {n k : Nat} {q : Program} {loose : List Str} {XP : (Str → Option Value) → Heap → Prop} {YP : World → Heap → Prop} {d : DefRec} {K : Params → PySem.W.Frag} {CX : World → CXT} {sp : World → Sp} {x : Str}
    (hn : l.most = some n) (hn2 : n ≤ sizeLine) (hdf : d.params.defaults = []) (hr : Room k callerA)
    (hY : ∀ (w : World) (h : Heap), YP w h → (K w.params).In h)
    (F : ∀ (w : World) (mg : Str → Option Value) (fa : Addr) (h : Heap), (K w.params).In h → h.Ns mainGlobals mg → mg d.name = some (.ref fa) →
      ∃ fd : FuncData, (∀ (s : Shared) (u : Value), BindsTo s fd ⟨[u], []⟩ [(x, u)]) ∧
        ∀ base : Heap, (K w.params).In base → base.Ns mainGlobals mg → FnOk l.prog w (K w.params) mg base (CX w) k fa fd [x] (sp w))
    (hsp : ∀ (w : World) (H : Hp) (a : Addr) (ns : List Int), ns.length ≤ n → Only H → SqL (K w.params) H a (ns.map V.int) → sp w [.ref a] H (fun v _ => v = .bl true) fun _ _ _ => False)
    (hCX : ∀ (w : World) (H : Hp) (s : Shared) (e : Value) (s' : Shared), CX w [] H s (fun _ _ _ => False) e s' → False) :
    PySem.W.WalkO q loose XP YP l.row.toRowW d [] (fun f vs => PySem.call f vs) := by
  refine Att.attach_call hn hdf fun w s₀ s₁ mg mb fa o pm cd doc a vs ns G Y ho hd hcd hmg hobj hints hlen hg => ?_
  have KX := hY w _ Y
  obtain ⟨fd, hb, hF⟩ := F w mg fa _ KX G.T.g hmg
  exact law_call KX G.T.g G.T.b G.T.builtins G.T.nolimit hg hobj hints (Nat.le_trans hlen hn2) hr hF hb (fun H hO hS => hsp w H a ns hlen hO hS) fun H e s' => hCX w H s₁ e s'
end L2
/- THE LAST THEOREM (shape; LID, My.* are yours):
   My.Adr: a structure of the addresses that your layer names (classes, functions); My.Txt K t: a structure (Prop) of the equations over K;
   My.txt_mk : {K} {implicit addresses ..} (e1 : nsIn K mainGlobals "law" = some (some (.ref f))) (e2 : K.lookup f = some ⟨oc, od, .func (fnOf "law" "law" params body scope dV kV doc pm an cdv ct), sl⟩) (e3 : codeIn K cdv "law" = true) .. : ∃ t, My.Txt K t
(the tactic k_is has no namespace: write k_is) -/
namespace L2
open PySem PySem.Spec PyProof.Rows
def defArgs (s : Stmt) : Arguments := match s with
  | .FunctionDef _ a _ _ _ _ _ _ _ _ => a
  | _ => { posonlyargs := [], args := [], vararg := none, kwonlyargs := [], kw_defaults := [], kwarg := none, defaults := [] }
def defBody (s : Stmt) : List Stmt := match s with
  | .FunctionDef _ _ b _ _ _ _ _ _ _ => b
  | _ => []
def defScope (s : Stmt) : Scope := match s with
  | .FunctionDef _ _ _ _ _ _ sc _ _ _ => sc
  | _ => { kind := .function, names := [], isGenerator := false, isCoroutine := false }
abbrev CX0 : CXT := fun _ _ _ _ _ _ => False
abbrev E0 : XK := fun _ _ _ => False
theorem pass0 {X : Cx} : Passes CX0 X E0 := fun _ _ _ _ _ _ _ h => h.elim
structure Fun (K : PySem.W.Frag) (x qual : Str) (st : Stmt) (f : Addr) (fd : FuncData) : Prop where
  ex : ∃ (oc : Value) (od : Option Addr) (kV doc pm : Value) (an : Option Addr) (cdv ct : Value) (osl : Array (Option Value)),
    fd = PySem.W.fnOf x qual (defArgs st) (defBody st) (defScope st) .none kV doc pm an cdv ct ∧ K.lookup f = some ⟨oc, od, .func fd, osl⟩ ∧ PySem.W.codeIn K cdv qual = true
  kp : PySem.W.keepIn K (.ref f) = true
section
variable {P : Program} {w : World} {K : PySem.W.Frag} {mg : Str → Option Value} {base : Heap}
theorem Fun.ok {x qual : Str} {st : Stmt} {f : Addr} {fd : FuncData} {N ps : List Str} {k : Nat} {sp : Sp} (F : Fun K x qual st f fd) (S : FnScope N ps (defScope st)) (len : ∀ vs H Q E, sp vs H Q E → vs.length = ps.length)
    (hbody : ∀ (cdv : Value) (A : Around) (outer : List Env) (s : Shared) (H : Hp) (vs : List V) (Q : VK) (E : XK), Room k (A.deeper (envOfC qual (defScope st) s.heap.objs.size f cdv)) → sp vs H Q E →
      ∃ t, PSs (cxOf CX0 P w K mg base N qual (defScope st) f cdv A outer s H E).nox (defBody st) t ∧ t { nx := fun _ H' => Q .non H', rt := Q } (start N vs) H) : FnOk P w K mg base CX0 (k + 1) f fd ps sp := by
  obtain ⟨oc, od, kV, doc, pm, an, cdv, ct, osl, rfl, lk, hcd⟩ := F.ex
  refine fn_of lk hcd S len fun A outer s H vs Q E hr hsp => ?_
  obtain ⟨t, h, q⟩ := hbody cdv A outer s H vs Q E hr hsp
  exact ⟨t, h.nox, q⟩
theorem Fun.binds {x qual : Str} {st : Stmt} {f : Addr} {fd : FuncData} {ps : List Str} (F : Fun K x qual st f fd)
    (h : ∀ (kV doc pm : Value) (an : Option Addr) (cdv ct : Value) (us : List Value), us.length = ps.length → bindArgs (PySem.W.fnOf x qual (defArgs st) (defBody st) (defScope st) .none kV doc pm an cdv ct) ⟨us, []⟩ = pure (ps.zip us)) : Binds K fd ps [] := by
  obtain ⟨oc, od, kV, doc, pm, an, cdv, ct, osl, rfl, lk, hcd⟩ := F.ex
  exact .all (h kV doc pm an cdv ct)
theorem fun_mk {x qual : Str} {st : Stmt} {f : Addr} {oc : Value} {od an : Option Addr} {osl : Array (Option Value)} {kV doc pm cdv ct : Value} (l : K.lookup f = some ⟨oc, od, .func (PySem.W.fnOf x qual (defArgs st) (defBody st) (defScope st) .none kV doc pm an cdv ct), osl⟩)
    (c : PySem.W.codeIn K cdv qual = true) (k : PySem.W.keepIn K (.ref f) = true) : Fun K x qual st f (PySem.W.fnOf x qual (defArgs st) (defBody st) (defScope st) .none kV doc pm an cdv ct) := ⟨⟨oc, od, kV, doc, pm, an, cdv, ct, osl, rfl, l, c⟩, k⟩
end
theorem small1000 {n : Nat} (h : n ≤ 1000) : n < sizeLine := Nat.lt_of_le_of_lt h (by decide)
section
variable {X : Cx}
theorem pv (i : Nat) {x : Str} {pos : Pos} (hN : X.N[i]? = some x := by rfl) (hv : Vis X.env.scope x := by first | exact Or.inl rfl | exact Or.inr (Or.inl rfl) | exact Or.inr (Or.inr rfl)) (hd : (x == ("__debug__" : Str)) = false := by decide)
    (hcd : (x == ("__classdict__" : Str)) = false := by decide) : PE X (.Name x pos) (tVar i) := pe_var hN hv hd hcd
end
theorem iteF {A B : Prop} (h : B) : if false = true then A else B := by
  rw [if_neg Bool.false_ne_true]
  exact h
theorem iteT {A B : Prop} (h : A) : if true = true then A else B := by
  rw [if_pos rfl]
  exact h
theorem ite2 {c A B : Prop} [Decidable c] (h1 : c → A) (h2 : ¬ c → B) : if c then A else B := by
  by_cases h : c
  · rw [if_pos h]
    exact h1 h
  · rw [if_neg h]
    exact h2 h
def Same (H H' : Hp) : Prop := ∀ b o, H b = some o → H' b = some o
theorem Same.refl (H : Hp) : Same H H := fun _ _ h => h
theorem Same.trans {H H1 H2 : Hp} (a : Same H H1) (b : Same H1 H2) : Same H H2 := fun c o h => b c o (a c o h)
theorem Same.free {H H' : Hp} (e : Same H H') {l : Addr} (h : H' l = Option.none) : H l = Option.none := by
  cases q : H l with
  | none => rfl
  | some o =>
    rw [e l o q] at h
    cases h
theorem Same.seq {K : PySem.W.Frag} {H H' : Hp} {a : Addr} {xs : List V} (e : Same H H') (h : SqL K H a xs) : SqL K H' a xs := by
  rcases h with (h | ⟨o, h⟩) | h
  · exact .inl (.inl (e _ _ h))
  · exact .inl (.inr ⟨o, e _ _ h⟩)
  · exact .inr h
end L2
namespace Geo
abbrev Pt := Int × Int
def turn (a b c : Pt) : Int := (b.1 - a.1) * (c.2 - a.2) - (b.2 - a.2) * (c.1 - a.1)
def lin (f p : Pt) : Int := f.1 * p.1 + f.2 * p.2
theorem turn_cyc (a b c : Pt) : turn a b c = turn b c a := by unfold turn; grind
theorem turn_swap (a b c : Pt) : turn a b c = - turn b a c := by unfold turn; grind
theorem turn_same (a b : Pt) : turn a b a = 0 := by unfold turn; grind
theorem turn_same' (a b : Pt) : turn a b b = 0 := by unfold turn; grind
theorem plu (f a b c d : Pt) : (lin f b - lin f a) * turn a c d + (lin f c - lin f a) * turn a d b + (lin f d - lin f a) * turn a b c = 0 := by
  unfold turn lin; grind
theorem pos_of_mul {x y : Int} (hx : 0 < x) (h : 0 < x * y) : 0 < y := by
  rcases Int.lt_trichotomy y 0 with h1 | h1 | h1
  · have := Int.mul_neg_of_pos_of_neg hx h1; omega
  · subst h1; simp at h
  · exact h1
theorem nonneg_of_mul {x y : Int} (hx : 0 < x) (h : 0 ≤ x * y) : 0 ≤ y := by
  rcases Int.lt_or_le y 0 with h1 | h1
  · have := Int.mul_neg_of_pos_of_neg hx h1; omega
  · exact h1
theorem far_turn {f a b c d : Pt} (h1 : lin f a < lin f b) (h2 : lin f b < lin f c) (h3 : lin f c < lin f d) (k1 : 0 < turn a b c) (k2 : 0 < turn b c d) : 0 < turn a b d := by
  have e := plu f b a c d
  rw [← turn_cyc a b d] at e
  have e1 : turn b a c = - turn a b c := turn_swap _ _ _
  rw [e1] at e
  have p1 : 0 < (lin f b - lin f a) * turn b c d := Int.mul_pos (by omega) k2
  have p2 : 0 < (lin f d - lin f b) * turn a b c := Int.mul_pos (by omega) k1
  have p3 : 0 < (lin f c - lin f b) * turn a b d := by grind
  exact pos_of_mul (by omega) p3
theorem back_turn {f a b c d : Pt} (h1 : lin f a < lin f b) (h2 : lin f b < lin f c) (h3 : lin f c < lin f d) (k1 : 0 < turn a b c) (k2 : 0 < turn b c d) : 0 < turn c d a := by
  have e := plu f c a b d
  have p1 : 0 < (lin f c - lin f a) * turn b c d := Int.mul_pos (by omega) k2
  have p2 : 0 < (lin f d - lin f c) * turn a b c := Int.mul_pos (by omega) k1
  have e1 : turn c b d = - turn b c d := turn_swap _ _ _
  have e2 : turn c a b = turn a b c := by rw [turn_cyc c a b]
  rw [e1, e2] at e
  have p3 : 0 < (lin f c - lin f b) * turn c d a := by grind
  exact pos_of_mul (by omega) p3
def Adj (l : List Pt) (a b : Pt) : Prop := ∃ pre post, l = pre ++ a :: b :: post
theorem Adj.cons {l : List Pt} {a b x : Pt} (h : Adj l a b) : Adj (x :: l) a b := by
  obtain ⟨pre, post, rfl⟩ := h; exact ⟨x :: pre, post, rfl⟩
theorem Adj.cons_cases {l : List Pt} {a b x : Pt} (h : Adj (x :: l) a b) : (a = x ∧ l.head? = some b) ∨ Adj l a b := by
  obtain ⟨pre, post, e⟩ := h
  cases pre with
  | nil => simp at e; obtain ⟨rfl, rfl⟩ := e; exact .inl ⟨rfl, rfl⟩
  | cons y pre => simp at e; obtain ⟨rfl, rfl⟩ := e; exact .inr ⟨pre, post, rfl⟩
theorem Adj.mem {l : List Pt} {a b : Pt} (h : Adj l a b) : a ∈ l ∧ b ∈ l := by
  obtain ⟨pre, post, rfl⟩ := h; simp
def popB (p : Pt) : List Pt → List Pt
  | b :: a :: r => if turn a b p ≤ 0 then popB p (a :: r) else b :: a :: r
  | s => s
def sideRev : List Pt → List Pt → List Pt
  | st, [] => st
  | st, p :: r => sideRev (p :: popB p st) r
def sideOf (ps : List Pt) : List Pt := (sideRev [] ps).reverse
theorem popB_suffix (p : Pt) : ∀ st, popB p st <:+ st
  | [] => by simp [popB]
  | [a] => by simp [popB]
  | b :: a :: r => by
    unfold popB
    split
    · exact (popB_suffix p (a :: r)).trans (List.suffix_cons _ _)
    · exact List.suffix_refl _
theorem popB_ne (p : Pt) : ∀ st, st ≠ [] → popB p st ≠ []
  | [], h => absurd rfl h
  | [a], _ => by simp [popB]
  | b :: a :: r, _ => by
    unfold popB
    split
    · exact popB_ne p (a :: r) (by simp)
    · simp
structure Stk (f : Pt) (st dn : List Pt) : Prop where
  dec : st.Pairwise (fun x y => lin f y < lin f x)
  cvx : ∀ c b a pre post, st = pre ++ c :: b :: a :: post → 0 < turn a b c
  edge : ∀ b a, Adj st b a → ∀ q ∈ dn, 0 ≤ turn a b q
  sub : ∀ x ∈ st, x ∈ dn
  bot : ∀ q ∈ dn, ∀ x, st.getLast? = some x → lin f x ≤ lin f q
  ne : dn ≠ [] → st ≠ []
  top : ∀ q ∈ dn, ∀ x, st.head? = some x → q = x ∨ lin f q < lin f x
def Tan (f p : Pt) (st dn : List Pt) : Prop := ∀ t, st.head? = some t → ∀ q ∈ dn, lin f t ≤ lin f q → 0 ≤ turn t p q
theorem suffix_getLast {l m : List Pt} (h : l <:+ m) (hn : l ≠ []) : l.getLast? = m.getLast? := by
  obtain ⟨t, rfl⟩ := h
  rw [List.getLast?_append]
  cases e : l.getLast? with
  | none => simp at e; exact absurd e hn
  | some x => rfl
theorem pop_tan {f p : Pt} {dn : List Pt} (hp : ∀ q ∈ dn, lin f q < lin f p) : ∀ (st : List Pt),
    st.Pairwise (fun x y => lin f y < lin f x) → (∀ b a, Adj st b a → ∀ q ∈ dn, 0 ≤ turn a b q) → (∀ x ∈ st, x ∈ dn) → Tan f p st dn → Tan f p (popB p st) dn
  | [], _, _, _, h => by simpa [popB] using h
  | [a], _, _, _, h => by simpa [popB] using h
  | b :: a :: r, hd, he, hs, h => by
    unfold popB
    split
    · rename_i hle
      have hd' := (List.pairwise_cons.mp hd).2
      have hab : lin f a < lin f b := (List.pairwise_cons.mp hd).1 a (by simp)
      have hbp : lin f b < lin f p := hp b (hs b (by simp))
      refine pop_tan hp (a :: r) hd' (fun x y hxy => he x y hxy.cons) (fun x hx => hs x (by simp [hx])) ?_
      intro t ht q hq htq
      simp at ht; subst ht
      have hqp := hp q hq
      rcases Int.lt_or_le (lin f q) (lin f b) with hqb | hqb
      · have e1 := he b a ⟨[], r, rfl⟩ q hq
        have e := plu f a b p q
        -- (fb - fa) * turn a p q + (fp - fa) * turn a q b + (fq - fa) * turn a b p = 0
        have e2 : turn a q b = - turn a b q := by rw [turn_swap a q b, turn_cyc q a b]
        have p1 : 0 ≤ (lin f p - lin f a) * turn a b q := Int.mul_nonneg (by omega) e1
        have p2 : 0 ≤ (lin f q - lin f a) * (- turn a b p) := Int.mul_nonneg (by omega) (by omega)
        rw [e2] at e
        have p3 : 0 ≤ (lin f b - lin f a) * turn a p q := by grind
        exact nonneg_of_mul (by omega) p3
      · have e1 := h b rfl q hq hqb
        have e := plu f p a b q
        -- (fa - fp) * turn p b q + (fb - fp) * turn p q a + (fq - fp) * turn p a b = 0
        have e2 : turn p b q = - turn b p q := turn_swap _ _ _
        have e3 : turn p q a = turn a p q := by rw [turn_cyc a p q]
        have e4 : turn p a b = turn a b p := by rw [turn_cyc p a b]
        rw [e2, e3, e4] at e
        have p1 : 0 ≤ (lin f p - lin f a) * turn b p q := Int.mul_nonneg (by omega) e1
        have p2 : 0 ≤ (lin f p - lin f q) * (- turn a b p) := Int.mul_nonneg (by omega) (by omega)
        have p3 : 0 ≤ (lin f p - lin f b) * turn a p q := by grind
        exact nonneg_of_mul (by omega) p3
    · exact h
theorem popB_top (p : Pt) : ∀ st b a r, popB p st = b :: a :: r → 0 < turn a b p
  | [], _, _, _, h => by simp [popB] at h
  | [x], _, _, _, h => by simp [popB] at h
  | y :: x :: r, b, a, r', h => by
    unfold popB at h
    split at h
    · exact popB_top p (x :: r) b a r' h
    · rename_i hn
      simp at h; obtain ⟨rfl, rfl, rfl⟩ := h; omega
theorem edges_to {f p : Pt} : ∀ (st : List Pt), st.Pairwise (fun x y => lin f y < lin f x) → (∀ c b a pre post, st = pre ++ c :: b :: a :: post → 0 < turn a b c) → (∀ x ∈ st, lin f x < lin f p) →
    (∀ b a r, st = b :: a :: r → 0 < turn a b p) → ∀ b a, Adj st b a → 0 < turn a b p
  | [], _, _, _, _, b, a, h => by obtain ⟨pre, post, e⟩ := h; simp at e
  | [x], _, _, _, _, b, a, h => by
    obtain ⟨pre, post, e⟩ := h
    have := congrArg List.length e; simp at this; omega
  | y :: x :: r, hd, hc, hp, ht, b, a, h => by
    rcases h.cons_cases with ⟨rfl, e⟩ | h'
    · simp at e; subst e; exact ht _ _ _ rfl
    · refine edges_to (x :: r) (List.pairwise_cons.mp hd).2 (fun c b a pre post e => hc c b a (y :: pre) post (by rw [e]; rfl)) (fun z hz => hp z (by simp [hz])) ?_ b a h'
      intro b' a' r' e
      simp at e; obtain ⟨rfl, rfl⟩ := e
      have k1 := hc y x a' [] r' rfl
      have k2 := ht y x _ rfl
      have d1 := List.pairwise_cons.mp hd
      have d2 := List.pairwise_cons.mp d1.2
      exact far_turn (f := f) (d2.1 a' (by simp)) (d1.1 x (by simp)) (hp y (by simp)) k1 k2
theorem Stk.step {f p : Pt} {st dn : List Pt} (S : Stk f st dn) (hp : ∀ q ∈ dn, lin f q < lin f p) : Stk f (p :: popB p st) (dn ++ [p]) := by
  have suf := popB_suffix p st
  have hsub : ∀ x ∈ popB p st, x ∈ dn := fun x hx => S.sub x (suf.subset hx)
  have hdec : (popB p st).Pairwise (fun x y => lin f y < lin f x) := S.dec.sublist suf.sublist
  have hcvx : ∀ c b a pre post, popB p st = pre ++ c :: b :: a :: post → 0 < turn a b c := fun c b a pre post e => by
    obtain ⟨t, ht⟩ := suf
    exact S.cvx c b a (t ++ pre) post (by rw [← ht, e]; simp)
  have hadj : ∀ b a, Adj (popB p st) b a → Adj st b a := fun b a ⟨pre, post, e⟩ => by
    obtain ⟨t, ht⟩ := suf
    exact ⟨t ++ pre, post, by rw [← ht, e]; simp⟩
  have hedge := edges_to (f := f) (p := p) (popB p st) hdec hcvx (fun x hx => hp x (hsub x hx)) (fun b a r e => popB_top p st b a r e)
  have tan0 : Tan f p st dn := fun t ht q hq hle => by
    rcases S.top q hq t ht with h1 | h1
    · subst h1; rw [turn_same]; exact Int.le_refl _
    · omega
  have tan := pop_tan hp st S.dec S.edge S.sub tan0
  refine ⟨List.pairwise_cons.mpr ⟨fun x hx => hp x (hsub x hx), hdec⟩, fun c b a pre post e => ?_, fun b a h q hq => ?_, fun x hx => ?_, fun q hq x hx => ?_, fun _ => by simp, fun q hq x hx => ?_⟩
  · cases pre with
    | nil => simp at e; obtain ⟨rfl, e⟩ := e; exact popB_top p st b a post e
    | cons y pre => simp at e; exact hcvx c b a pre post e.2
  · rcases List.mem_append.mp hq with hq1 | hq
    · rcases h.cons_cases with ⟨rfl, e⟩ | h'
      · -- the new edge, a its tail
        rcases Int.lt_or_le (lin f q) (lin f a) with hlt | hle
        · obtain ⟨r, hr⟩ : ∃ r, popB b st = a :: r := by
            cases e' : popB b st with
            | nil => rw [e'] at e; simp at e
            | cons z r => rw [e'] at e; simp at e; subst e; exact ⟨r, rfl⟩
          cases r with
          | nil =>
            have hl : st.getLast? = some a := by rw [← suffix_getLast suf (by rw [hr]; simp), hr]; rfl
            have := S.bot q hq1 a hl
            omega
          | cons z r =>
            have k1 := popB_top b st a z r hr
            have k2 := S.edge a z (hadj a z ⟨[], r, hr⟩) q hq1
            have d : lin f z < lin f a := by rw [hr] at hdec; exact (List.pairwise_cons.mp hdec).1 z (by simp)
            have hab : lin f a < lin f b := hp a (hsub a (by rw [hr]; simp))
            have e := plu f a z b q
            have e2 : turn a q z = turn z a q := by rw [turn_cyc z a q]
            have e3 : turn a z b = - turn z a b := turn_swap _ _ _
            rw [e2, e3] at e
            have p1 : 0 ≤ (lin f b - lin f a) * turn z a q := Int.mul_nonneg (by omega) k2
            have p2 : 0 ≤ (lin f a - lin f q) * turn z a b := Int.mul_nonneg (by omega) (by omega)
            have p3 : 0 ≤ (lin f a - lin f z) * turn a b q := by grind
            exact nonneg_of_mul (by omega) p3
        · exact tan a e q hq1 hle
      · exact S.edge b a (hadj b a h') q hq1
    · simp at hq; subst hq
      rcases h.cons_cases with ⟨rfl, e⟩ | h'
      · rw [turn_same']; exact Int.le_refl _
      · exact Int.le_of_lt (hedge b a h')
  · rcases List.mem_cons.mp hx with rfl | hx
    · simp
    · exact List.mem_append_left _ (hsub x hx)
  · by_cases hs : st = []
    · subst hs
      have hdn : dn = [] := by
        cases dn with
        | nil => rfl
        | cons z r => exact absurd rfl (S.ne (by simp))
      subst hdn
      simp [popB] at hx
      simp at hq
      subst hq; subst hx; exact Int.le_refl _
    · have hn := popB_ne p st hs
      have hl : (p :: popB p st).getLast? = st.getLast? := by
        rw [← suffix_getLast suf hn, List.getLast?_cons]
        cases e' : (popB p st).getLast? with
        | none => simp at e'; exact absurd e' hn
        | some z => rfl
      rw [hl] at hx
      rcases List.mem_append.mp hq with hq | hq
      · exact S.bot q hq x hx
      · simp at hq; subst hq
        exact Int.le_of_lt (hp x (S.sub x (List.mem_of_getLast? hx)))
  · simp at hx; subst hx
    rcases List.mem_append.mp hq with hq | hq
    · exact .inr (hp q hq)
    · simp at hq; exact .inl hq
theorem Stk.nil (f : Pt) : Stk f [] [] := ⟨.nil, fun c b a pre post e => by simp at e, fun b a ⟨pre, post, e⟩ => by simp at e, fun x hx => hx, fun q hq => by simp at hq, fun h => absurd rfl h, fun q hq => by simp at hq⟩
theorem Stk.run {f : Pt} : ∀ (ps st dn : List Pt), Stk f st dn → (dn ++ ps).Pairwise (fun x y => lin f x < lin f y) → Stk f (sideRev st ps) (dn ++ ps)
  | [], st, dn, S, _ => by simpa [sideRev] using S
  | p :: r, st, dn, S, h => by
    have h' : (dn ++ [p] ++ r).Pairwise (fun x y => lin f x < lin f y) := by simpa using h
    have q := Stk.run r (p :: popB p st) (dn ++ [p]) (S.step fun q hq => (List.pairwise_append.mp h).2.2 q hq p (by simp)) h'
    simpa [sideRev] using q
structure Chn (f : Pt) (c S : List Pt) : Prop where
  inc : c.Pairwise (fun x y => lin f x < lin f y)
  cvx : ∀ x y z pre post, c = pre ++ x :: y :: z :: post → 0 < turn x y z
  edge : ∀ a b, Adj c a b → ∀ q ∈ S, 0 ≤ turn a b q
  sub : ∀ x ∈ c, x ∈ S
  first : c.head? = S.head?
  last : c.getLast? = S.getLast?
theorem inc_get {f : Pt} {c : List Pt} (h : c.Pairwise (fun x y => lin f x < lin f y)) {pre post : List Pt} {x y : Pt} (e : c = pre ++ x :: post) (hy : y ∈ post) : lin f x < lin f y := by
  subst e
  exact (List.pairwise_cons.mp (List.pairwise_append.mp h).2.1).1 y hy
theorem Chn.later {f : Pt} {c S : List Pt} (C : Chn f c S) : ∀ (post pre : List Pt) (a b q : Pt), c = pre ++ a :: b :: post → q ∈ post → 0 < turn a b q
  | [], _, _, _, _, _, h => by simp at h
  | z :: post, pre, a, b, q, e, hq => by
    have k1 := C.cvx a b z pre post e
    rcases List.mem_cons.mp hq with rfl | hq
    · exact k1
    · have e2 : c = (pre ++ [a]) ++ b :: z :: post := by rw [e]; simp
      have k2 := C.later post (pre ++ [a]) b z q e2 hq
      have o1 := inc_get C.inc e (y := b) (by simp)
      have o2 := inc_get C.inc e2 (y := z) (by simp)
      have o3 := inc_get C.inc (show c = (pre ++ [a, b]) ++ z :: post by rw [e]; simp) hq
      exact far_turn o1 o2 o3 k1 k2
theorem Chn.earlier {f : Pt} {c S : List Pt} (C : Chn f c S) : ∀ (mid pre : List Pt) (q a b : Pt) (post : List Pt), c = pre ++ q :: mid ++ a :: b :: post → 0 < turn q a b := by
  intro mid
  induction mid with
  | nil => intro pre q a b post e; exact C.cvx q a b pre post (by rw [e]; simp)
  | cons m mid ih =>
    intro pre q a b post e
    have k1 : 0 < turn m a b := ih (pre ++ [q]) m a b post (by rw [e]; simp)
    have k2 : 0 < turn q m a := by
      refine C.later (mid ++ a :: b :: post) pre q m a (by rw [e]; simp) (by simp)
    have o1 := inc_get C.inc (show c = pre ++ q :: (m :: mid ++ a :: b :: post) by rw [e]; simp) (y := m) (by simp)
    have o2 := inc_get C.inc (show c = (pre ++ [q]) ++ m :: (mid ++ a :: b :: post) by rw [e]; simp) (y := a) (by simp)
    have o3 := inc_get C.inc (show c = (pre ++ q :: m :: mid) ++ a :: b :: post from e) (y := b) (by simp)
    have := back_turn o1 o2 o3 k2 k1
    rw [turn_cyc]; exact this
theorem Chn.mid {f : Pt} {c S : List Pt} (C : Chn f c S) {q a z : Pt} {pre post : List Pt} (e : c = q :: pre ++ a :: post ++ [z]) : 0 < turn q a z := by
  cases post with
  | nil => exact C.earlier pre [] q a z [] (by rw [e]; simp)
  | cons b post =>
    have k1 : 0 < turn q a b := C.earlier pre [] q a b (post ++ [z]) (by rw [e]; simp)
    have k2 : 0 < turn a b z := C.later (post ++ [z]) (q :: pre) a b z (by rw [e]; simp) (by simp)
    have o1 := inc_get C.inc (show c = [] ++ q :: (pre ++ a :: b :: post ++ [z]) by rw [e]; simp) (y := a) (by simp)
    have o2 := inc_get C.inc (show c = (q :: pre) ++ a :: (b :: post ++ [z]) by rw [e]; simp) (y := b) (by simp)
    have o3 := inc_get C.inc (show c = (q :: pre ++ [a]) ++ b :: (post ++ [z]) by rw [e]; simp) (y := z) (by simp)
    exact far_turn o1 o2 o3 k1 k2
def wrt (l : Int × Int × Int) (p : Pt) : Int := l.1 * p.1 + l.2.1 * p.2 + l.2.2
def hullR (S : List Pt) : List Pt := if S.length < 2 then S else (sideOf S).dropLast ++ (sideOf S.reverse).dropLast
structure Two (f : Pt) (S : List Pt) (a z : Pt) (Lx Ux : List Pt) : Prop where
  lo : Chn f (a :: Lx ++ [z]) S
  up : Chn (-f.1, -f.2) (z :: Ux ++ [a]) S.reverse
  out : hullR S = a :: Lx ++ z :: Ux
  fst : S.head? = some a
  lst : S.getLast? = some z
  lt : lin f a < lin f z
  inc : S.Pairwise (fun x y => lin f x < lin f y)
section
variable {f : Pt} {S : List Pt} {a z : Pt} {Lx Ux : List Pt}
theorem Two.sub (T : Two f S a z Lx Ux) : ∀ x ∈ hullR S, x ∈ S := fun x hx => by
  rw [T.out] at hx
  rcases List.mem_append.mp hx with h | h
  · exact T.lo.sub x (by rcases List.mem_cons.mp h with h | h <;> simp [h])
  · have := T.up.sub x (by rcases List.mem_cons.mp h with h | h <;> simp [h])
    simpa using this
theorem Two.low (T : Two f S a z Lx Ux) : ∀ q ∈ S, q ≠ a → lin f a < lin f q := fun q hq hn => by
  have h1 := T.fst
  cases S with
  | nil => simp at h1
  | cons x r =>
    simp at h1; subst h1
    rcases List.mem_cons.mp hq with h | h
    · exact absurd h hn
    · exact (List.pairwise_cons.mp T.inc).1 q h
def Rnd (R : List Pt) (x y : Pt) : Prop := Adj R x y ∨ (R.getLast? = some x ∧ R.head? = some y)
theorem adj_append {l m : List Pt} {z x y : Pt} (h : Adj (l ++ z :: m) x y) : Adj (l ++ [z]) x y ∨ Adj (z :: m) x y := by
  induction l with
  | nil => exact .inr h
  | cons a r ih =>
    rcases h.cons_cases with ⟨rfl, e⟩ | h'
    · left
      cases r with
      | nil => simp at e; subst e; exact ⟨[], [], rfl⟩
      | cons b r => simp at e; subst e; exact ⟨[], r ++ [z], rfl⟩
    · rcases ih h' with h' | h'
      · exact .inl h'.cons
      · exact .inr h'
theorem Adj.snoc {l : List Pt} {x y w : Pt} (h : Adj l x y) : Adj (l ++ [w]) x y := by
  obtain ⟨pre, post, rfl⟩ := h; exact ⟨pre, post ++ [w], by simp⟩
theorem adj_last {l : List Pt} {x y : Pt} (h : l.getLast? = some x) : Adj (l ++ [y]) x y := by
  obtain ⟨m, rfl⟩ := List.getLast?_eq_some_iff.mp h
  exact ⟨m, [], by simp⟩
theorem Two.rnd (T : Two f S a z Lx Ux) {x y : Pt} (h : Rnd (hullR S) x y) : Adj (a :: Lx ++ [z]) x y ∨ Adj (z :: Ux ++ [a]) x y := by
  rw [T.out] at h
  rcases h with h | ⟨h1, h2⟩
  · rcases adj_append h with h | h
    · exact .inl h
    · exact .inr h.snoc
  · right
    simp at h2; subst h2
    rw [List.getLast?_append] at h1
    have h1' : (z :: Ux).getLast? = some x := by
      cases e : (z :: Ux).getLast? with
      | none => simp at e
      | some w => rw [e] at h1; simpa using h1
    exact adj_last h1'
theorem Two.left (T : Two f S a z Lx Ux) {x y : Pt} (h : Rnd (hullR S) x y) : ∀ q ∈ S, 0 ≤ turn x y q := fun q hq => by
  rcases T.rnd h with h | h
  · exact T.lo.edge x y h q hq
  · exact T.up.edge x y h q (by simpa using hq)
theorem Two.fan (T : Two f S a z Lx Ux) {x y : Pt} (h : Adj (Lx ++ z :: Ux) x y) : 0 < turn a x y := by
  rcases adj_append h with ⟨pre, post, e⟩ | ⟨pre, post, e⟩
  · exact T.lo.earlier pre [] a x y post (by rw [List.cons_append, e]; simp)
  · have := T.up.later (post ++ [a]) pre x y a (by rw [e]; simp) (by simp)
    rw [turn_cyc]; exact this
end
theorem fan_find {o p : Pt} : ∀ (l : List Pt) (b : Pt), (∀ x y, Adj (b :: l) x y → 0 < turn o x y ∧ 0 ≤ turn x y p) → 0 ≤ turn o b p → l ≠ [] → (∀ w, (b :: l).getLast? = some w → turn o w p ≤ 0) →
    ∃ x y, Adj (b :: l) x y ∧ 0 ≤ turn o x p ∧ 0 ≤ turn x y p ∧ turn o y p ≤ 0 ∧ 0 < turn o x y
  | [], _, _, _, h, _ => absurd rfl h
  | c :: l, b, he, hb, _, hw => by
    have e := he b c ⟨[], l, rfl⟩
    rcases Int.lt_or_le 0 (turn o c p) with h | h
    · cases l with
      | nil =>
        have := hw c (by simp)
        omega
      | cons d l =>
        obtain ⟨x, y, h1, h2⟩ := fan_find (d :: l) c (fun x y h => he x y h.cons) (Int.le_of_lt h) (by simp) (fun w hw' => hw w (by rw [List.getLast?_cons_cons]; exact hw'))
        exact ⟨x, y, h1.cons, h2⟩
    · exact ⟨b, c, ⟨[], l, rfl⟩, hb, e.2, h, e.1⟩
end Geo
namespace Geo
def InTwo (a b p : Pt) : Prop := turn a b p = 0 ∧ min a.1 b.1 ≤ p.1 ∧ p.1 ≤ max a.1 b.1 ∧ min a.2 b.2 ≤ p.2 ∧ p.2 ≤ max a.2 b.2
def InThree (a b c p : Pt) : Prop := turn a b c ≠ 0 ∧ ((0 ≤ turn a b p ∧ 0 ≤ turn b c p ∧ 0 ≤ turn c a p) ∨ (turn a b p ≤ 0 ∧ turn b c p ≤ 0 ∧ turn c a p ≤ 0))
def Within (ps : List Pt) (p : Pt) : Prop := ∃ (a : Nat) (x : Pt), ps[a]? = some x ∧ (x = p ∨ ∃ (b : Nat) (y : Pt), b < a ∧ ps[b]? = some y ∧ (InTwo x y p ∨ ∃ (c : Nat) (w : Pt), c < b ∧ ps[c]? = some w ∧ InThree x y w p))
theorem InTwo.symm {a b p : Pt} (h : InTwo a b p) : InTwo b a p := by
  obtain ⟨h1, h2, h3, h4, h5⟩ := h
  exact ⟨by rw [turn_swap]; omega, by omega, by omega, by omega, by omega⟩
theorem InTwo.same {a p : Pt} (h : InTwo a a p) : a = p := by
  obtain ⟨h1, h2, h3, h4, h5⟩ := h
  exact Prod.ext (by omega) (by omega)
theorem two_of_line {f a z p : Pt} (ht : turn a z p = 0) (h1 : lin f a ≤ lin f p) (h2 : lin f p ≤ lin f z) (h3 : lin f a < lin f z) : InTwo a z p := by
  have k1 : (lin f z - lin f a) * (p.1 - a.1) = (lin f p - lin f a) * (z.1 - a.1) := by
    have e : (lin f z - lin f a) * (p.1 - a.1) = (lin f p - lin f a) * (z.1 - a.1) - f.2 * turn a z p := by unfold lin turn; grind
    rw [e, ht]; simp
  have k2 : (lin f z - lin f a) * (p.2 - a.2) = (lin f p - lin f a) * (z.2 - a.2) := by
    have e : (lin f z - lin f a) * (p.2 - a.2) = (lin f p - lin f a) * (z.2 - a.2) + f.1 * turn a z p := by unfold lin turn; grind
    rw [e, ht]; simp
  have btw : ∀ {N M x y w : Int}, 0 < N → 0 ≤ M → M ≤ N → N * (y - x) = M * (w - x) → min x w ≤ y ∧ y ≤ max x w := fun {N M x y w} hN hM hMN e => by
    have e2 : N * (w - y) = (N - M) * (w - x) := by grind
    rcases Int.lt_or_le w x with c | c
    · have q1 : 0 ≤ M * (x - w) := Int.mul_nonneg hM (by omega)
      have q2 : 0 ≤ (N - M) * (x - w) := Int.mul_nonneg (by omega) (by omega)
      have q3 : 0 ≤ N * (x - y) := by grind
      have q4 : 0 ≤ N * (y - w) := by grind
      have := nonneg_of_mul hN q3
      have := nonneg_of_mul hN q4
      omega
    · have q1 : 0 ≤ M * (w - x) := Int.mul_nonneg hM (by omega)
      have q2 : 0 ≤ (N - M) * (w - x) := Int.mul_nonneg (by omega) (by omega)
      have := nonneg_of_mul hN (show 0 ≤ N * (y - x) by omega)
      have := nonneg_of_mul hN (show 0 ≤ N * (w - y) by omega)
      omega
  have b1 := btw (by omega) (by omega) (by omega) k1
  have b2 := btw (by omega) (by omega) (by omega) k2
  exact ⟨ht, b1.1, b1.2, b2.1, b2.2⟩
theorem Two.holds {f : Pt} {S : List Pt} {a z : Pt} {Lx Ux : List Pt} (T : Two f S a z Lx Ux) {p : Pt} (h : ∀ x y, Rnd (hullR S) x y → 0 ≤ turn x y p) (hl : Lx ++ z :: Ux = [z] → lin f a ≤ lin f p ∧ lin f p ≤ lin f z) :
    (hullR S = [a, z] ∧ InTwo a z p) ∨ ∃ x y, Adj (Lx ++ z :: Ux) x y ∧ 0 ≤ turn a x p ∧ 0 ≤ turn x y p ∧ turn a y p ≤ 0 ∧ 0 < turn a x y := by
  have out := T.out
  rw [List.cons_append] at out
  cases e : Lx ++ z :: Ux with
  | nil => simp at e
  | cons b l =>
    rw [e] at out
    have hlast : ∀ w, (b :: l).getLast? = some w → turn a w p ≤ 0 := fun w hw => by
      have := h w a (.inr ⟨by rw [out, List.getLast?_cons_cons]; exact hw, by rw [out]; rfl⟩)
      rw [turn_swap] at this; omega
    have hfirst : 0 ≤ turn a b p := h a b (.inl ⟨[], l, by rw [out]; rfl⟩)
    cases l with
    | nil =>
      left
      have hz : b = z ∧ Lx = [] ∧ Ux = [] := by
        cases Lx with
        | nil => simp at e; exact ⟨e.1.symm, rfl, e.2⟩
        | cons c r => simp at e
      obtain ⟨rfl, rfl, rfl⟩ := hz
      refine ⟨out, two_of_line (f := f) ?_ (hl rfl).1 (hl rfl).2 T.lt⟩
      have := hlast b rfl
      omega
    | cons c l =>
      right
      refine fan_find (c :: l) b (fun x y hxy => ⟨?_, h x y (.inl (by rw [out]; exact hxy.cons))⟩) hfirst (by simp) hlast
      exact T.fan (by rw [e]; exact hxy)
end Geo
namespace Geo
def ltP (p q : Pt) : Bool := decide (p.1 < q.1) || (decide (p.1 = q.1) && decide (p.2 < q.2))
def leP (p q : Pt) : Bool := !ltP q p
theorem ltP_iff {p q : Pt} : ltP p q = true ↔ p.1 < q.1 ∨ (p.1 = q.1 ∧ p.2 < q.2) := by unfold ltP; simp
theorem leP_iff {p q : Pt} : leP p q = true ↔ p.1 < q.1 ∨ (p.1 = q.1 ∧ p.2 ≤ q.2) := by
  unfold leP
  rw [Bool.not_eq_true', Bool.eq_false_iff, Ne, ltP_iff]; omega
def sortP (xs : List Pt) : List Pt := xs.mergeSort leP
def dedP : List Pt → List Pt
  | [] => []
  | x :: r => x :: (dedP r).filter (fun y => decide (y ≠ x))
def Bd (p : Pt) : Prop := -1000 ≤ p.1 ∧ p.1 ≤ 1000 ∧ -1000 ≤ p.2 ∧ p.2 ≤ 1000
def Bd2 (p : Pt) : Prop := -2000 ≤ p.1 ∧ p.1 ≤ 2000 ∧ -2000 ≤ p.2 ∧ p.2 ≤ 2000
def Bw (p : Pt) : Prop := -4611686018427387904 ≤ p.1 ∧ p.1 ≤ 4611686018427387904 ∧ -4611686018427387904 ≤ p.2 ∧ p.2 ≤ 4611686018427387904
theorem Bd.two {p : Pt} (h : Bd p) : Bd2 p := by unfold Bd at h; unfold Bd2; omega
theorem Bd2.w {p : Pt} (h : Bd2 p) : Bw p := by unfold Bd2 at h; unfold Bw; omega
theorem Bd.w {p : Pt} (h : Bd p) : Bw p := h.two.w
def others (ps : List Pt) (p : Pt) : List Pt := ps.filter (fun q => decide (q ≠ p))
structure RightP (R ps : List Pt) : Prop where
  nd : R.Nodup
  mem : ∀ x, x ∈ R ↔ x ∈ ps ∧ ¬ Within (others ps x) x
  fst : R.take 1 = (sortP R).take 1
  left : ∀ x y, Rnd R x y → ∀ q ∈ ps, 0 ≤ turn x y q
end Geo
set_option maxRecDepth 100000
namespace Geo
abbrev Ln := Int × Int × Int
def InHull (ps : List Pt) (p : Pt) : Prop := ∀ l : Ln, (∀ q ∈ ps, 0 ≤ wrt l q) → 0 ≤ wrt l p
def Out (ps : List Pt) (p : Pt) (l : Ln) : Prop := wrt l p < 0 ∧ ∀ q ∈ ps, 0 ≤ wrt l q
theorem Out.not {ps : List Pt} {p : Pt} {l : Ln} (h : Out ps p l) : ¬ InHull ps p := fun k => by have := k l h.2; have := h.1; omega
theorem InHull.mem {ps : List Pt} {p : Pt} (h : p ∈ ps) : InHull ps p := fun _ k => k p h
theorem InHull.sub {ps qs : List Pt} {p : Pt} (h : InHull ps p) (s : ∀ q ∈ ps, InHull qs q) : InHull qs p := fun l k => h l fun q hq => s q hq l k
theorem InHull.congr {ps qs : List Pt} {p : Pt} (h : ∀ q, q ∈ ps ↔ q ∈ qs) : InHull ps p ↔ InHull qs p :=
  ⟨fun k => k.sub fun q hq => .mem ((h q).mp hq), fun k => k.sub fun q hq => .mem ((h q).mpr hq)⟩
def along (a b : Pt) : Ln := (a.2 - b.2, b.1 - a.1, a.1 * b.2 - a.2 * b.1)
def across (a b : Pt) : Ln := (b.1 - a.1, b.2 - a.2, -(b.1 - a.1) * b.1 - (b.2 - a.2) * b.2)
theorem wrt_along (a b p : Pt) : wrt (along a b) p = turn a b p := by unfold wrt along turn; dsimp only; grind
def rot1 (R : List Pt) : List Pt := R.drop 1 ++ R.take 1
def edgesM (R : List Pt) : List Ln := (R.zip (rot1 R)).map fun e => along e.1 e.2
def frontsM (R : List Pt) (p : Pt) : List Ln := R.map fun e => across p e
def NoShut (R : List Pt) (p : Pt) : Prop := R ≠ [] ∧ ∀ l ∈ edgesM R ++ frontsM R p, ¬ Out R p l
theorem rnd_edge {R : List Pt} {x y : Pt} (h : Rnd R x y) : along x y ∈ edgesM R := by
  unfold edgesM
  refine List.mem_map.mpr ⟨(x, y), ?_, rfl⟩
  rcases h with ⟨pre, post, e⟩ | ⟨e1, e2⟩
  · subst e
    refine List.mem_iff_getElem?.mpr ⟨pre.length, ?_⟩
    rw [List.getElem?_zip_eq_some]
    refine ⟨by simp, ?_⟩
    unfold rot1
    cases pre with
    | nil => simp
    | cons c r => simp
  · cases R with
    | nil => simp at e2
    | cons c r =>
      simp at e2; subst e2
      refine List.mem_iff_getElem?.mpr ⟨r.length, ?_⟩
      rw [List.getElem?_zip_eq_some]
      refine ⟨?_, ?_⟩
      · rw [List.getLast?_eq_getElem?] at e1; simpa using e1
      · unfold rot1; simp
theorem NoShut.left {S : List Pt} {p : Pt} {f : Pt} {a z : Pt} {Lx Ux : List Pt} (T : Two f S a z Lx Ux) (h : NoShut (hullR S) p) : ∀ x y, Rnd (hullR S) x y → 0 ≤ turn x y p := fun x y hxy => by
  rcases Int.lt_or_le (turn x y p) 0 with k | k
  · refine absurd ⟨by rw [wrt_along]; exact k, fun q hq => ?_⟩ (h.2 (along x y) (List.mem_append_left _ (rnd_edge hxy)))
    rw [wrt_along]; exact T.left hxy q (T.sub q hq)
  · exact k
structure ShOk (R : List Pt) (p : Pt) (sh : List (Pt × Int)) : Prop where
  len : sh.length ≤ 3
  nd : (sh.map (·.1)).Nodup
  mem : ∀ e ∈ sh, e.1 ∈ R
  nn : ∀ e ∈ sh, 0 ≤ e.2
  pos : 0 < (sh.map (·.2)).sum
  lt : (sh.map (·.2)).sum ≤ 64000000
  x : (sh.map fun e => e.2 * e.1.1).sum = (sh.map (·.2)).sum * p.1
  y : (sh.map fun e => e.2 * e.1.2).sum = (sh.map (·.2)).sum * p.2
theorem ShOk.line {R : List Pt} {p : Pt} {sh : List (Pt × Int)} (h : ShOk R p sh) (l : Ln) : (sh.map fun e => e.2 * wrt l e.1).sum = (sh.map (·.2)).sum * wrt l p := by
  have go : ∀ sh : List (Pt × Int), (sh.map fun e => e.2 * wrt l e.1).sum = l.1 * (sh.map fun e => e.2 * e.1.1).sum + l.2.1 * (sh.map fun e => e.2 * e.1.2).sum + l.2.2 * (sh.map (·.2)).sum := fun sh => by
    induction sh with
    | nil => simp
    | cons e r ih => simp only [List.map_cons, List.sum_cons, ih]; unfold wrt; grind
  rw [go, h.x, h.y]; unfold wrt; grind
end Geo
set_option maxRecDepth 100000
namespace Geo
abbrev Tri := Int × Int × Int
def ptAt (ps : List Pt) (n : Int) : Pt := ps.getD n.toNat (0, 0)
structure Acc where
  x : Int
  y : Int
  n : Int
  b : Int
def Acc.step (ps : List Pt) (c : Acc) (t : Tri) : Acc := ⟨c.x * t.2.2 + (ptAt ps t.1).1 * t.2.1 * c.b, c.y * t.2.2 + (ptAt ps t.1).2 * t.2.1 * c.b, c.n * t.2.2 + 1 * t.2.1 * c.b, c.b * t.2.2⟩
def accM (ps : List Pt) (tri : List Tri) : Acc := tri.foldl (Acc.step ps) ⟨0, 0, 0, 1⟩
structure WOk (ps : List Pt) (tri : List Tri) (spot : Tri) : Prop where
  len : 1 ≤ tri.length ∧ tri.length ≤ 3
  part : ∀ t ∈ tri, 0 < t.2.1 ∧ 0 < t.2.2 ∧ Int.gcd t.2.1 t.2.2 = 1 ∧ t.2.1 ≤ 64000000 ∧ t.2.2 ≤ 64000000
  ix : ∀ t ∈ tri, 0 ≤ t.1 ∧ t.1 < ps.length
  inc : tri.Pairwise fun s t => s.1 < t.1
  one : (accM ps tri).n = (accM ps tri).b
  px : (accM ps tri).x * spot.2.2 = spot.1 * (accM ps tri).b
  py : (accM ps tri).y * spot.2.2 = spot.2.1 * (accM ps tri).b
structure PrOk (ps : List Pt) (prs : List Pt) (spot : Tri) : Prop where
  len : prs.length ≤ 3
  nd : (prs.map (·.1)).Nodup
  ix : ∀ q ∈ prs, 0 ≤ q.1 ∧ q.1 < ps.length
  nn : ∀ q ∈ prs, 0 ≤ q.2
  pos : 0 < (prs.map (·.2)).sum
  lt : (prs.map (·.2)).sum ≤ 64000000
  x : (prs.map fun q => q.2 * (ptAt ps q.1).1).sum * spot.2.2 = spot.1 * (prs.map (·.2)).sum
  y : (prs.map fun q => q.2 * (ptAt ps q.1).2).sum * spot.2.2 = spot.2.1 * (prs.map (·.2)).sum
end Geo
set_option maxRecDepth 100000
namespace Geo
def addP : List Pt → Int → Int → List Pt
  | [], n, s => [(n, 0 + s)]
  | q :: r, n, s => if q.1 = n then (q.1, q.2 + s) :: r else q :: addP r n s
theorem addP_sum (f : Int → Int) (n s : Int) : ∀ acc : List Pt, ((addP acc n s).map fun q => q.2 * f q.1).sum = (acc.map fun q => q.2 * f q.1).sum + s * f n
  | [] => by simp [addP]
  | q :: r => by
    unfold addP
    by_cases h : q.1 = n
    · rw [if_pos h]; simp only [List.map_cons, List.sum_cons]; rw [h]; grind
    · rw [if_neg h]; simp only [List.map_cons, List.sum_cons, addP_sum f n s r]; omega
theorem addP_keys (n s : Int) : ∀ acc : List Pt, ∀ k, k ∈ (addP acc n s).map (·.1) ↔ k = n ∨ k ∈ acc.map (·.1)
  | [], k => by simp [addP]
  | q :: r, k => by
    unfold addP
    by_cases h : q.1 = n
    · rw [if_pos h]; simp only [List.map_cons, List.mem_cons, h]
      constructor
      · intro z; exact .inr z
      · rintro (z | z)
        · exact .inl z
        · exact z
    · rw [if_neg h]; simp only [List.map_cons, List.mem_cons, addP_keys n s r k]
      constructor
      · rintro (z | z | z)
        · exact .inr (.inl z)
        · exact .inl z
        · exact .inr (.inr z)
      · rintro (z | z | z)
        · exact .inr (.inl z)
        · exact .inl z
        · exact .inr (.inr z)
theorem addP_nd (n s : Int) : ∀ acc : List Pt, (acc.map (·.1)).Nodup → ((addP acc n s).map (·.1)).Nodup
  | [], _ => by simp [addP]
  | q :: r, h => by
    unfold addP
    by_cases e : q.1 = n
    · rw [if_pos e]; exact h
    · rw [if_neg e]
      rw [List.map_cons, List.nodup_cons] at h ⊢
      refine ⟨fun z => ?_, addP_nd n s r h.2⟩
      rcases (addP_keys n s r q.1).mp z with z | z
      · exact e z
      · exact h.1 z
theorem addP_nn {n s : Int} (hs : 0 ≤ s) : ∀ acc : List Pt, (∀ q ∈ acc, 0 ≤ q.2) → ∀ q ∈ addP acc n s, 0 ≤ q.2
  | [], _, q, hq => by simp [addP] at hq; rw [hq]; exact hs
  | p :: r, h, q, hq => by
    unfold addP at hq
    have hp := h p (by simp)
    by_cases e : p.1 = n
    · rw [if_pos e] at hq
      rcases List.mem_cons.mp hq with z | z
      · rw [z]; dsimp only; omega
      · exact h q (by simp [z])
    · rw [if_neg e] at hq
      rcases List.mem_cons.mp hq with z | z
      · rw [z]; exact hp
      · exact addP_nn hs r (fun q hq => h q (by simp [hq])) q z
theorem addP_len (n s : Int) : ∀ acc : List Pt, (addP acc n s).length ≤ acc.length + 1
  | [] => by simp [addP]
  | q :: r => by
    unfold addP
    by_cases e : q.1 = n
    · rw [if_pos e]; simp
    · rw [if_neg e]; have := addP_len n s r; simp; omega
structure AddOk (prs out : List Pt) : Prop where
  nd : (out.map (·.1)).Nodup
  len : out.length ≤ prs.length
  keys : ∀ k, k ∈ out.map (·.1) → k ∈ prs.map (·.1)
  sum : ∀ f : Int → Int, (out.map fun q => q.2 * f q.1).sum = (prs.map fun q => q.2 * f q.1).sum
  nn : (∀ q ∈ prs, 0 ≤ q.2) → ∀ q ∈ out, 0 ≤ q.2
theorem AddOk.nil : AddOk [] [] := ⟨by simp, by simp, by simp, by simp, by simp⟩
theorem AddOk.snoc {prs out : List Pt} (h : AddOk prs out) (q : Pt) : AddOk (prs ++ [q]) (addP out q.1 q.2) := by
  refine ⟨addP_nd _ _ _ h.nd, ?_, fun k hk => ?_, fun f => ?_, fun hn p hp => ?_⟩
  · have := addP_len q.1 q.2 out; have := h.len; simp; omega
  · rcases (addP_keys q.1 q.2 out k).mp hk with z | z
    · rw [z]; simp
    · have := h.keys k z; rw [List.map_append, List.mem_append]; exact .inl this
  · rw [addP_sum, h.sum, List.map_append, List.sum_append_int]; simp
  · exact addP_nn (hn q (by simp)) out (h.nn fun r hr => hn r (by simp [hr])) p hp
def gcd3 (t : Tri) : Nat := Int.gcd (Int.gcd t.1 t.2.1 : Nat) t.2.2
structure SpOk (t : Tri) : Prop where
  pos : 0 < t.2.2
  low : gcd3 t = 1
structure LineOk (A B : List Pt) (l : Ln) : Prop where
  pos : ∀ a ∈ A, 0 < wrt l a
  neg : ∀ b ∈ B, wrt l b < 0
def subP (a b : Pt) : Pt := (a.1 - b.1, a.2 - b.2)
abbrev ShN := (Pt × Pt) × Int
structure ShnOk (A B : List Pt) (shn : List ShN) : Prop where
  ix : ∀ e ∈ shn, 0 ≤ e.1.2.1 ∧ e.1.2.1 < A.length ∧ 0 ≤ e.1.2.2 ∧ e.1.2.2 < B.length ∧ e.1.1 = subP (ptAt A e.1.2.1) (ptAt B e.1.2.2)
end Geo
namespace STab
open PySem
variable {α : Type}
def occ (M : Nat → Option α) (n : Nat) : List Nat := (List.range n).filter fun j => (M j).isSome
def ent (M : Nat → Option α) (n : Nat) : List α := (List.range n).filterMap M
theorem occ_succ (M : Nat → Option α) (n : Nat) : occ M (n + 1) = occ M n ++ (if (M n).isSome then [n] else []) := by
  unfold occ; rw [List.range_succ, List.filter_append]
  congr 1
  by_cases h : (M n).isSome = true
  · simp [h]
  · simp [h]
theorem ent_succ (M : Nat → Option α) (n : Nat) : ent M (n + 1) = ent M n ++ (M n).toList := by
  unfold ent; rw [List.range_succ, List.filterMap_append]
  congr 1
theorem occ_length (M : Nat → Option α) : ∀ n, (occ M n).length = (ent M n).length
  | 0 => rfl
  | n + 1 => by
    rw [occ_succ, ent_succ, List.length_append, List.length_append, occ_length M n]
    cases h : M n <;> simp
structure Rep (t : SetTable) (es : Array α) (M : Nat → Option α) : Prop where
  pl : t.place = (occ M (t.mask + 1)).toArray
  es : es = (ent M (t.mask + 1)).toArray
  dm : t.dummies = #[]
theorem Rep.size {t : SetTable} {es : Array α} {M : Nat → Option α} (R : Rep t es M) : t.place.size = es.size := by
  rw [R.pl, R.es]; simp [occ_length]
def setM (M : Nat → Option α) (j : Nat) (x : α) : Nat → Option α := fun k => if k = j then some x else M k
theorem occ_congr {M N : Nat → Option α} {n : Nat} (h : ∀ k, k < n → M k = N k) : occ M n = occ N n := by
  unfold occ; exact List.filter_congr fun k hk => by rw [h k (by simpa using hk)]
theorem ent_congr {M N : Nat → Option α} {n : Nat} (h : ∀ k, k < n → M k = N k) : ent M n = ent N n := by
  induction n with
  | zero => rfl
  | succ n ih => rw [ent_succ, ent_succ, ih fun k hk => h k (by omega), h n (by omega)]
theorem put_split {M : Nat → Option α} {n j : Nat} (x : α) (hj : j < n) (h : M j = none) : ∃ post post', occ M n = occ M j ++ post ∧ ent M n = ent M j ++ post' ∧ occ (setM M j x) n = occ M j ++ j :: post ∧ ent (setM M j x) n = ent M j ++ x :: post' := by
  induction n with
  | zero => omega
  | succ n ih =>
    by_cases e : j = n
    · subst e
      have c1 : occ (setM M j x) j = occ M j := occ_congr fun k hk => by unfold setM; rw [if_neg (by omega)]
      have c2 : ent (setM M j x) j = ent M j := ent_congr fun k hk => by unfold setM; rw [if_neg (by omega)]
      have c3 : setM M j x j = some x := by unfold setM; rw [if_pos rfl]
      refine ⟨[], [], ?_, ?_, ?_, ?_⟩
      · rw [occ_succ, h]; simp
      · rw [ent_succ, h]; simp
      · rw [occ_succ, c1, c3]; simp
      · rw [ent_succ, c2, c3]; simp
    · obtain ⟨p, p', h1, h2, h3, h4⟩ := ih (by omega)
      have c3 : setM M j x n = M n := by unfold setM; rw [if_neg (by omega)]
      refine ⟨p ++ (if (M n).isSome then [n] else []), p' ++ (M n).toList, ?_, ?_, ?_, ?_⟩
      · rw [occ_succ, h1]; simp
      · rw [ent_succ, h2]; simp
      · rw [occ_succ, h3, c3]; simp
      · rw [ent_succ, h4, c3]; simp
def lpN (mask h : Nat) : Nat → Nat × Nat
  | 0 => (h % (mask + 1), h)
  | n + 1 => SetTable.leap mask (lpN mask h n).1 (lpN mask h n).2
theorem lpN_lt (mask h : Nat) : ∀ n, (lpN mask h n).1 < mask + 1
  | 0 => Nat.mod_lt _ (by omega)
  | n + 1 => Nat.mod_lt _ (by omega)
theorem lpN_pt (mask h : Nat) : ∀ n, (lpN mask h n).2 = h / 32 ^ n
  | 0 => by simp [lpN]
  | n + 1 => by
    show (lpN mask h n).2 / 32 = _
    rw [lpN_pt mask h n, Nat.div_div_eq_div_mul, Nat.pow_succ]
def lcg (mask : Nat) : Nat → Nat → Nat
  | 0, i => i
  | n + 1, i => (lcg mask n i * 5 + 1) % (mask + 1)
theorem lpN_far (mask h : Nat) (hh : h < 2 ^ 64) : ∀ m, (lpN mask h (13 + m)).1 = lcg mask m (lpN mask h 13).1
  | 0 => rfl
  | m + 1 => by
    show ((lpN mask h (13 + m)).1 * 5 + 1 + (lpN mask h (13 + m)).2 / 32) % (mask + 1) = (lcg mask m (lpN mask h 13).1 * 5 + 1) % (mask + 1)
    have z : (lpN mask h (13 + m)).2 = 0 := by
      rw [lpN_pt]
      refine Nat.div_eq_of_lt (Nat.lt_of_lt_of_le hh ?_)
      calc 2 ^ 64 ≤ 32 ^ 13 := by decide
        _ ≤ 32 ^ (13 + m) := Nat.pow_le_pow_right (by decide) (by omega)
    rw [lpN_far mask h hh m, z]
theorem lcg7 : ∀ i, i < 8 → ∀ j, j < 8 → ∃ m, m < 8 ∧ lcg 7 m i = j := by decide
theorem lcg31 : ∀ i, i < 32 → ∀ j, j < 32 → ∃ m, m < 32 ∧ lcg 31 m i = j := by decide +kernel
def Good (mask : Nat) : Prop := mask = 7 ∨ mask = 31
theorem cover {mask h j : Nat} (hm : Good mask) (hh : h < 2 ^ 64) (hj : j ≤ mask) : ∃ n, n ≤ mask + 13 ∧ (lpN mask h n).1 = j := by
  rcases hm with rfl | rfl
  · obtain ⟨m, h1, h2⟩ := lcg7 _ (lpN_lt 7 h 13) j (by omega)
    exact ⟨13 + m, by omega, by rw [lpN_far 7 h hh]; exact h2⟩
  · obtain ⟨m, h1, h2⟩ := lcg31 _ (lpN_lt 31 h 13) j (by omega)
    exact ⟨13 + m, by omega, by rw [lpN_far 31 h hh]; exact h2⟩
theorem runEnd_le {mask i : Nat} (h : i ≤ mask) : i ≤ SetTable.runEnd mask i ∧ SetTable.runEnd mask i ≤ mask ∧ SetTable.runEnd mask i ≤ i + 9 := by
  unfold SetTable.runEnd; split <;> omega
structure Way where
  n : Nat
  k : Nat
def Way.at (mask h : Nat) (w : Way) : Nat := (lpN mask h w.n).1 + w.k
def Way.ok (mask h : Nat) (w : Way) : Prop := (lpN mask h w.n).1 + w.k ≤ SetTable.runEnd mask (lpN mask h w.n).1
def Way.lt (a b : Way) : Prop := a.n < b.n ∨ (a.n = b.n ∧ a.k < b.k)
def Way.next (mask h : Nat) (w : Way) : Way := if (lpN mask h w.n).1 + w.k < SetTable.runEnd mask (lpN mask h w.n).1 then ⟨w.n, w.k + 1⟩ else ⟨w.n + 1, 0⟩
theorem Way.at_le {mask h : Nat} {w : Way} (o : w.ok mask h) : w.at mask h ≤ mask := by
  unfold Way.ok at o; unfold Way.at
  have := (runEnd_le (Nat.le_of_lt_succ (lpN_lt mask h w.n))).2.1
  omega
theorem bits_lt (h : Int) : SetTable.bits h < 2 ^ 64 := by
  unfold SetTable.bits; omega
theorem Way.tri (a b : Way) : a.lt b ∨ a = b ∨ b.lt a := by
  rcases Nat.lt_trichotomy a.n b.n with h | h | h
  · exact .inl (.inl h)
  · rcases Nat.lt_trichotomy a.k b.k with k | k | k
    · exact .inl (.inr ⟨h, k⟩)
    · right; left; cases a; cases b; simp at h k; subst h k; rfl
    · exact .inr (.inr (.inr ⟨h.symm, k⟩))
  · exact .inr (.inr (.inl h))
def Way.left (n0 : Nat) (w : Way) : Nat := 10 * (n0 + 1 - w.n) - w.k
abbrev En (β : Type) := Int × β
def Reach {β : Type} (mask : Nat) (M : Nat → Option (En β)) : Prop := ∀ j e, j ≤ mask → M j = some e → ∃ w : Way, w.ok mask (SetTable.bits e.1) ∧ w.at mask (SetTable.bits e.1) = j ∧ ∀ w' : Way, w'.ok mask (SetTable.bits e.1) → w'.lt w → (M (w'.at mask (SetTable.bits e.1))).isSome = true
theorem empty_slot {M : Nat → Option α} : ∀ n, (ent M n).length < n → ∃ j, j < n ∧ M j = none
  | 0, h => by omega
  | n + 1, h => by
    cases e : M n with
    | none => exact ⟨n, by omega, e⟩
    | some x =>
      rw [ent_succ, e, List.length_append] at h
      simp at h
      obtain ⟨j, h1, h2⟩ := empty_slot n h
      exact ⟨j, by omega, h2⟩
def own (M : Nat → Option Nat) (mask : Nat) : Array (Option Nat) := ((List.range (mask + 1)).map M).toArray
theorem own_get {M : Nat → Option Nat} {mask j : Nat} (d : Option Nat) (hj : j ≤ mask) : (own M mask).getD j d = M j := by
  unfold own
  rw [Array.getD_eq_getD_getElem?]
  simp [show j < mask + 1 by omega]
theorem own_set {M : Nat → Option Nat} {mask j k : Nat} (hj : j ≤ mask) : (own M mask).setIfInBounds j (some k) = own (setM M j k) mask := by
  unfold own
  apply Array.toList_inj.mp
  simp only [Array.toList_setIfInBounds]
  apply List.ext_getElem?
  intro i
  rw [List.getElem?_set]
  by_cases h : j = i
  · subst h
    simp [setM, show j < mask + 1 by omega]
  · rw [if_neg h]
    simp only [List.getElem?_map]
    by_cases hi : i < mask + 1
    · simp [hi, setM, Ne.symm h]
    · simp [hi]
theorem free_spec {mask b n0 : Nat} {M : Nat → Option Nat} (hz : M (lpN mask b n0).1 = none) : ∀ fuel n, n ≤ n0 → n0 - n < fuel →
    ∃ w : Way, w.ok mask b ∧ n ≤ w.n ∧ SetTable.layClean.free mask (own M mask) fuel (lpN mask b n).1 (lpN mask b n).2 = some (w.at mask b) ∧ M (w.at mask b) = none ∧ ∀ w' : Way, w'.ok mask b → n ≤ w'.n → w'.lt w → (M (w'.at mask b)).isSome = true
  | 0, n, _, h => by omega
  | fuel + 1, n, hn, hf => by
    have hi := Nat.le_of_lt_succ (lpN_lt mask b n)
    have re := runEnd_le hi
    unfold SetTable.layClean.free
    cases e : (List.range (SetTable.runEnd mask (lpN mask b n).1 + 1 - (lpN mask b n).1)).find? fun k => ((own M mask).getD ((lpN mask b n).1 + k) (some 0)).isNone with
    | some k =>
      rw [List.find?_range_eq_some] at e
      obtain ⟨e1, e2, e3⟩ := e
      have e2' : k < SetTable.runEnd mask (lpN mask b n).1 + 1 - (lpN mask b n).1 := by simpa using e2
      rw [own_get _ (by omega)] at e1
      refine ⟨⟨n, k⟩, by show _ + k ≤ _; show (lpN mask b n).1 + k ≤ SetTable.runEnd mask (lpN mask b n).1; omega, Nat.le_refl _, rfl, ?_, fun w' o' hn' hl => ?_⟩
      · cases q : M ((⟨n, k⟩ : Way).at mask b) with
        | none => rfl
        | some z =>
          have q' : M ((lpN mask b n).1 + k) = some z := q
          rw [q'] at e1; simp at e1
      · rcases hl with z | ⟨z1, z2⟩
        · have z' : w'.n < n := z
          omega
        · have z1' : w'.n = n := z1
          have z2' : w'.k < k := z2
          have q := e3 w'.k z2'
          rw [own_get _ (by omega)] at q
          unfold Way.at
          rw [z1']
          cases q2 : M ((lpN mask b n).1 + w'.k) with
          | none => rw [q2] at q; simp at q
          | some _ => rfl
    | none =>
      rw [List.find?_range_eq_none] at e
      have all : ∀ k, (lpN mask b n).1 + k ≤ SetTable.runEnd mask (lpN mask b n).1 → (M ((lpN mask b n).1 + k)).isSome = true := fun k hk => by
        have q := e k (by omega)
        rw [own_get _ (by omega)] at q
        cases q2 : M ((lpN mask b n).1 + k) with
        | none => rw [q2] at q; simp at q
        | some _ => rfl
      have hne : n ≠ n0 := fun q => by
        have z := all 0 (by omega)
        rw [Nat.add_zero, q, hz] at z; simp at z
      obtain ⟨w, a1, a2, a3, a4, a5⟩ := free_spec hz fuel (n + 1) (by omega) (by omega)
      refine ⟨w, a1, by omega, a3, a4, fun w' o' hn' hl => ?_⟩
      by_cases q : w'.n = n
      · unfold Way.ok at o'
        rw [q] at o'
        have := all w'.k o'
        unfold Way.at
        rw [q]; exact this
      · exact a5 w' o' (by omega) hl
structure Lay (mask : Nat) (hs : List Int) (M : Nat → Option Nat) : Prop where
  cnt : (ent M (mask + 1)).length = hs.length
  val : ∀ j k, j ≤ mask → M j = some k → k < hs.length
  inj : ∀ i j k, i ≤ mask → j ≤ mask → M i = some k → M j = some k → i = j
  way : ∀ k h, hs[k]? = some h → ∃ w : Way, w.ok mask (SetTable.bits h) ∧ M (w.at mask (SetTable.bits h)) = some k ∧ ∀ w' : Way, w'.ok mask (SetTable.bits h) → w'.lt w → (M (w'.at mask (SetTable.bits h))).isSome = true
theorem Lay.nil (mask : Nat) : Lay mask [] (fun _ => none) := ⟨by unfold ent; simp, fun _ _ _ h => by simp at h, fun _ _ _ _ _ h => by simp at h, fun k h e => by simp at e⟩
theorem Lay.step {mask : Nat} (hm : Good mask) {hs : List Int} {M : Nat → Option Nat} (L : Lay mask hs M) (hlt : hs.length ≤ mask) (h : Int) :
    ∃ j M', SetTable.layClean.free mask (own M mask) (SetTable.turns mask) (SetTable.bits h % (mask + 1)) (SetTable.bits h) = some j ∧ (own M mask).setIfInBounds j (some hs.length) = own M' mask ∧ Lay mask (hs ++ [h]) M' := by
  obtain ⟨j0, hj0, hz0⟩ := empty_slot (M := M) (mask + 1) (by rw [L.cnt]; omega)
  obtain ⟨n0, hn0, hc⟩ := cover hm (bits_lt h) (show j0 ≤ mask by omega)
  obtain ⟨w, a1, a2, a3, a4, a5⟩ := free_spec (M := M) (b := SetTable.bits h) (n0 := n0) (by rw [hc]; exact hz0) (SetTable.turns mask) 0 (Nat.zero_le _) (by unfold SetTable.turns; omega)
  have hat := Way.at_le a1
  have keep : ∀ i, i ≠ w.at mask (SetTable.bits h) → setM M (w.at mask (SetTable.bits h)) hs.length i = M i := fun i hi => by unfold setM; rw [if_neg hi]
  have here : setM M (w.at mask (SetTable.bits h)) hs.length (w.at mask (SetTable.bits h)) = some hs.length := by unfold setM; rw [if_pos rfl]
  have more : ∀ i, (M i).isSome = true → (setM M (w.at mask (SetTable.bits h)) hs.length i).isSome = true := fun i hi => by
    by_cases e : i = w.at mask (SetTable.bits h)
    · rw [e, here]; rfl
    · rw [keep i e]; exact hi
  refine ⟨w.at mask (SetTable.bits h), setM M (w.at mask (SetTable.bits h)) hs.length, a3, own_set hat, ⟨?_, ?_, ?_, ?_⟩⟩
  · obtain ⟨p, p', h1, h2, h3, h4⟩ := put_split (n := mask + 1) hs.length (show w.at mask (SetTable.bits h) < mask + 1 by omega) a4
    have c := L.cnt
    rw [h2] at c
    rw [h4]
    simp at c ⊢; omega
  · intro i k hi e
    rw [List.length_append]
    by_cases q : i = w.at mask (SetTable.bits h)
    · rw [q, here] at e; cases e; simp
    · rw [keep i q] at e; have := L.val i k hi e; simp; omega
  · intro i j k hi hj e1 e2
    by_cases q1 : i = w.at mask (SetTable.bits h)
    · by_cases q2 : j = w.at mask (SetTable.bits h)
      · rw [q1, q2]
      · rw [q1, here] at e1; cases e1
        rw [keep j q2] at e2
        have := L.val j _ hj e2
        omega
    · rw [keep i q1] at e1
      by_cases q2 : j = w.at mask (SetTable.bits h)
      · rw [q2, here] at e2; cases e2
        have := L.val i _ hi e1
        omega
      · rw [keep j q2] at e2
        exact L.inj i j k hi hj e1 e2
  · intro k g e
    by_cases q : k < hs.length
    · rw [List.getElem?_append_left q] at e
      obtain ⟨w1, b1, b2, b3⟩ := L.way k g e
      refine ⟨w1, b1, ?_, fun w' o' l' => more _ (b3 w' o' l')⟩
      rw [keep _ fun z => by rw [z, a4] at b2; cases b2]
      exact b2
    · have hk : k = hs.length := by
        have := (List.getElem?_eq_some_iff.mp e).1
        rw [List.length_append] at this; simp at this; omega
      subst hk
      rw [List.getElem?_append_right (Nat.le_refl _), Nat.sub_self] at e
      simp at e; subst e
      exact ⟨w, a1, here, fun w' o' l' => more _ (a5 w' o' (Nat.zero_le _) l')⟩
end STab
namespace STab
open PySem
section
variable {prog : Program} {w : World} {A : Around} {E : Value → Shared → Prop}
abbrev TK (prog : Program) (w : World) : HeapKind prog w (List Int) := tupleKind (intKind prog w)
def Tups (prog : Program) (w : World) (h : Heap) (es : List (En Value)) : Prop := ∀ e ∈ es, ∃ ks b, e.2 = .ref b ∧ (TK prog w).is h ks b ∧ e.1 = (TK prog w).hash ks
structure Tab (prog : Program) (w : World) (h : Heap) (a : Addr) (es : Array (En Value)) (ep : Nat) (t : SetTable) (M : Nat → Option (En Value)) : Prop where
  ob : ∃ o, h.get? a = some o ∧ o.ExactSet ∧ o.data = .set es ep t
  rep : Rep t es M
  rch : Reach t.mask M
  good : Good t.mask
  room : es.size * 5 < t.mask * 3
  pln : t.plain = true
  led : t.led = !(w.params.followText "set-order")
  tup : Tups prog w h es.toList
theorem Tab.fits {h : Heap} {a : Addr} {es : Array (En Value)} {ep : Nat} {t : SetTable} {M : Nat → Option (En Value)} (T : Tab prog w h a es ep t M) : t.fits es.size = true := by
  unfold SetTable.fits SetTable.fill
  have := T.room
  rw [T.rep.size, T.rep.dm]
  simp; omega
theorem Tab.empty {h : Heap} {a : Addr} {es : Array (En Value)} {ep : Nat} {t : SetTable} {M : Nat → Option (En Value)} (T : Tab prog w h a es ep t M) (hh : Int) : ∃ n0, n0 ≤ t.mask + 13 ∧ M ((⟨n0, 0⟩ : Way).at t.mask (SetTable.bits hh)) = none := by
  have hs : (ent M (t.mask + 1)).length = es.size := by rw [T.rep.es]; simp
  obtain ⟨j, hj, hz⟩ := empty_slot (M := M) (t.mask + 1) (by rw [hs]; have := T.room; omega)
  obtain ⟨n0, h1, h2⟩ := cover T.good (bits_lt hh) (show j ≤ t.mask by omega)
  exact ⟨n0, h1, by show M ((lpN t.mask (SetTable.bits hh) n0).1 + 0) = none; rw [Nat.add_zero, h2]; exact hz⟩
end
end STab
namespace STab
open PySem
section
variable {prog : Program} {w : World} {A : Around} {E : Value → Shared → Prop}
def KeyOf (prog : Program) (w : World) (h : Heap) (v : Value) (ks : List Int) : Prop := ∃ b, v = Value.ref b ∧ (TK prog w).is h ks b
structure Memb (prog : Program) (w : World) (h : Heap) (es : List (En Value)) (kss : List (List Int)) (vs : List Value) : Prop where
  into : ∀ e ∈ es, e.2 ∈ vs ∧ ∃ ks ∈ kss, KeyOf prog w h e.2 ks
  onto : ∀ ks ∈ kss, ∃ e ∈ es, KeyOf prog w h e.2 ks
  once : es.Pairwise fun e f => ∀ ks, KeyOf prog w h e.2 ks → ¬ KeyOf prog w h f.2 ks
  size : es.length ≤ kss.length
theorem KeyOf.inj {h : Heap} {v : Value} {a b : List Int} (x : KeyOf prog w h v a) (y : KeyOf prog w h v b) : a = b := by
  obtain ⟨p, rfl, x⟩ := x
  obtain ⟨q, e, y⟩ := y
  cases e
  exact (TK prog w).inj x y
end
end STab
namespace STab
open PySem
section
variable {prog : Program} {w : World} {A : Around} {E : Value → Shared → Prop} {s : Shared}
end
end STab
namespace STab
open PySem PySem.F
end STab
namespace STab
open PySem
section
variable {prog : Program} {w : World} {A : Around} {E : Value → Shared → Prop} {s : Shared}
structure Tab0 (w : World) (h : Heap) (a : Addr) (es : Array (En Value)) (ep : Nat) (t : SetTable) (M : Nat → Option (En Value)) : Prop where
  ob : ∃ o, h.get? a = some o ∧ o.ExactSet ∧ o.data = .set es ep t
  rep : Rep t es M
  room : es.size * 5 < t.mask * 3
  pln : t.plain = true
  led : t.led = !(w.params.followText "set-order")
theorem Tab.zero {h : Heap} {a : Addr} {es : Array (En Value)} {ep : Nat} {t : SetTable} {M : Nat → Option (En Value)} (T : Tab prog w h a es ep t M) : Tab0 w h a es ep t M := ⟨T.ob, T.rep, T.room, T.pln, T.led⟩
theorem Tab0.fits {h : Heap} {a : Addr} {es : Array (En Value)} {ep : Nat} {t : SetTable} {M : Nat → Option (En Value)} (T : Tab0 w h a es ep t M) : t.fits es.size = true := by
  unfold SetTable.fits SetTable.fill
  have := T.room
  rw [T.rep.size, T.rep.dm]
  simp; omega
theorem Tab0.at {h h' : Heap} {S : Addr} {es : Array (En Value)} {ep : Nat} {t : SetTable} {M : Nat → Option (En Value)} (T : Tab0 w h S es ep t M) (kp : ∀ o, h.get? S = some o → h'.get? S = some o) : Tab0 w h' S es ep t M :=
  ⟨let ⟨ob, ho, hx, hd⟩ := T.ob; ⟨ob, kp ob ho, hx, hd⟩, T.rep, T.room, T.pln, T.led⟩
def IsSI (h : Heap) (I S : Addr) (slot i n ep : Nat) : Prop := h.get? I = some { cls := .type "set_iterator", data := .fields #[.int slot 0, .int i 0, .ref S, .int n 0, .int ep 0] }
theorem IsSI.ty {I S : Addr} {slot i n ep : Nat} (h : IsSI s.heap I S slot i n ep) : s.TypeIs (.ref I) "set_iterator" := ⟨_, h, rfl⟩
end
end STab
namespace Srt
open PySem PySem.W PyProof.Rows Geo
theorem le_of_lt {a b : Pt} (h : ltP a b = true) : leP a b = true := by rw [ltP_iff] at h; rw [leP_iff]; omega
structure Ok (n : Nat) (p : Array Nat) : Prop where
  perm : p.Perm (List.toArray (List.range n))
theorem Ok.size {n : Nat} {p : Array Nat} (h : Ok n p) : p.size = n := by rw [h.perm.size_eq]; simp
theorem Ok.at {n : Nat} {p : Array Nat} (h : Ok n p) (hn : 0 < n) (i : Nat) : p.getD i 0 < n := by
  rw [Array.getD_eq_getD_getElem?]
  cases e : p[i]? with
  | none => exact hn
  | some x =>
    have hm : x ∈ p := Array.mem_of_getElem? e
    have := h.perm.mem_iff.mp hm
    simpa using this
section
variable {n : Nat} {key : Nat → Pt} {cmp : Nat → Nat → (Bool → Shared → Prop) → Shared → Prop} {s : Shared}
end
end Srt
set_option maxRecDepth 100000
namespace L2
open PySem PySem.Spec PyProof.Rows Geo
def IsPt (H : Hp) (v : V) (p : Pt) : Prop := ∃ a, v = .ref a ∧ H a = some (.tup [.int p.1, .int p.2])
abbrev ArePts (H : Hp) : List V → List Pt → Prop := Paired (IsPt H)
def Keep (H H' : Hp) : Prop := ∀ a xs, H a = some (.tup xs) → H' a = some (.tup xs)
theorem Keep.refl (H : Hp) : Keep H H := fun _ _ h => h
theorem Keep.trans {H1 H2 H3 : Hp} (a : Keep H1 H2) (b : Keep H2 H3) : Keep H1 H3 := fun p xs h => b p xs (a p xs h)
theorem Keep.new {H : Hp} {p : Addr} (h : H p = none) (o : HO) : Keep H (upd H p o) := fun a xs e => by rw [upd_ne (ne_of_none e h)]; exact e
theorem Keep.lst {H : Hp} {p : Addr} {xs : List V} (h : H p = some (.lst xs)) (o : HO) : Keep H (upd H p o) := fun a ys e => by rw [upd_ne (ne_of e h (by intro z; cases z))]; exact e
theorem IsPt.keep {H H' : Hp} {v : V} {p : Pt} (h : IsPt H v p) (k : Keep H H') : IsPt H' v p := by
  obtain ⟨a, e, h⟩ := h; exact ⟨a, e, k _ _ h⟩
theorem ArePts.keep {H H' : Hp} {vs : List V} {ps : List Pt} (h : ArePts H vs ps) (k : Keep H H') : ArePts H' vs ps := Paired.mapP h fun _ _ z => z.keep k
theorem IsPt.inj {H : Hp} {v : V} {p q : Pt} (h : IsPt H v p) (h' : IsPt H v q) : p = q := by
  obtain ⟨a, rfl, h⟩ := h
  obtain ⟨b, e, h'⟩ := h'
  cases e
  rw [h] at h'
  injection h' with h'; injection h' with h'; injection h' with e1 h'; injection h' with e2 _
  injection e1 with e1; injection e2 with e2
  exact Prod.ext e1 e2
theorem Pair.get {α β : Type} {F : α → β → Prop} : ∀ {xs : List α} {ys : List β} {i : Nat} {x : α}, Paired F xs ys → xs[i]? = some x → ∃ y, ys[i]? = some y ∧ F x y
  | _, _, _, _, .nil, e => by simp at e
  | _, _, 0, _, .cons r _, e => by simp at e; subst e; exact ⟨_, rfl, r⟩
  | _, _, i + 1, x, .cons _ t, e => by
    obtain ⟨u, h1, h2⟩ := Pair.get (i := i) (x := x) t (by simpa using e)
    exact ⟨u, by simpa using h1, h2⟩
theorem Pair.append {α β : Type} {F : α → β → Prop} : ∀ {xs xs' : List α} {ys ys' : List β}, Paired F xs ys → Paired F xs' ys' → Paired F (xs ++ xs') (ys ++ ys')
  | _, _, _, _, .nil, s => s
  | _, _, _, _, .cons r t, s => .cons r (Pair.append t s)
theorem Pair.take {α β : Type} {F : α → β → Prop} : ∀ {xs : List α} {ys : List β} (n : Nat), Paired F xs ys → Paired F (xs.take n) (ys.take n)
  | _, _, 0, _ => by simp; exact .nil
  | _, _, _ + 1, .nil => .nil
  | _, _, n + 1, .cons r t => .cons r (Pair.take n t)
theorem Pair.drop {α β : Type} {F : α → β → Prop} : ∀ {xs : List α} {ys : List β} (n : Nat), Paired F xs ys → Paired F (xs.drop n) (ys.drop n)
  | _, _, 0, r => r
  | _, _, _ + 1, .nil => .nil
  | _, _, n + 1, .cons _ t => Pair.drop n t
theorem Pair.reverse {α β : Type} {F : α → β → Prop} : ∀ {xs : List α} {ys : List β}, Paired F xs ys → Paired F xs.reverse ys.reverse
  | _, _, .nil => .nil
  | _, _, .cons r t => by rw [List.reverse_cons, List.reverse_cons]; exact Pair.append (Pair.reverse t) (.cons r .nil)
theorem Pair.dropLast {α β : Type} {F : α → β → Prop} {xs : List α} {ys : List β} (r : Paired F xs ys) : Paired F xs.dropLast ys.dropLast := by
  rw [List.dropLast_eq_take, List.dropLast_eq_take, r.length]; exact Pair.take _ r
section
variable {X : Cx} {pins : List (Addr × Obj)} {σ : St} {H : Hp} {s : Shared}
theorem ns_one {h : Heap} {L : Addr} {m m' : Str → Option Value} (a : h.Ns L m) (b : h.Ns L m') : m = m' := by
  obtain ⟨o, es, ep, ho, hd, hk, hm⟩ := a
  obtain ⟨o', es', ep', ho', hd', hk', hm'⟩ := b
  rw [ho] at ho'; cases ho'
  rw [hd] at hd'; cases hd'
  funext x
  rw [← hm x, ← hm' x]
theorem news_keeps {h' : Heap} {m : Str → Option Value} {more : List (Addr × Obj)} (I : Inv X pins σ H s) (F : Fr X.base X.env.locals h' m) (N : News X.base X.env.locals h' (more ++ allNews X.base s.heap X.env.locals)) :
    ∀ b o, b ≠ X.env.locals → s.heap.get? b = some o → h'.get? b = some o := fun b o hb e => by
  cases q : X.base.get? b with
  | some u =>
    have := I.bk b u q
    rw [e] at this; cases this
    exact F.keep b _ q
  | none => exact (N (b, o) (List.mem_append_right _ (mem_allNews hb q e))).1
end
end L2
set_option maxRecDepth 100000
namespace L2
open PySem PySem.Spec PyProof.Rows Geo PySem.W
def TupAt (h : Heap) (v : Value) (p : Pt) : Prop := ∃ b o t u n, v = .ref b ∧ h.get? b = some o ∧ o.cls = .type "tuple" ∧ o.data = .seq #[.int p.1 t, .int p.2 u] n
theorem TupAt.at {h h' : Heap} {v : Value} {p : Pt} (x : TupAt h v p) (k : ∀ b o, v = .ref b → h.get? b = some o → h'.get? b = some o) : TupAt h' v p := by
  obtain ⟨b, o, t, u, n, e, g, c, d⟩ := x
  exact ⟨b, o, t, u, n, e, k b o e g, c, d⟩
section
variable {prog : Program} {w : World} {A : Around} {E : Value → Shared → Prop} {s : Shared}
end
section
variable {X : Cx} {pins : List (Addr × Obj)} {σ : St} {H : Hp} {s : Shared}
theorem Inv.tupAt (I : Inv X pins σ H s) {v : V} {u : Value} {p : Pt} (r : RelV v u) (h : IsPt H v p) : TupAt s.heap u p := by
  obtain ⟨a, rfl, h⟩ := h
  obtain rfl : u = Value.ref a := r
  obtain ⟨_, its, rv, ob, e, c, n, d⟩ := I.hok a _ h
  cases rv with
  | cons r1 rv =>
    cases rv with
    | cons r2 rv =>
      cases rv
      obtain ⟨t, rfl⟩ := r1
      obtain ⟨t', rfl⟩ := r2
      exact ⟨a, ob, t, t', n, rfl, e, c, d⟩
theorem Inv.tupsAt (I : Inv X pins σ H s) : ∀ {vs : List V} {us : List Value} {ps : List Pt}, Vals vs us → ArePts H vs ps → Paired (TupAt s.heap) us ps
  | _, _, _, .nil, .nil => .nil
  | _, _, _, .cons r t, .cons h k => .cons (I.tupAt r h) (I.tupsAt t k)
end
end L2
set_option maxRecDepth 100000
namespace L2
open PySem PySem.Spec PyProof.Rows Geo PySem.W STab
section
variable {prog : Program} {w : World} {h : Heap}
theorem TupAt.key {v : Value} {p : Pt} (x : TupAt h v p) : KeyOf prog w h v [p.1, p.2] := by
  obtain ⟨b, o, t, u, n, e, g, c, d⟩ := x
  exact ⟨b, e, o, _, n, g, c, d, .cons (by simp [intKind, Value.isInt]) (.cons (by simp [intKind, Value.isInt]) .nil)⟩
theorem TupAt.inj {v : Value} {p q : Pt} (x : TupAt h v p) (y : TupAt h v q) : p = q := by
  obtain ⟨b, o, t, u, n, e, g, c, d⟩ := x
  obtain ⟨b', o', t', u', n', e', g', c', d'⟩ := y
  rw [e] at e'; cases e'
  rw [g] at g'; cases g'
  rw [d] at d'
  injection d' with d1 _
  have d2 := congrArg Array.toList d1
  simp at d2
  exact Prod.ext d2.1.1 d2.2.1
end
end L2
set_option maxRecDepth 100000
namespace L2
open PySem PySem.Spec PyProof.Rows Geo PySem.W STab
section
variable {A : Around} {s : Shared}
theorem pair_all (p q : Pt) : ((List.range (min (#[Value.int p.1 0, Value.int p.2 0] : Array Value).size (#[Value.int q.1 0, Value.int q.2 0] : Array Value).size)).all (fun j => if j = 0 then p.1 == q.1 else p.2 == q.2) && (#[Value.int p.1 0, Value.int p.2 0] : Array Value).size == (#[Value.int q.1 0, Value.int q.2 0] : Array Value).size) = decide (p = q) := by
  have e : (List.range (min (#[Value.int p.1 0, Value.int p.2 0] : Array Value).size (#[Value.int q.1 0, Value.int q.2 0] : Array Value).size)) = [0, 1] := rfl
  rw [e]
  by_cases h : p = q
  · subst h; simp
  · rw [decide_eq_false h]
    by_cases h1 : p.1 = q.1
    · have h2 : p.2 ≠ q.2 := fun z => h (Prod.ext h1 z)
      simp [h1, h2]
    · simp [h1]
theorem rc_pt {u v : Value} {p q : Pt} (hu : A.units < cLine) (x : TupAt s.heap u p) (y : TupAt s.heap v q) : SeqAt.RcAt A s u v (decide (p = q)) := by
  obtain ⟨b, o, t, t', n, rfl, g, c, d⟩ := x
  obtain ⟨b', o', t2, t2', n', rfl, g', c', d'⟩ := y
  rw [← pair_all]
  refine SeqAt.RcAt.tuples (items := #[.int p.1 t, .int p.2 t']) (items2 := #[.int q.1 t2, .int q.2 t2']) ⟨o, g, c, n, d⟩ ⟨o', g', c', n', d'⟩ hu fun j h1 h2 => ?_
  match j, h1, h2 with
  | 0, _, _ => exact SeqAt.EqAt.int_int _ _ _ _
  | 1, _, _ => exact SeqAt.EqAt.int_int _ _ _ _
theorem eq_pt {u v : Value} {p q : Pt} (hu : A.units < cLine) (x : TupAt s.heap u p) (y : TupAt s.heap v q) : SeqAt.EqAt A s u v (decide (p = q)) := by
  have r := rc_pt hu x y
  obtain ⟨b, o, t, t', n, rfl, g, c, d⟩ := id x
  obtain ⟨b', o', t2, t2', n', rfl, g', c', d'⟩ := id y
  by_cases e : b = b'
  · subst e
    rw [decide_eq_true (x.inj y)]
    exact SeqAt.EqAt.same _
  · exact SeqAt.EqAt.of_refs e r
theorem pair_range {us vs : List Value} {ps qs : List Pt} {h : Heap} (x : Paired (TupAt h) us ps) (y : Paired (TupAt h) vs qs) (hl : us.length = vs.length) :
    ((List.range us.toArray.size).all fun j => decide (ps.getD j (0, 0) = qs.getD j (0, 0))) = decide (ps = qs) := by
  have l1 := x.length
  have l2 := y.length
  rw [Bool.eq_iff_iff, List.all_eq_true, decide_eq_true_iff]
  constructor
  · intro h
    apply List.ext_getElem
    · omega
    · intro j h1 h2
      have := of_decide_eq_true (h j (by simp; omega))
      simpa [h1, h2] using this
  · rintro rfl j _
    exact decide_eq_true rfl
theorem eq_pts_at {us vs : List Value} {ps qs : List Pt} (hu : A.units < cLine) (x : Paired (TupAt s.heap) us ps) (y : Paired (TupAt s.heap) vs qs) (j : Nat) (h1 : j < us.toArray.size) (h2 : j < vs.toArray.size) :
    SeqAt.EqAt A s us.toArray[j] vs.toArray[j] (decide (ps.getD j (0, 0) = qs.getD j (0, 0))) := by
  have h1' : j < us.length := by simpa using h1
  have h2' : j < vs.length := by simpa using h2
  obtain ⟨p, e1, e2⟩ := Pair.get (i := j) (x := us[j]) x (by simp [h1'])
  obtain ⟨q, e3, e4⟩ := Pair.get (i := j) (x := vs[j]) y (by simp [h2'])
  have := eq_pt hu e2 e4
  rw [List.getD_eq_getElem?_getD, List.getD_eq_getElem?_getD, e1, e3]
  simpa using this
theorem rc_pts {a b : Addr} {us vs : List Value} {ps qs : List Pt} (hu : A.units + 1 < cLine) (ha : s.heap.IsList a us.toArray) (hb : s.heap.IsList b vs.toArray) (x : Paired (TupAt s.heap) us ps) (y : Paired (TupAt s.heap) vs qs) :
    SeqAt.RcAt A s (.ref a) (.ref b) (decide (ps = qs)) := by
  have l1 := x.length
  have l2 := y.length
  by_cases hl : us.length = vs.length
  · rw [← pair_range x y hl]
    exact SeqAt.RcAt.lists ha hb (by simpa using hl) (by omega) fun j h1 h2 => eq_pts_at (by show A.units + 1 < cLine; exact hu) x y j h1 h2
  · rw [decide_eq_false (fun e => hl (by rw [l1, l2, e]))]
    exact SeqAt.RcAt.lists_lengths ha hb (by simp [hl]) (by omega)
end
section
variable {X : Cx}
end
end L2
set_option maxRecDepth 100000
namespace L2
open PySem PySem.Spec PyProof.Rows Geo PySem.W STab
section
variable {prog : Program} {w : World} {A : Around} {E : Value → Shared → Prop} {s : Shared}
theorem lri_no_len : typeLookup (.type "list_reverseiterator") "__len__" = pure none := by (rw [typeLookup_type, builtinLookup_eq_fast]); kernel_rfl
theorem slot_lri_hint : typeLookup (.type "list_reverseiterator") "__length_hint__" = pure (some (.builtin "list_reverseiterator.__length_hint__")) := by (rw [typeLookup_type, builtinLookup_eq_fast]); kernel_rfl
theorem lri_hint {I : Addr} {Q : Bool → Shared → Prop} (hT : s.TypeIs (.ref I) "list_reverseiterator") (h : Q false s) : wpAny (model prog w) A (Builtin.List.listLengthHint (.ref I)) Q E s := by
  unfold Builtin.List.listLengthHint
  refine wpAny_bind (wpAny_specialOf hT lri_no_len ?_)
  show wpAny _ A (specialOf (Value.ref I) (Str.ofString "__length_hint__") >>= fun _ => _) _ _ _
  refine wpAny_bind (wpAny_specialOf hT slot_lri_hint ?_)
  generalize hid : ("list_reverseiterator.__length_hint__" : String) = id0
  dsimp only
  rw [show splitId id0 = some ("list_reverseiterator", "__length_hint__") from by subst hid; decide +kernel]
  dsimp only
  subst hid
  refine wpAny_bind (wpAny_isInstance (T := "list_reverseiterator") (b := true) hT (by (rw [isSubtype_type]); kernel_rfl) ?_)
  refine wpAny_ite_split (fun hab => absurd hab (by decide)) (fun _ => ?_)
  (refine wpAny_ite_split (fun _ => ?_) (fun hab => absurd (by decide +kernel) hab))
  refine wpAny_ite_split (fun hab => absurd hab (by decide +kernel)) (fun _ => ?_)
  exact wpAny_pure h
theorem ext_rev {R : Result → Shared → Prop} {I l S : Addr} {items : Array Value} {c0 : Nat} (hh : A.handled = none) (hne : l ≠ I) (hSI : S ≠ I) (hSl : S ≠ l) (hit : s.heap.IsRevIter I l ((items.size : Int) - 1)) (hl : s.heap.IsList l items) (hn : items.size ≤ sizeLine)
    (hS : s.heap.get? S = some { cls := .type "list", data := .seq #[] c0 })
    (fin : ∀ h' tk acc c, (∀ b o, b ≠ S → b ≠ I → s.heap.get? b = some o → h'.get? b = some o) → h'.get? S = some { cls := .type "list", dict := none, data := .seq acc c, slots := #[] } → ItemsOf (fun i v => items[items.size - 1 - i]? = some v) acc items.size → R (.ok (.ret .none)) { s with heap := h', toks := tk }) :
    wpAny (model prog w) A.in1 (Builtin.List.listExtendWith (.ref S) (.ref I) .none)
      (fun fn s' => match fn with | .done f => R (.ok f) s' | .again c' => c'.quiet = true ∧ codeAny (model prog w) A c' R s') (fun e s' => R (.error e) s') s := by
  have hSf : S ∉ [I, l] := by simp only [List.mem_cons, List.not_mem_nil, or_false, not_or]; exact ⟨hSI, hSl⟩
  have key : ∀ (h : Heap) (c1 : Nat), h.IsRevIter I l ((items.size : Int) - 1) → h.IsList l items → (∀ b o, b ≠ S → s.heap.get? b = some o → h.get? b = some o) → h.get? S = some { cls := .type "list", data := .seq #[] c1 } →
      codeAny (model prog w) A (.builtin "list.extend.loop" ⟨[.ref S, .ref I, .none], []⟩) R { s with heap := h } := by
    intro h c1 hi' hl' hk hS1
    refine codeAny_extend_loopS ((Walks.listRev (prog := prog) (w := w) (A := A.in1) hh I l hne items).toS) hn S hSf .none items.size 0 _ #[] c1 rfl (Nat.zero_le _) ⟨Nat.zero_le _, by simpa using hi', hl'⟩ hS1 (ItemsOf.nil _) fun s' acc c hm hS' hacc => ?_
    rw [Moved.eq_with hm]
    exact fin s'.heap s'.toks acc c (fun b o n1 n2 e => hm.heap b o (by simp only [List.mem_cons, List.not_mem_nil, or_false, not_or]; exact ⟨n1, n2⟩) (hk b o n1 e)) hS' hacc
  unfold Builtin.List.listExtendWith
  refine wpAny_bind (wpAny_typeOf hit.typeIs ?_)
  have h1 : Builtin.List.listSameRef (.ref S) (.ref I) = false := by simp [Builtin.List.listSameRef, hSI]
  have h2 : (Value.type "list_reverseiterator" == Value.type "list") = false := by decide
  have h3 : (Value.type "list_reverseiterator" == Value.type "tuple") = false := by decide
  (simp only [h1, h2, h3, Bool.or_false, Bool.false_eq_true, if_false])
  refine wpAny_bind (wpAny_pyIter_revIter hit (wpAny_bind (wpAny_holding (lri_hint hit.typeIs ?_))))
  have oth : ∀ b o, b ≠ S → s.heap.get? b = some o → ((s.heap.update S (Obj.mapSeq (·.push Value.none))).update S (Obj.mapSeq (·.pop))).get? b = some o := fun b o hb e => (Heap.get?_update_other _ _ (Ne.symm hb)).trans ((Heap.get?_update_other _ _ (Ne.symm hb)).trans e)
  refine wpAny_ite_split (fun _ => ?_) (fun _ => wpAny_pure ⟨plainId_quiet (PySem.F.plain_extend_loop) _, key _ c0 hit hl (fun b o _ e => e) hS⟩)
  refine wpAny_bind (wpAny_rule (wpAny_bind ?_))
  show wpAny _ _ (updateSeq S (·.push Value.none) >>= fun _ => updateSeq S (·.pop)) _ _ _
  refine wpAny_bind (wpAny_updateSeq hS rfl ?_)
  have g2 := Heap.get?_update_self (Obj.mapSeq (·.push Value.none)) hS rfl
  (refine wpAny_updateSeq (hz := by seq_fits) g2 rfl ?_)
  have g3 := Heap.get?_update_self (Obj.mapSeq (·.pop)) g2 rfl
  exact wpAny_pure ⟨plainId_quiet (PySem.F.plain_extend_loop) _, key _ _ (hit.at fun o e => oth I o (Ne.symm hSI) e) (hl.at fun o e => oth l o (Ne.symm hSl) e) oth g3⟩
end
end L2
set_option maxRecDepth 100000
namespace L2
open PySem PySem.Spec PyProof.Rows PyProof.Rows.LSm Geo PySem.W STab
section
variable {X : Cx} {pins : List (Addr × Obj)} {σ : St} {H : Hp} {s : Shared}
theorem Inv.newsKept {h' : Heap} {m : Str → Option Value} {t' : Nat} (I : Inv X pins σ H s) (hm : s.heap.Ns X.env.locals m) (F : Fr X.base X.env.locals h' m) (N : News X.base X.env.locals h' (allNews X.base s.heap X.env.locals)) :
    Inv X pins σ H { s with heap := h', toks := t' } := by
  have kp := news_keeps (more := []) I F N
  have neL : ∀ b u, H b = some u → b ≠ X.env.locals := fun b u e => ne_of_none e I.free
  refine I.step (g' := s.gens) (d' := s.drawn) (ch := []) (fun _ z => nomatch z) (fun b ob hb _ _ e _ => kp b ob hb e) (fun b ob hb _ _ e _ => ⟨ob.slots, kp b ob hb e⟩) (fun b ob _ e n => n) (fun b ob _ e => ?_)
    (fun b xs e => e) (fun b ob u e => e) (fun b ps e => ⟨#[], by rw [e]; simp⟩) (fun m' hm' => ?_) (fun b u e => ?_) I.bare
  · by_cases hb : b = X.env.locals
    · obtain ⟨oL, _, _, hoL, _⟩ := F.ns
      exact ⟨oL, by rw [hb]; exact hoL⟩
    · exact ⟨ob, kp b ob hb e⟩
  · rw [← ns_one hm hm']; exact F.ns
  · refine (I.hok b u e).stay (fun c v hc q => ?_) (fun c q => q) fun c xs q => q
    rcases hc with z | z
    · rw [z] at q ⊢; exact kp b v (neL b u e) q
    · exact kp c v (neL c _ z) q
theorem bools_are : ∀ {bs : List Bool} {us : List Value}, Vals (bs.map V.bl) us → BoolsAre us bs
  | [], _, .nil => .nil
  | b :: bs, _, .cons r t => by
    obtain rfl := r
    exact .cons b (bools_are t)
end
section
variable {X : Cx}
end
end L2
set_option maxRecDepth 100000
namespace L2
open PySem PySem.Spec PyProof.Rows Geo PySem.W STab
def cls (names : List (Str × NameKind)) (env : Env) (cs : List (Str × Addr)) : List (Str × Addr) := names.foldl (fun cs x => if (x.2 == NameKind.free) = true then (x.1, (env.cells.lookup x.1).getD 0) :: cs else cs) cs
theorem clos_go {env : Env} : ∀ (names : List (Str × NameKind)) (cs : List (Str × Addr)), (∀ x ∈ names, x.2 = .free → ∃ c, env.cells.lookup x.1 = some c) →
    (forIn names cs (fun x r => if (x.2 == NameKind.free) = true then do let a ← cellOf env x.1; pure (ForInStep.yield ((x.1, a) :: r)) else pure (ForInStep.yield r)) : Sem (List (Str × Addr))) = pure (cls names env cs)
  | [], cs, _ => by rw [List.forIn_nil]; rfl
  | x :: r, cs, h => by
    rw [List.forIn_cons]
    by_cases hx : (x.2 == NameKind.free) = true
    · obtain ⟨c, hc⟩ := h x List.mem_cons_self (by simpa using hx)
      have e : cellOf env x.1 = pure c := by unfold cellOf; rw [hc]
      simp only [hx, if_true, e, pure_bind]
      rw [clos_go r _ fun y hy => h y (List.mem_cons_of_mem _ hy)]
      unfold cls
      rw [List.foldl_cons, if_pos hx, hc]; rfl
    · simp only [hx, Bool.false_eq_true, if_false, pure_bind]
      rw [clos_go r _ fun y hy => h y (List.mem_cons_of_mem _ hy)]
      unfold cls
      rw [List.foldl_cons, if_neg hx]
theorem clos_eq {scope : Scope} {env : Env} (h : ∀ x ∈ scope.names, x.2 = .free → ∃ c, env.cells.lookup x.1 = some c) : closureFor scope env = pure (cls scope.names env []) := by
  have := clos_go (env := env) scope.names [] h
  unfold closureFor
  simp only [bind_pure]
  exact this
theorem cls_sub {env : Env} : ∀ (names : List (Str × NameKind)) (cs : List (Str × Addr)), (∀ x ∈ names, x.2 = .free → ∃ c, env.cells.lookup x.1 = some c) → (∀ x c, cs.lookup x = some c → env.cells.lookup x = some c) →
    ∀ x c, (cls names env cs).lookup x = some c → env.cells.lookup x = some c
  | [], cs, _, h0, x, c, e => h0 x c e
  | y :: r, cs, h, h0, x, c, e => by
    unfold cls at e
    rw [List.foldl_cons] at e
    refine cls_sub r _ (fun z hz => h z (List.mem_cons_of_mem _ hz)) ?_ x c e
    intro z d hz
    by_cases hy : (y.2 == NameKind.free) = true
    · rw [if_pos hy] at hz
      obtain ⟨c', hc'⟩ := h y List.mem_cons_self (by simpa using hy)
      rw [List.lookup_cons] at hz
      cases q : z == y.1 with
      | true =>
        rw [q] at hz
        simp only at hz
        rw [hc'] at hz; simp at hz; subst hz
        rw [eq_of_beq q]; exact hc'
      | false => rw [q] at hz; exact h0 z d hz
    · rw [if_neg hy] at hz; exact h0 z d hz
theorem cls_has {env : Env} : ∀ (names : List (Str × NameKind)) (cs : List (Str × Addr)) (x : Str), (x, NameKind.free) ∈ names ∨ (∃ c, cs.lookup x = some c) → ∃ c, (cls names env cs).lookup x = some c
  | [], cs, x, h => by
    rcases h with h | h
    · simp at h
    · exact h
  | y :: r, cs, x, h => by
    unfold cls
    rw [List.foldl_cons]
    refine cls_has r _ x ?_
    rcases h with h | ⟨c, h⟩
    · rcases List.mem_cons.mp h with z | z
      · right
        rw [← z]
        simp [List.lookup_cons]
      · exact .inl z
    · right
      by_cases hy : (y.2 == NameKind.free) = true
      · rw [if_pos hy, List.lookup_cons]
        cases q : x == y.1 with
        | true => exact ⟨_, rfl⟩
        | false => exact ⟨c, h⟩
      · rw [if_neg hy]; exact ⟨c, h⟩
def compCx (X : Cx) (N' : List Str) (scope : Scope) (C : Addr) (s3 : Shared) (H3 : Hp) (fp : List Addr) (pins : List (Addr × Obj)) : Cx where
  prog := X.prog
  w := X.w
  K := X.K
  mg := X.mg
  base := X.base
  A := X.A
  N := N'
  s₀ := s3
  H₀ := H3
  env := compEnvC scope (cls scope.names X.env []) C X.env
  outer := X.stack
  stack := X.stack
  ex := fp
  fn := fun _ => false
  calm := X.calm
  pn := X.pn ++ pins
  xe := fun _ _ => False
structure CompScope (X : Cx) (scope : Scope) (N' : List Str) (caps : List (Option Nat)) : Prop where
  kind : scope.kind = .function
  nocell : ∀ z ∈ scope.names, z.2 ≠ .cell
  names : ∀ z ∈ scope.names, z.2 = .local → scope.names.lookup z.1 = some .local
  frees : ∀ z ∈ scope.names, z.2 = .free → X.env.scope.names.lookup z.1 = some .cell
  nd : N'.Nodup
  len : caps.length = N'.length
  cap : ∀ (i j : Nat), caps[i]? = some (some j) → ∃ x : Str, N'[i]? = some x ∧ X.N[j]? = some x ∧ (x, NameKind.free) ∈ scope.names ∧ X.env.scope.names.lookup x = some .cell ∧ ((relabel scope X.env).names.lookup x = some .cell ∨ (relabel scope X.env).names.lookup x = some .free)
def capSt (caps : List (Option Nat)) (σ : St) : St := caps.map fun o => o.bind fun j => σ.getD j none
theorem relabel_look {scope : Scope} {env : Env} {x : Str} {k : NameKind} (h : (relabel scope env).names.lookup x = some k) : ∃ k', (x, k') ∈ scope.names ∧ (k = k' ∨ k' = .free) := by
  unfold relabel at h
  have hm := PySem.mem_of_lookup h
  obtain ⟨⟨n, k'⟩, h1, h2⟩ := List.mem_map.mp hm
  dsimp only at h2
  split at h2
  · rename_i hc
    cases h2
    simp only [Bool.and_eq_true, beq_iff_eq] at hc
    exact ⟨k', h1, .inr hc.1.1⟩
  · cases h2
    exact ⟨k, h1, .inl rfl⟩
section
variable {X : Cx} {pins : List (Addr × Obj)} {σ : St} {H : Hp} {s : Shared} {scope : Scope} {N' : List Str} {caps : List (Option Nat)}
theorem CompScope.cells (S : CompScope X scope N' caps) (ok : X.Ok) : ∀ z ∈ scope.names, z.2 = .free → ∃ c, X.env.cells.lookup z.1 = some c := fun z hz hf => ok.has z.1 (.inl (S.frees z hz hf))
theorem comp_enter (S : CompScope X scope N' caps) {s3 : Shared} {H3 : Hp} {h1 : Heap} {fp : List Addr} {m0 : Str → Option Value} {tk : Nat} (I : Inv X pins σ H3 s3) (hfp : ∀ b ∈ fp, FpOk X pins H3 b) (hfl : ∀ b ∈ fp, b < s3.heap.objs.size)
    (hn : h1.Ns s3.heap.objs.size m0) (kp : ∀ b o, s3.heap.get? b = some o → h1.get? b = some o) :
    Inv (compCx X N' scope s3.heap.objs.size s3 H3 fp pins) [] (capSt caps σ) H3 { s3 with heap := h1, toks := tk } := by
  have hc := S.cells I.ok
  have sub := cls_sub (env := X.env) scope.names [] hc (fun x c e => by simp at e)
  have notstk : ∀ b, b ≠ X.env.locals → b ∉ X.fs → b ∉ frs X.stack := fun b h1 h2 hb => by
    rcases List.mem_cons.mp (I.stkSub b hb) with z | z
    · exact h1 z
    · exact h2 z
  have ok : (compCx X N' scope s3.heap.objs.size s3 H3 fp pins).Ok := by
    refine ⟨I.ok.mod, S.kind, I.ok.glob, I.ok.blt, Nat.le_refl _, fun x y c e1 e2 => I.ok.inj x y c (sub x c e1) (sub y c e2), fun x hx => ?_, fun x c hf => (by cases hf), I.ok.hd, I.ok.frames, .inl rfl, fun b hb => ?_, I.bs, Nat.le_trans I.ok.bsz I.sz, fun b o e hb => ?_, fun b hb => ?_, I.stack, I.stkFree⟩
    · have hx' : (relabel scope X.env).names.lookup x = some .cell ∨ (relabel scope X.env).names.lookup x = some .free := hx
      refine cls_has scope.names [] x (.inl ?_)
      rcases hx' with z | z
      · obtain ⟨k', m1, m2⟩ := relabel_look z
        rcases m2 with m2 | m2
        · exact absurd m2.symm (S.nocell _ m1)
        · rw [m2] at m1; exact m1
      · obtain ⟨k', m1, m2⟩ := relabel_look z
        rcases m2 with m2 | m2
        · rw [← m2] at m1; exact m1
        · rw [m2] at m1; exact m1
    · exact ⟨Nat.ne_of_lt (hfl b hb), fun x c e => (hfp b hb).2.2.2.2.1 x c (sub x c e)⟩
    · obtain ⟨_, f1, f2, f3, _⟩ := hfp b hb
      rcases f3 with z | z
      · exact I.ok.noex b o e z
      · exact absurd (Nat.lt_of_lt_of_le (Heap.lt_size (I.ok.bs b o e).1) z) (Nat.lt_irrefl _)
    · exact notstk b (hfp b hb).2.1 (hfp b hb).2.2.1
  have Cn : H3 s3.heap.objs.size = none := I.hok.fresh (Nat.le_refl _)
  refine ⟨ok, rfl, I.bare, Un.kept kp, ⟨m0, hn, fun i x v e1 e2 e3 => ?_⟩, fun x c e => ?_, Cn, fun x c e => I.freeC x c (sub x c e), fun p hp => ?_, I.hok.kept kp, ?_⟩
  · -- a captured name
    have e2' : (caps.map fun o => o.bind fun j => σ.getD j none)[i]? = some (some v) := e2
    rw [List.getElem?_map] at e2'
    cases q : caps[i]? with
    | none => rw [q] at e2'; cases e2'
    | some o =>
      rw [q] at e2'
      simp only [Option.map_some, Option.some.injEq] at e2'
      cases o with
      | none => cases e2'
      | some j =>
        have e2'' : σ.getD j none = some v := e2'
        have e4 : σ[j]? = some (some v) := by
          rw [List.getD_eq_getElem?_getD] at e2''
          cases q2 : σ[j]? with
          | none => rw [q2] at e2''; cases e2''
          | some z => rw [q2] at e2''; simp at e2''; rw [e2'']
        obtain ⟨y, c1, c2, c3, c4, c5⟩ := S.cap i j q
        have e1' : N'[i]? = some x := e1
        have exy : y = x := Option.some.inj (c1.symm.trans e1')
        subst exy
        obtain ⟨m, hm, hl⟩ := I.loc
        obtain ⟨u, r, l⟩ := hl j y v c2 e4 (.inr (.inl c4))
        refine ⟨u, r, ?_⟩
        rcases l with ⟨k, _⟩ | ⟨_, c, ec, z⟩
        · have : X.env.kindOf y = some .cell := c4
          rw [this] at k; cases k
        · obtain ⟨c', hc'⟩ := cls_has (env := X.env) scope.names [] y (.inl c3)
          have := sub y c' hc'
          rw [ec] at this; cases this
          have z' : h1.IsCell c (some u) := by
            obtain ⟨ob, eo, ed⟩ := z
            exact ⟨ob, kp c ob eo, ed⟩
          exact .inr ⟨c5, c, hc', z'⟩
  · obtain ⟨v, ob, eo, ed⟩ := I.cell x c (sub x c e)
    exact ⟨v, ob, kp c ob eo, ed⟩
  · have hp' : p ∈ X.pn ++ pins := by
      have : p ∈ (X.pn ++ pins) ++ [] := hp
      simpa using this
    obtain ⟨a1, a2, a3, a4, a5⟩ := I.pin p hp'
    exact ⟨kp _ _ a1, a2, Nat.ne_of_lt (Heap.lt_size a1), notstk _ a3 a4, a5⟩
  · show (caps.map _).length = N'.length
    rw [List.length_map, S.len]
end
end L2
set_option maxRecDepth 100000
namespace L2
open PySem PySem.Spec PyProof.Rows Geo PySem.W STab
def PIf (Y : Cx) (ifs : List Expr) (t : TT) : Prop :=
  ∀ (pins : List (Addr × Obj)) (s : Shared) (σ : St) (H : Hp) (Q : Bool → Hp → Prop), Inv Y pins σ H s → t σ H Q →
    wpAny (model Y.prog Y.w) Y.A (forIn ifs true fun c r => if r = true then do let ok ← isTrue c Y.env (eval c Y.env); pure (ForInStep.yield ok) else pure (ForInStep.yield r)) (TP Y pins σ Q) Y.xe s
def tYes : TT := fun _ H Q => Q true H
theorem pif_nil {Y : Cx} : PIf Y [] tYes := fun _ _ _ H _ I h => wpAny_tests_nil ⟨H, I, h⟩
def tComp (caps : List (Option Nat)) (wi : TI) (g : TG) (tt : TT) (te : TE) : TE := fun σ H Q => wi σ H fun J H1 => ∀ D, H1 D = none →
  ∃ W : Nat → Nat → St → Hp → Prop, (∃ m, W 0 m (capSt caps σ) (upd H1 D (.lst []))) ∧ ∀ i m σ' H', W i m σ' H' →
    (J.stop i H' ∧ Q (.ref D) H') ∨ (J.go i H' ∧ ∃ N : St → Hp → Prop, (∀ σ2 H2, N σ2 H2 → ∃ m', m' < m ∧ W (i + 1) m' σ2 H2) ∧
      ∀ x H2, J.yld i H' x H2 → g x σ' H2 fun σ3 H3 => tt σ3 H3 fun ok H4 => if ok = true then te σ3 H4 fun y H5 => ∃ ys, H5 D = some (.lst ys) ∧ ys.length < sizeLine ∧ N σ3 (upd H5 D (.lst (ys ++ [y]))) else N σ3 H4)
section
variable {X : Cx} {scope : Scope} {N' : List Str} {caps : List (Option Nat)} {tg iter elt : Expr} {ifs : List Expr} {wi : TI} {g : TG} {tt : TT} {te : TE} {pos : Pos}
theorem comp_core (S : CompScope X scope N' caps) (hc : X.calm = true) (hg : ∀ C s3 H3 fp pins, PG (compCx X N' scope C s3 H3 fp pins) tg g) (ht : ∀ C s3 H3 fp pins, PIf (compCx X N' scope C s3 H3 fp pins) ifs tt) (he : ∀ C s3 H3 fp pins, PE (compCx X N' scope C s3 H3 fp pins) elt te)
    {pins : List (Addr × Obj)} {σ : St} {H : Hp} {s2 : Shared} {it : Addr} {fp : List Addr} {tn : Nat → Heap → Prop} {J : It} {Q : VK} {E : Value → Shared → Prop} {RR : Value → Addr → Result → Shared → Prop}
    (I : Inv X pins σ H s2) (T : Turn X.prog X.w X.K tg J fp it tn) (st : tn 0 s2.heap) (hfp : ∀ b ∈ fp, FpOk X pins H b)
    (rd : ∀ D, H D = none → ∃ W : Nat → Nat → St → Hp → Prop, (∃ m, W 0 m (capSt caps σ) (upd H D (.lst []))) ∧ ∀ i m σ' H', W i m σ' H' →
      (J.stop i H' ∧ Q (.ref D) H') ∨ (J.go i H' ∧ ∃ N : St → Hp → Prop, (∀ σ2 H2, N σ2 H2 → ∃ m', m' < m ∧ W (i + 1) m' σ2 H2) ∧
        ∀ x H2, J.yld i H' x H2 → g x σ' H2 fun σ3 H3 => tt σ3 H3 fun ok H4 => if ok = true then te σ3 H4 fun y H5 => ∃ ys, H5 D = some (.lst ys) ∧ ys.length < sizeLine ∧ N σ3 (upd H5 D (.lst (ys ++ [y]))) else N σ3 H4))
    (fin : ∀ D C s' H', Inv X pins σ H' s' → FpOk X pins H' C → (∃ m, s'.heap.Ns C m) → Q (.ref D) H' → RR (.ref D) C (.ok .next) s') :
    wpAny (model X.prog X.w) X.A (newList []) (fun acc s3 => wpAny (model X.prog X.w) X.A (newFunctionEnv scope X.env.globals (cls scope.names X.env []) [] X.env.qual none .none (some X.env)) (fun cenv s4 =>
      codeAny (model X.prog X.w) X.A (.compStart (.ListComp elt [⟨tg, iter, ifs, 0⟩] scope pos) 0 (.ref it) acc { cenv with scope := relabel scope X.env }) (RR acc cenv.locals) s4) E s3) E s2 := by
  have nD : H s2.heap.objs.size = none := I.hok.fresh (Nat.le_refl _)
  obtain ⟨W, ⟨m0, w0⟩, turn⟩ := rd s2.heap.objs.size nD
  have hfl : ∀ b ∈ fp, b < s2.heap.objs.size := fun b hb => by
    obtain ⟨o, e, _⟩ := T.obj 0 _ st b hb
    exact Heap.lt_size e
  refine wpAny_newObj_type ?_
  have I3 : Inv X pins σ (upd H s2.heap.objs.size (.lst [])) { s2 with heap := s2.heap.push { cls := .type "list", dict := none, data := .seq ([] : List Value).toArray } } :=
    I.laid (t' := s2.toks) (fun b u e => Heap.get?_push_of_some _ e) (Nat.le_refl _) ⟨Nat.zero_le _, [], 0, .nil, Heap.get?_push_size _ rfl⟩
  have ps : (s2.heap.push { cls := .type "list", dict := none, data := .seq ([] : List Value).toArray }).objs.size = s2.heap.objs.size + 1 := Heap.size_push ..
  refine wpAny_newFunctionEnv S.nocell (by intro y hy; simp at hy) (fun h1 hns hsb => ?_) S.kind
  dsimp only at hns hsb ⊢
  generalize hH3 : s2.heap.push { cls := .type "list", dict := none, data := .seq ([] : List Value).toArray } = G3 at I3 hns hsb ps ⊢
  have kp : ∀ b o, G3.get? b = some o → h1.get? b = some o := fun b o e => (hsb.2 b (Nat.ne_of_lt (Heap.lt_size e))).trans (Heap.get?_push_of_some _ e)
  have nfp : ∀ b ∈ fp, b ≠ s2.heap.objs.size := fun b hb => Nat.ne_of_lt (hfl b hb)
  have hfp3 : ∀ b ∈ fp, FpOk X pins (upd H s2.heap.objs.size (.lst [])) b := fun b hb => ⟨by rw [upd_ne (nfp b hb)]; exact (hfp b hb).1, (hfp b hb).2⟩
  have I4 := comp_enter (fp := fp) (tk := s2.toks + ([] : List (Str × Value)).length) S I3 hfp3 (fun b hb => by show b < G3.objs.size; rw [ps]; exact Nat.lt_succ_of_lt (hfl b hb)) hns kp
  have st4 : tn 0 h1 := T.keep _ _ _ st fun b hb o e => kp b o (by rw [← hH3]; exact Heap.get?_push_of_some _ e)
  have stat : ∀ {H' : Hp}, (∀ b ∈ fp, H' b = none) → ∀ b ∈ fp, FpOk (compCx X N' scope G3.objs.size { s2 with heap := G3 } (upd H s2.heap.objs.size (.lst [])) fp pins) [] H' b := fun {H'} hn b hb => by
    obtain ⟨f0, f1, f2, f3, f4, f5⟩ := hfp b hb
    refine ⟨hn b hb, (I4.ok.exf b hb).1, I4.ok.exfs b hb, .inl hb, (I4.ok.exf b hb).2, fun p hp => ?_⟩
    have hp' : p ∈ (X.pn ++ pins) ++ [] := hp
    exact f5 p (by simpa using hp')
  have loop : codeAny (model X.prog X.w) X.A (.compLoop (.ListComp elt [⟨tg, iter, ifs, 0⟩] scope pos) 0 (.ref it) (.ref s2.heap.objs.size) (compEnvC scope (cls scope.names X.env []) G3.objs.size X.env))
      (RR (.ref s2.heap.objs.size) G3.objs.size) { s2 with heap := h1, toks := s2.toks + ([] : List (Str × Value)).length } := by
    refine codeAny_loop rfl (fun n s' => ∃ i σ' H', Inv (compCx X N' scope G3.objs.size { s2 with heap := G3 } (upd H s2.heap.objs.size (.lst [])) fp pins) [] σ' H' s' ∧ tn i s'.heap ∧ (∀ b ∈ fp, H' b = none) ∧ W i n σ' H') (fun n s5 hI => ?_) m0
      ⟨0, _, _, I4, st4, fun b hb => (hfp3 b hb).1, w0⟩
    obtain ⟨i, σ5, H5, I5, st5, fr5, w5⟩ := hI
    show wpAny _ X.A ((compTurn (.ListComp elt [⟨tg, iter, ifs, 0⟩] scope pos) 0 (.ref it) (.ref s2.heap.objs.size) (compEnvC scope (cls scope.names X.env []) G3.objs.size X.env)).onRaise (fun x => do noteFrame x (compEnvC scope (cls scope.names X.env []) G3.objs.size X.env); theTreesLotGoes x)) _ _ s5
    refine wpAny_noted ?_
    rw [compTurn_list]
    have nox : ∀ {α : Type} {t : Sem α} {R : α → Shared → Prop} {E' : Value → Shared → Prop} {s : Shared}, wpAny (model X.prog X.w) X.A t R (fun _ _ => False) s → wpAny (model X.prog X.w) X.A t R E' s := fun h => wpAny_mono h (fun _ _ x => x) fun _ _ z => z.elim
    rcases turn i n σ5 H5 w5 with ⟨stop, qn⟩ | ⟨go, N, hN, step⟩
    · refine wpAny_bind (wpAny_standAt (wpAny_bind (nox (thn (T.done (compCx X N' scope G3.objs.size { s2 with heap := G3 } (upd H s2.heap.objs.size (.lst [])) fp pins) rfl rfl rfl hc i [] s5 σ5 H5 _ I5 (stat fr5) st5 stop) fun r s6 ⟨hr, I6⟩ => ?_))))
      subst hr
      refine wpAny_pure ?_
      have un : Un (frs X.stack) fp (upd H s2.heap.objs.size (.lst [])) H5 G3 s6.heap := I6.base
      have I7 : Inv X pins σ H5 s6 := I3.call' (ch := fp) I6.os un I6.hok I6.bare fun b hb => by
        obtain ⟨_, f1, _, f3, f4, f5⟩ := hfp b hb
        exact ⟨f3, f1, f4, f5⟩
      have fC : FpOk X pins H5 G3.objs.size := I3.fpOk (Nat.le_refl _) I6.free
      obtain ⟨mC, hmC, _⟩ := I6.loc
      exact fin _ _ s6 H5 I7 fC ⟨mC, hmC⟩ qn
    · refine wpAny_bind (wpAny_standAt (wpAny_bind (nox (thn (T.item (compCx X N' scope G3.objs.size { s2 with heap := G3 } (upd H s2.heap.objs.size (.lst [])) fp pins) rfl rfl rfl hc i [] s5 σ5 H5 _ I5 (stat fr5) st5 go) fun r s6 ⟨u, hr, h6⟩ => ?_))))
      subst hr
      dsimp only
      refine wpAny_bind (nox (thn h6 fun _ s7 ⟨x, H7, I7, r7, y7, st7, fr7⟩ => ?_))
      have I7' := I7.pinned (stat fr7) (T.obj _ _ st7)
      refine wpAny_bind (nox (thn (hg _ _ _ _ _ _ s7 σ5 H7 x u _ I7' r7 (step x H7 y7)) fun _ s8 ⟨σ8, H8, I8, q8⟩ => ?_))
      refine wpAny_bind (nox (thn (ht _ _ _ _ _ _ s8 σ8 H8 _ I8 q8) fun ok s9 ⟨H9, I9, q9⟩ => ?_))
      have again : ∀ {s10 : Shared} {H10 : Hp}, Inv (compCx X N' scope G3.objs.size { s2 with heap := G3 } (upd H s2.heap.objs.size (.lst [])) fp pins) ([] ++ pinsAt fp s7.heap) σ8 H10 s10 → N σ8 H10 →
          ∃ m, m < n ∧ ∃ i σ' H', Inv (compCx X N' scope G3.objs.size { s2 with heap := G3 } (upd H s2.heap.objs.size (.lst [])) fp pins) [] σ' H' s10 ∧ tn i s10.heap ∧ (∀ b ∈ fp, H' b = none) ∧ W i m σ' H' := fun {s10 H10} J10 n10 => by
        obtain ⟨m', hm, w10⟩ := hN σ8 H10 n10
        refine ⟨m', hm, i + 1, σ8, H10, J10.unpinned, T.keep _ _ _ st7 fun b hb o e => (J10.pin (b, o) (List.mem_append_right _ (List.mem_append_right _ (mem_pinsAt hb e)))).1, fun b hb => ?_, w10⟩
        obtain ⟨o, e, d⟩ := T.obj _ _ st7 b hb
        exact (J10.pin (b, o) (List.mem_append_right _ (List.mem_append_right _ (mem_pinsAt hb e)))).2.1
      cases ok with
      | false =>
        rw [if_neg Bool.false_ne_true] at q9
        exact wpAny_pure ⟨rfl, again I9 q9⟩
      | true =>
        rw [if_pos rfl] at q9
        refine wpAny_bind (wpAny_bind (nox (thn (he _ _ _ _ _ _ s9 σ8 H9 _ I9 q9) fun y s10 ⟨yv, H10, I10, r10, ys, hD, hz, n10⟩ => ?_)))
        refine wpAny_bind (nox (thn (mt_append (X := compCx X N' scope G3.objs.size { s2 with heap := G3 } (upd H s2.heap.objs.size (.lst [])) fp pins) _ s10 σ8 H10 (.ref s2.heap.objs.size) [yv] (.ref s2.heap.objs.size) [y] (fun _ H' => H' = upd H10 s2.heap.objs.size (.lst (ys ++ [yv]))) I10 rfl (.cons r10 .nil)
          ⟨s2.heap.objs.size, ys, yv, rfl, rfl, hD, hz, rfl⟩) fun _ s11 ⟨_, H11, I11, _, e11⟩ => ?_))
        subst e11
        exact wpAny_pure (wpAny_pure ⟨rfl, again I11 n10⟩)
  exact codeAny_compStart_list loop (T.self X.A 0 _ _ _ st4 loop)
theorem pe_comp (S : CompScope X scope N' caps) (hc : X.calm = true) (hi : PI X tg iter wi) (hg : ∀ C s3 H3 fp pins, PG (compCx X N' scope C s3 H3 fp pins) tg g) (ht : ∀ C s3 H3 fp pins, PIf (compCx X N' scope C s3 H3 fp pins) ifs tt) (he : ∀ C s3 H3 fp pins, PE (compCx X N' scope C s3 H3 fp pins) elt te)
    (hs : ∀ x, foldedSetIterable iter X.env x = pure x := by intro _; rfl) : PE X (.ListComp elt [⟨tg, iter, ifs, 0⟩] scope pos) (tComp caps wi g tt te) := by
  intro pins s σ H Q I h
  rw [eval_ListComp]
  refine wpAny_comprehension_free (use := none) rfl hs (clos_eq (S.cells I.ok)) S.kind S.names (thn (hi pins s σ H _ I h) fun v s1 h1 => thn h1 fun itv s2 h2 => ?_)
  obtain ⟨it, fp, tn, J, H2, e, I2, T, st2, f2, rd⟩ := h2
  subst e
  refine comp_core S hc hg ht he I2 T st2 f2 rd fun D C s' H' I' fC hm q => ?_
  obtain ⟨m, hm⟩ := hm
  obtain ⟨f0, f1, _, f3, f4, f5⟩ := fC
  exact ⟨m, hm, fun h' sb => ⟨.ref D, H', I'.turned (t' := s'.toks) (fun b o hb e => (sb.2 b hb).trans e) f0 f1 f3 f4 f5, rfl, q⟩⟩
theorem ps_setC {i : Nat} {x : Str} {pos' spos : Pos} (hN : X.N.Nodup) (hi' : X.N[i]? = some x) (hx : X.env.scope.names.lookup x = some .local) (S : CompScope X scope N' caps) (hc : X.calm = true) (hi : PI X tg iter wi) (hg : ∀ C s3 H3 fp pins, PG (compCx X N' scope C s3 H3 fp pins) tg g)
    (ht : ∀ C s3 H3 fp pins, PIf (compCx X N' scope C s3 H3 fp pins) ifs tt) (he : ∀ C s3 H3 fp pins, PE (compCx X N' scope C s3 H3 fp pins) elt te) (hsw : swapsWith (.ListComp elt [⟨tg, iter, ifs, 0⟩] scope pos) (some (.Name x pos')) spos.line X.env = pure true)
    (hs : ∀ x, foldedSetIterable iter X.env x = pure x := by intro _; rfl) : PS X (.Assign [.Name x pos'] (.ListComp elt [⟨tg, iter, ifs, 0⟩] scope pos) spos) (tAsg (tComp caps wi g tt te) (gName i)) := by
  intro pins s σ H D I h
  rw [exec_Assign_Name_used _ _ _ _ hsw]
  refine wpAny_bind (wpAny_standAt (wpAny_bind ?_))
  show wpAny _ X.A (comprehension (.ListComp elt [⟨tg, iter, ifs, 0⟩] scope pos) scope X.env _ (newList []) false (eval iter X.env) (some (assign (.Name x pos') X.env)) >>= fun _ => pure ()) _ _ s
  refine wpAny_bind (thn (Q := fun _ s' => SP X pins D .next s') (wpAny_comprehension_free (use := some (assign (.Name x pos') X.env)) rfl hs (clos_eq (S.cells I.ok)) S.kind S.names
    (thn (hi pins s σ H _ I h) fun v s1 h1 => thn h1 fun itv s2 h2 => ?_)) fun _ s' hq => wpAny_pure (wpAny_pure hq))
  obtain ⟨it, fp, tn, J, H2, e, I2, T, st2, f2, rd⟩ := h2
  subst e
  refine comp_core (Q := fun x H1 => gName i x σ H1 D.nx) (RR := fun acc C => compPost (model X.prog X.w) X.A X.xe (some (assign (.Name x pos') X.env)) (fun _ s' => SP X pins D .next s') acc C) S hc hg ht he I2 T st2 f2 rd fun D' C s' H' I' fC hm q => ?_
  obtain ⟨m, hm⟩ := hm
  obtain ⟨f0, f1, f2', f3, f4, f5⟩ := fC
  show wpAny _ X.A (assign (.Name x pos') X.env (.ref D')) _ _ _
  refine wpAny_assign_Name (store_ok2 I' hN hi' (.inl hx) (v := .ref D') (u := .ref D') rfl (fun s'' I'' ⟨a, sb, ha⟩ => ?_) (.inr hx))
  have nC : C ≠ a := by
    rcases ha with z | z
    · rw [z]; exact f1
    · exact fun q => f4 x a z q.symm
  refine ⟨m, hm.sameBut sb nC, fun h' sb' => ?_⟩
  exact ⟨_, H', I''.turned (t' := s''.toks) (fun b o hb e => (sb'.2 b hb).trans e) f0 f1 f3 f4 f5, q⟩
end
end L2
set_option maxRecDepth 100000
namespace L2
open PySem Geo
theorem Same.keep {H H' : Hp} (h : Same H H') : Keep H H' := fun a xs e => h a _ e
theorem same_upd {H H' : Hp} {r : Addr} {o : HO} (h : Same H H') (n : H r = none) : Same H (upd H' r o) := fun b u e => by rw [upd_ne (ne_of_none e n)]; exact h b u e
theorem mulOk (i j : Int) (h1 : -3000 ≤ i) (h2 : i ≤ 3000) : CMul i j := .inl ⟨Int.lt_of_lt_of_le (by decide) h1, Int.lt_of_le_of_lt h2 (by decide)⟩
theorem IsPt.same {H H' : Hp} {v : V} {p : Pt} (h : IsPt H v p) (s : Same H H') : IsPt H' v p := IsPt.keep h (Same.keep s)
theorem comp_list {K : PySem.W.Frag} {a D : Addr} {xs : List V} {g : TG} {tt : TT} {te : TE} {R : Hp → Prop} {σ0 : St} {H : Hp} (Pv : Nat → St → Hp → Prop) (h0 : Pv 0 σ0 H) (hl : ∀ i σ H, i ≤ xs.length → Pv i σ H → SqL K H a xs)
    (hs : ∀ i x σ H, xs[i]? = some x → Pv i σ H → g x σ H fun σ3 H3 => tt σ3 H3 fun ok H4 => if ok = true then te σ3 H4 fun y H5 => ∃ ys, H5 D = some (.lst ys) ∧ ys.length < sizeLine ∧ Pv (i + 1) σ3 (upd H5 D (.lst (ys ++ [y]))) else Pv (i + 1) σ3 H4)
    (hd : ∀ σ H, Pv xs.length σ H → R H) :
    ∃ W : Nat → Nat → St → Hp → Prop, (∃ m, W 0 m σ0 H) ∧ ∀ i m σ' H', W i m σ' H' →
      ((Itl K a).stop i H' ∧ R H') ∨ ((Itl K a).go i H' ∧ ∃ N : St → Hp → Prop, (∀ σ2 H2, N σ2 H2 → ∃ m', m' < m ∧ W (i + 1) m' σ2 H2) ∧
        ∀ x H2, (Itl K a).yld i H' x H2 → g x σ' H2 fun σ3 H3 => tt σ3 H3 fun ok H4 => if ok = true then te σ3 H4 fun y H5 => ∃ ys, H5 D = some (.lst ys) ∧ ys.length < sizeLine ∧ N σ3 (upd H5 D (.lst (ys ++ [y]))) else N σ3 H4) := by
  refine ⟨fun i m σ H => m = xs.length - i ∧ i ≤ xs.length ∧ Pv i σ H, ⟨xs.length, by simp, Nat.zero_le _, h0⟩, ?_⟩
  rintro i m σ H ⟨rfl, hi, p⟩
  have q := hl i σ H hi p
  by_cases hlt : i < xs.length
  · refine .inr ⟨⟨xs, xs[i], q, by simp [hlt]⟩, Pv (i + 1), fun σ' H' p' => ⟨xs.length - (i + 1), by omega, rfl, hlt, p'⟩, fun x H' y => ?_⟩
    obtain ⟨e, y⟩ := y
    subst e
    exact hs i x σ _ (y xs q) p
  · have e : i = xs.length := by omega
    subst e
    exact .inl ⟨⟨xs, q, Nat.le_refl _⟩, hd σ H p⟩
def ifBody : Stmt → List Stmt
  | .If _ b _ _ => b
  | _ => []
def asgVal : Stmt → Expr
  | .Assign _ v _ => v
  | _ => .Constant .none 0 ⟨0, 0, 0, 0⟩
def lcScope (d : Scope) : Expr → Scope
  | .ListComp _ _ s _ => s
  | _ => d
def nth (l : List Stmt) (i : Nat) : Stmt := l.getD i (.Pass ⟨0, 0, 0, 0⟩)
theorem ixt {X : Cx} {K' : PySem.W.Frag} (h : X.K = K') : IxR X (rIxT K') := h ▸ ix_tup
end L2
set_option maxRecDepth 100000
namespace L2
open PySem PySem.Spec PyProof.Rows Geo
section
variable {X : Cx} {pins : List (Addr × Obj)} {σ : St} {H : Hp} {s : Shared} {h' : Heap}
end
theorem comp_range {lo : Int} {n : Nat} {D : Addr} {g : TG} {tt : TT} {te : TE} {R : Hp → Prop} {σ0 : St} {H : Hp} (Pv : Nat → St → Hp → Prop) (h0 : Pv 0 σ0 H)
    (hs : ∀ i σ H, i < n → Pv i σ H → g (.int (lo + i)) σ H fun σ3 H3 => tt σ3 H3 fun ok H4 => if ok = true then te σ3 H4 fun y H5 => ∃ ys, H5 D = some (.lst ys) ∧ ys.length < sizeLine ∧ Pv (i + 1) σ3 (upd H5 D (.lst (ys ++ [y]))) else Pv (i + 1) σ3 H4)
    (hd : ∀ σ H, Pv n σ H → R H) :
    ∃ W : Nat → Nat → St → Hp → Prop, (∃ m, W 0 m σ0 H) ∧ ∀ i m σ' H', W i m σ' H' →
      ((Itr lo n).stop i H' ∧ R H') ∨ ((Itr lo n).go i H' ∧ ∃ N : St → Hp → Prop, (∀ σ2 H2, N σ2 H2 → ∃ m', m' < m ∧ W (i + 1) m' σ2 H2) ∧
        ∀ x H2, (Itr lo n).yld i H' x H2 → g x σ' H2 fun σ3 H3 => tt σ3 H3 fun ok H4 => if ok = true then te σ3 H4 fun y H5 => ∃ ys, H5 D = some (.lst ys) ∧ ys.length < sizeLine ∧ N σ3 (upd H5 D (.lst (ys ++ [y]))) else N σ3 H4) := by
  refine ⟨fun i m σ H => m = n - i ∧ i ≤ n ∧ Pv i σ H, ⟨n, by simp, Nat.zero_le _, h0⟩, ?_⟩
  rintro i m σ H ⟨rfl, hi, p⟩
  by_cases hlt : i < n
  · refine .inr ⟨hlt, Pv (i + 1), fun σ' H' p' => ⟨n - (i + 1), by omega, rfl, hlt, p'⟩, fun x H' y => ?_⟩
    obtain ⟨e, y⟩ := y
    subst e y
    exact hs i σ _ hlt p
  · have e : i = n := by omega
    subst e
    exact .inl ⟨Nat.le_refl _, hd σ H p⟩
end L2
set_option maxRecDepth 100000
namespace L2
open PySem PySem.Spec PyProof.Rows Geo
def IsTri (H : Hp) (v : V) (t : Tri) : Prop := ∃ a, v = .ref a ∧ H a = some (.tup [.int t.1, .int t.2.1, .int t.2.2])
abbrev AreTri (H : Hp) : List V → List Tri → Prop := Paired (IsTri H)
theorem IsTri.keep {H H' : Hp} {v : V} {p : Tri} (h : IsTri H v p) (k : Keep H H') : IsTri H' v p := by
  obtain ⟨a, e, h⟩ := h; exact ⟨a, e, k _ _ h⟩
theorem IsTri.same {H H' : Hp} {v : V} {p : Tri} (h : IsTri H v p) (k : Same H H') : IsTri H' v p := h.keep k.keep
theorem AreTri.keep {H H' : Hp} {vs : List V} {ps : List Tri} (h : AreTri H vs ps) (k : Keep H H') : AreTri H' vs ps := Paired.mapP h fun _ _ z => z.keep k
theorem AreTri.same {H H' : Hp} {vs : List V} {ps : List Tri} (h : AreTri H vs ps) (k : Same H H') : AreTri H' vs ps := h.keep k.keep
theorem ArePts.same {H H' : Hp} {vs : List V} {ps : List Pt} (h : ArePts H vs ps) (k : Same H H') : ArePts H' vs ps := ArePts.keep h k.keep
def IsSh (H : Hp) (v : V) (e : Pt × Int) : Prop := ∃ a c, v = .ref a ∧ H a = some (.tup [c, .int e.2]) ∧ IsPt H c e.1
abbrev AreSh (H : Hp) : List V → List (Pt × Int) → Prop := Paired (IsSh H)
theorem IsSh.keep {H H' : Hp} {v : V} {p : Pt × Int} (h : IsSh H v p) (k : Keep H H') : IsSh H' v p := by
  obtain ⟨a, c, e, h, h2⟩ := h; exact ⟨a, c, e, k _ _ h, h2.keep k⟩
theorem AreSh.same {H H' : Hp} {vs : List V} {ps : List (Pt × Int)} (h : AreSh H vs ps) (k : Same H H') : AreSh H' vs ps := Paired.mapP h fun _ _ z => z.keep k.keep
theorem cut_tail (xs : List V) : cutV xs (some 1) none = xs.drop 1 := by
  unfold cutV
  have : HT.sIx xs.length 0 (some 1) = min 1 xs.length := rfl
  rw [show HT.sIx xs.length xs.length none = xs.length from rfl, this]
  cases xs with
  | nil => rfl
  | cons a r => simp
end L2
namespace L2
open PySem
theorem take_snoc {α : Type} {l : List α} {i : Nat} {x : α} (h : l[i]? = some x) : l.take (i + 1) = l.take i ++ [x] := by rw [List.take_add_one, h]; rfl
end L2
set_option maxRecDepth 100000
set_option linter.all false
namespace L2
open PySem PySem.Spec PyProof.Rows
section
variable {κ : Type} [DecidableEq κ]
def valV (kvs : List (κ × V)) (k : κ) : Option V := (kvs.find? fun kv => decide (kv.1 = k)).map (·.2)
def putK (kvs : List (κ × V)) (k : κ) (v : V) : List (κ × V) :=
  if (kvs.any fun kv => decide (kv.1 = k)) = true then kvs.map (fun kv => if kv.1 = k then (kv.1, v) else kv) else kvs ++ [(k, v)]
def dropK (kvs : List (κ × V)) (k : κ) : List (κ × V) := kvs.filter fun kv => decide (kv.1 ≠ k)
theorem valV_pos {p : κ × V} {r : List (κ × V)} {k : κ} (e : p.1 = k) : valV (p :: r) k = some p.2 := by simp [valV, List.find?_cons, e]
theorem valV_neg {p : κ × V} {r : List (κ × V)} {k : κ} (e : ¬ p.1 = k) : valV (p :: r) k = valV r k := by simp [valV, List.find?_cons, e]
theorem RelO.getD {o : Option V} {u : Option Value} {d : V} {d' : Value} (r : RelO o u) (rd : RelV d d') : RelV (o.getD d) (u.getD d') := by
  cases o with
  | none => cases u with
    | none => exact rd
    | some _ => exact (show False from r).elim
  | some _ => cases u with
    | none => exact (show False from r).elim
    | some _ => exact r
theorem KV.val {kvs : List (κ × V)} {vs : List (κ × Value)} (r : KV kvs vs) (k : κ) : RelO (valV kvs k) (valueAt vs k) := by
  unfold KV at r
  induction r with
  | nil => exact True.intro
  | @cons p q ps qs h t ih =>
    obtain ⟨h1, h2⟩ := h
    by_cases e : p.1 = k
    · have e' : q.1 = k := h1.symm.trans e
      have b : valueAt (q :: qs) k = some q.2 := by simp [valueAt, List.find?_cons, e']
      rw [valV_pos e, b]; exact h2
    · have e' : ¬ q.1 = k := fun z => e (h1.trans z)
      have b : valueAt (q :: qs) k = valueAt qs k := by simp [valueAt, List.find?_cons, e']
      rw [valV_neg e, b]; exact ih
theorem KV.any {kvs : List (κ × V)} {vs : List (κ × Value)} (r : KV kvs vs) (k : κ) : (kvs.any fun kv => decide (kv.1 = k)) = vs.any fun kv => decide (kv.1 = k) := by
  unfold KV at r
  induction r with
  | nil => rfl
  | cons h t ih => rw [List.any_cons, List.any_cons, ih, h.1]
theorem KV.drop {kvs : List (κ × V)} {vs : List (κ × Value)} (r : KV kvs vs) (k : κ) : KV (dropK kvs k) (without vs k) := by
  unfold KV at r ⊢
  unfold dropK without
  induction r with
  | nil => exact .nil
  | @cons p q ps qs h t ih =>
    obtain ⟨h1, h2⟩ := h
    rw [List.filter_cons, List.filter_cons]
    by_cases e : p.1 = k
    · have a : ¬ decide (p.1 ≠ k) = true := by simp [e]
      have b : ¬ decide (q.1 ≠ k) = true := by simp [h1.symm.trans e]
      rw [if_neg a, if_neg b]; exact ih
    · have e' : ¬ q.1 = k := fun z => e (h1.trans z)
      have a : decide (p.1 ≠ k) = true := by simp [e]
      have b : decide (q.1 ≠ k) = true := by simp [e']
      rw [if_pos a, if_pos b]; exact .cons ⟨h1, h2⟩ ih
theorem KV.keys {kvs : List (κ × V)} {vs : List (κ × Value)} (r : KV kvs vs) : kvs.map (·.1) = vs.map (·.1) := by
  unfold KV at r
  induction r with
  | nil => rfl
  | cons h t ih => rw [List.map_cons, List.map_cons, ih, h.1]
theorem KV.length {kvs : List (κ × V)} {vs : List (κ × Value)} (r : KV kvs vs) : kvs.length = vs.length := Paired.length r
end
abbrev KT (H : Hp) : List (List Key × V) → List (List Key × Addr × Value) → Prop := Paired fun p q => p.1 = q.1 ∧ H q.2.1 = some (.tup (p.1.map kV)) ∧ RelV p.2 q.2.2
theorem KT.val {H : Hp} {kvs : List (List Key × V)} {xs : List (List Key × Addr × Value)} (r : KT H kvs xs) (k : List Key) : RelO (valV kvs k) ((atKey xs k).map (·.2)) := by
  induction r with
  | nil => exact True.intro
  | @cons p q ps qs h t ih =>
    obtain ⟨h1, _, h2⟩ := h
    by_cases e : p.1 = k
    · have e' : q.1 = k := h1.symm.trans e
      have b : atKey (q :: qs) k = some q.2 := by simp [atKey, List.find?_cons, e']
      rw [valV_pos e, b]; exact h2
    · have e' : ¬ q.1 = k := fun z => e (h1.trans z)
      have b : atKey (q :: qs) k = atKey qs k := by simp [atKey, List.find?_cons, e']
      rw [valV_neg e, b]; exact ih
theorem KT.keeps {H H' : Hp} {kvs : List (List Key × V)} {xs : List (List Key × Addr × Value)} (r : KT H kvs xs) (ht : ∀ b ys, H b = some (.tup ys) → H' b = some (.tup ys)) : KT H' kvs xs :=
  Paired.mapP r fun _ _ z => ⟨z.1, ht _ _ z.2.1, z.2.2⟩
section
variable {P : Program} {w : World} {H : Hp} {h : Heap} {a : Addr}
end
def DGet (H : Hp) (a : Addr) (y : V) (r : Option V) : Prop :=
  (∃ kvs k, Rd H a (.dK kvs) ∧ y = kV k ∧ r = valV kvs k) ∨ ∃ kvs k b, Rd H a (.dT kvs) ∧ y = .ref b ∧ H b = some (.tup (k.map kV)) ∧ r = valV kvs k
def DPut (H : Hp) (a : Addr) (y v : V) (H' : Hp) : Prop :=
  (∃ kvs k, H a = some (.dK kvs) ∧ y = kV k ∧ kvs.length < sizeLine ∧ H' = upd H a (.dK (putK kvs k v))) ∨
  ∃ kvs k b, H a = some (.dT kvs) ∧ y = .ref b ∧ H b = some (.tup (k.map kV)) ∧ kvs.length < sizeLine ∧ H' = upd H a (.dT (putK kvs k v))
theorem DGet.k {H : Hp} {a : Addr} {kvs : List (Key × V)} {k : Key} (e : H a = some (.dK kvs)) : DGet H a (kV k) (valV kvs k) := .inl ⟨kvs, k, .inl e, rfl, rfl⟩
theorem DGet.t {H : Hp} {a b : Addr} {kvs : List (List Key × V)} {k : List Key} (e : H a = some (.dT kvs)) (eb : H b = some (.tup (k.map kV))) : DGet H a (.ref b) (valV kvs k) := .inr ⟨kvs, k, b, .inl e, rfl, eb, rfl⟩
theorem DPut.k {H : Hp} {a : Addr} {kvs : List (Key × V)} {k : Key} {v : V} (e : H a = some (.dK kvs)) (hl : kvs.length < sizeLine) : DPut H a (kV k) v (upd H a (.dK (putK kvs k v))) := .inl ⟨kvs, k, e, rfl, hl, rfl⟩
theorem DPut.t {H : Hp} {a b : Addr} {kvs : List (List Key × V)} {k : List Key} {v : V} (e : H a = some (.dT kvs)) (eb : H b = some (.tup (k.map kV))) (hl : kvs.length < sizeLine) :
    DPut H a (.ref b) v (upd H a (.dT (putK kvs k v))) := .inr ⟨kvs, k, b, e, rfl, eb, hl, rfl⟩
section
variable {X : Cx} {pins : List (Addr × Obj)} {σ : St} {H : Hp} {s : Shared} {a : Addr} {y v : V} {u r : Value} {o : Option V} {A : Around} {E : Value → Shared → Prop}
theorem Inv.big (I : Inv X pins σ H s) : sysModules < s.heap.objs.size := by
  have h : mainGlobals < s.heap.objs.size := (I.mod.glob.keeps I.bk).lt
  exact Nat.lt_trans (by decide) h
end
section
variable {X : Cx} {pins : List (Addr × Obj)} {σ : St} {H : Hp} {s : Shared} {a : Addr} {kvs : List (Key × V)} {k : Key} {u : Value} {A : Around} {E : Value → Shared → Prop}
end
section
variable {X : Cx} {o i e value : Expr} {pos pos' tpos : Pos} {td ty tv : TE}
end
section
variable {X : Cx} {pos : Pos}
end
structure M1 (X : Cx) (o : Expr) (m : Str) (apos : Pos) (e : Expr) (cpos : Pos) : Prop where
  base : attributeBase o m X.env (eval o X.env) = eval o X.env
  few : ((backTo cpos (starEach [e] X.env)).all (fun x => !x.1) && (backToKw cpos (keywordEach [] X.env)).all (fun x => x.1.isSome)
    && decide (([e] : List Expr).length + ([] : List Keyword).length + (if ([] : List Keyword).isEmpty then 0 else 1) < 30)) = true
  line : (apos.endLine == cpos.line) = true
  trees : backTo cpos (starEach [e] X.env) = [(false, eval e X.env)]
structure M2 (X : Cx) (o : Expr) (m : Str) (apos : Pos) (e f : Expr) (cpos : Pos) : Prop where
  base : attributeBase o m X.env (eval o X.env) = eval o X.env
  few : ((backTo cpos (starEach [e, f] X.env)).all (fun x => !x.1) && (backToKw cpos (keywordEach [] X.env)).all (fun x => x.1.isSome)
    && decide (([e, f] : List Expr).length + ([] : List Keyword).length + (if ([] : List Keyword).isEmpty then 0 else 1) < 30)) = true
  line : (apos.endLine == cpos.line) = true
  trees : backTo cpos (starEach [e, f] X.env) = [(false, eval e X.env), (false, eval f X.env)]
section
variable {X : Cx} {pins : List (Addr × Obj)} {σ : St} {H : Hp} {s : Shared} {a : Addr} {y d : V} {u r : Value} {o : Option V} {A : Around} {E : Value → Shared → Prop}
end
section
variable {X : Cx} {o e f : Expr} {apos cpos : Pos} {td ty tx : TE}
end
section
variable {X : Cx} {pins : List (Addr × Obj)} {σ : St} {H : Hp} {s : Shared} {a : Addr} {kvs : List (Key × V)} {A : Around} {E : Value → Shared → Prop}
end
section
variable {X : Cx} {pins : List (Addr × Obj)} {σ : St} {H : Hp} {s : Shared} {a : Addr} {y : V} {u : Value} {A : Around} {E : Value → Shared → Prop}
end
end L2
namespace L2
open PySem PySem.Spec PyProof.Rows
section
variable {X : Cx}
end
section
variable {κ : Type} [DecidableEq κ]
end
end L2
set_option maxRecDepth 100000
namespace L2
open PySem PySem.Spec PyProof.Rows Geo
section
variable {prog : Program} {w : World} {A : Around} {E : Value → Shared → Prop} {s : Shared}
structure Feed (prog : Program) (w : World) (A : Around) (it S : Addr) (n : Nat) (J : Nat → List Value → Heap → Prop) (Fin : List Value → Heap → Prop) : Prop where
  off : ∀ i acc h h', J i acc h → (∀ b o, b ≠ S → h.get? b = some o → h'.get? b = some o) → J i acc h'
  item : ∀ i acc (s : Shared) (Q : Option Value → Shared → Prop) (E : Value → Shared → Prop), i < n → J i acc s.heap → (∃ o, s.heap.get? S = some o) →
    (∀ v h' tk, J (i + 1) (acc ++ [v]) h' → (∀ o, s.heap.get? S = some o → h'.get? S = some o) → Q (some v) { s with heap := h', toks := tk }) → wpAny (model prog w) A (pyNext (.ref it)) Q E s
  done : ∀ acc (s : Shared) (Q : Option Value → Shared → Prop) (E : Value → Shared → Prop), J n acc s.heap →
    (∀ h' tk, Fin acc h' → (∀ o, s.heap.get? S = some o → h'.get? S = some o) → Q none { s with heap := h', toks := tk }) → wpAny (model prog w) A (pyNext (.ref it)) Q E s
end
end L2
set_option maxRecDepth 100000
namespace L2
open PySem PySem.Spec PyProof.Rows Geo
section
variable {prog : Program} {w : World} {A : Around} {E : Value → Shared → Prop} {s : Shared}
end
end L2
set_option maxRecDepth 100000
namespace L2
open PySem PySem.Spec PyProof.Rows Geo
section
variable {prog : Program} {w : World} {A : Around} {E : Value → Shared → Prop} {s : Shared}
end
end L2
set_option maxRecDepth 100000
namespace L2
open PySem PySem.Spec PyProof.Rows Geo PySem.W
section
variable {prog : Program} {w : World} {A : Around} {E : Value → Shared → Prop} {s : Shared}
end
end L2
set_option maxRecDepth 100000
namespace L2
open PySem PySem.Spec PyProof.Rows Geo PySem.W
section
variable {prog : Program} {w : World} {A : Around} {E : Value → Shared → Prop} {s : Shared}
end
end L2
set_option maxRecDepth 100000
namespace L2
open PySem PySem.Spec PyProof.Rows Geo
end L2
set_option maxRecDepth 100000
namespace L2
open PySem PySem.Spec PyProof.Rows Geo PySem.W STab
section
variable {A : Around} {s : Shared}
end
section
variable {X : Cx}
def rNotInP2 (K : PySem.W.Frag) : R2 := fun x y H Q => ∃ a b c d xs us vs ps qs rs, x = .ref a ∧ y = .ref b ∧ SqL K H b [.ref c, .ref d] ∧ SqL K H a xs ∧ ArePts H xs ps ∧ SqL K H c us ∧ ArePts H us qs ∧ SqL K H d vs ∧ ArePts H vs rs ∧ c ≠ d ∧ c ≠ a ∧ d ≠ a ∧ Q (.bl (!(decide (qs = ps) || decide (rs = ps)))) H
theorem op_notInP2 (hu : X.A.units + 16 < cLine) : OpR X (compareOp .NotIn) (rNotInP2 X.K) := by
  intro pins s σ H x y v u Q I rx ry h
  obtain ⟨a, b, c, d, xs, us, vs, ps, qs, rs, rfl, rfl, hb, ha, hp, hc, hq, hd, hr, cd, ca, da, k⟩ := h
  obtain rfl := rx
  obtain rfl := ry
  obtain ⟨is, r0, l0, _⟩ := I.list hb
  obtain ⟨xs', r1, l1, _⟩ := I.list ha
  obtain ⟨us', r2, l2, _⟩ := I.list hc
  obtain ⟨vs', r3, l3, _⟩ := I.list hd
  cases r0 with
  | cons e0 r0 =>
    cases r0 with
    | cons e1 r0 =>
      cases r0
      obtain rfl := e0
      obtain rfl := e1
      refine SeqAt.notIn_listAt (fun u => match u with | .ref z => if z = c then decide (qs = ps) else decide (rs = ps) | _ => false) l0.isList (fun w hw => ?_) ⟨.bl _, H, I, rfl, ?_⟩
      · have hw' : w = .ref c ∨ w = .ref d := by simpa using hw
        rcases hw' with e | e
        · subst e
          dsimp only
          rw [if_pos rfl]
          exact SeqAt.EqAt.of_refs ca (rc_pts (by show X.A.units + 1 + 1 < cLine; omega) l2.isList l1.isList (I.tupsAt r2 hq) (I.tupsAt r1 hp))
        · subst e
          dsimp only
          rw [if_neg (Ne.symm cd)]
          exact SeqAt.EqAt.of_refs da (rc_pts (by show X.A.units + 1 + 1 < cLine; omega) l3.isList l1.isList (I.tupsAt r3 hr) (I.tupsAt r1 hp))
      · simp only [List.any_toArray, List.any_cons, List.any_nil, Bool.or_false, if_pos, if_neg (Ne.symm cd)]
        exact k
end
end L2
set_option maxRecDepth 100000
namespace L2
open PySem PySem.Spec PyProof.Rows Geo PySem.W STab SeqAt
def firstLt (e lt : Nat → Bool) : List Nat → Bool
  | [] => false
  | i :: r => if e i then firstLt e lt r else lt i
section
variable {prog : Program} {w : World} {A : Around} {R : Result → Shared → Prop} {I S : Addr} {fp wr : List Addr} {n : Nat} {P : Nat → Value → Prop} {St : Nat → Heap → Prop} {Kp : Heap → Prop} {bt : Nat → Nat → Bool}
abbrev two (S : Addr) (v : Value) (c : Nat) (h : Heap) : Prop := h.get? S = some { cls := .type "list", dict := none, data := .seq #[v, v] c, slots := #[] }
end
section
variable {prog : Program} {w : World} {A : Around} {E : Value → Shared → Prop} {s : Shared} {l : Addr} {xs : Array Value} {bt : Nat → Nat → Bool}
end
section
variable {A : Around} {s : Shared}
def TriAt (h : Heap) (u : Value) (t : Tri) : Prop := ∃ (b : Addr) (o : Obj) (a1 a2 a3 : Tok) (n : Nat), u = .ref b ∧ h.get? b = some o ∧ o.cls = .type "tuple" ∧ o.data = .seq #[.int t.1 a1, .int t.2.1 a2, .int t.2.2 a3] n
def CntAt (h : Heap) (u : Value) (c : Int × Tri) : Prop := ∃ (b : Addr) (o : Obj) (a1 : Tok) (v : Value) (n : Nat), u = .ref b ∧ h.get? b = some o ∧ o.cls = .type "tuple" ∧ o.data = .seq #[.int c.1 a1, v] n ∧ TriAt h v c.2
theorem TriAt.keep {h h' : Heap} {u : Value} {t : Tri} (x : TriAt h u t) (k : ∀ b o, h.get? b = some o → h'.get? b = some o) : TriAt h' u t := by
  obtain ⟨b, o, a1, a2, a3, n, e, g, c, d⟩ := x; exact ⟨b, o, a1, a2, a3, n, e, k _ _ g, c, d⟩
theorem CntAt.keep {h h' : Heap} {u : Value} {c : Int × Tri} (x : CntAt h u c) (k : ∀ b o, h.get? b = some o → h'.get? b = some o) : CntAt h' u c := by
  obtain ⟨b, o, a1, v, n, e, g, q, d, t⟩ := x; exact ⟨b, o, a1, v, n, e, k _ _ g, q, d, t.keep k⟩
theorem TriAt.inj {h : Heap} {u : Value} {t t' : Tri} (x : TriAt h u t) (y : TriAt h u t') : t = t' := by
  obtain ⟨b, o, a1, a2, a3, n, rfl, g, c, d⟩ := x
  obtain ⟨b', o', a1', a2', a3', n', e', g', c', d'⟩ := y
  cases e'
  rw [g] at g'; cases g'
  rw [d] at d'
  injection d' with d1 _
  have d2 := congrArg Array.toList d1
  simp at d2
  exact Prod.ext d2.1.1 (Prod.ext d2.2.1.1 d2.2.2.1)
end
section
variable {X : Cx} {pins : List (Addr × Obj)} {σ : St} {H : Hp} {s : Shared}
end
end L2
set_option maxRecDepth 100000
namespace L2
open PySem PySem.Spec PyProof.Rows PySem.Builtin PySem.Builtin.Str
theorem strs_of : ∀ {zs : List Str} {us : List Value}, Vals (zs.map V.str) us → ∃ l : List (Str × Tok), us = strValues l ∧ l.map (·.1) = zs
  | [], us, r => by rw [List.map_nil] at r; cases r; exact ⟨[], rfl, rfl⟩
  | z :: zs, us, r => by
    rw [List.map_cons] at r
    cases r with
    | cons r1 r2 =>
      obtain ⟨t, rfl⟩ := r1
      obtain ⟨l, rfl, e⟩ := strs_of r2
      exact ⟨(z, t) :: l, rfl, by rw [List.map_cons, e]⟩
theorem vals_strs : ∀ (l : List (Str × Tok)), Vals ((l.map (·.1)).map V.str) (strValues l)
  | [] => .nil
  | (_, t) :: l => .cons ⟨t, rfl⟩ (vals_strs l)
section
variable {X : Cx}
theorem mt_join : MtR X "str.join" (fun x xs H Q => ∃ sep p zs, x = .str sep ∧ xs = [.ref p] ∧ SqL X.K H p (zs.map V.str) ∧ JoinOk sep zs = true ∧ Q (.str (Txt.join sep zs)) H) := by
  intro pins s σ H x xs v us Q I rx rv h
  obtain ⟨sep, p, zs, rfl, rfl, hq, hok, k⟩ := h
  obtain ⟨t, rfl⟩ := rx
  cases rv with
  | cons r1 rv =>
    cases rv
    obtain rfl := r1
    obtain ⟨its, r, pl, _⟩ := I.list hq
    obtain ⟨l, rfl, e⟩ := strs_of r
    exact SC.join pl.isList e hok fun t' tk => ⟨.str _, H, I.tok tk, ⟨t', rfl⟩, k⟩
theorem mt_split : MtR X "str.split" (fun x xs H Q => ∃ z y, x = .str z ∧ xs = [.str y] ∧ (y.length == 0) = false ∧ z.length ≤ sizeLine ∧ (partsBetween z (occurrences z y 0 z.length (z.length + 1)) y.length).length ≤ sizeLine ∧ (Txt.split z y).length ≤ sizeLine ∧
    ∀ p, H p = none → Q (.ref p) (upd H p (.lst ((Txt.split z y).map V.str)))) := by
  intro pins s σ H x xs v us Q I rx rv h
  obtain ⟨z, y, rfl, rfl, hy, hsz, hsz2, hl, k⟩ := h
  obtain ⟨t, rfl⟩ := rx
  cases rv with
  | cons r1 rv =>
    cases rv
    obtain ⟨u, rfl⟩ := r1
    have fin : ∀ (l : List (Str × Tok)) (tk : Nat), l.map (·.1) = Txt.split z y → EP X pins σ Q (.ref s.heap.objs.size) { s with heap := s.heap.push { cls := .type "list", data := .seq (strValues l).toArray }, toks := tk } := fun l tk e => by
      refine ⟨.ref s.heap.objs.size, _, I.laid (t' := tk) (o := .lst ((Txt.split z y).map V.str)) (fun b ob q => Heap.get?_push_of_some _ q) (Nat.le_refl _) ?_, rfl, k _ (I.hok.fresh (Nat.le_refl _))⟩
      refine ⟨by rw [List.length_map]; exact hl, strValues l, 0, ?_, Heap.get?_push_size _ rfl⟩
      rw [← e]; exact vals_strs l
    cases h1 : (decide (z.length < y.length) || decide (PySem.Builtin.Str.strKind z < PySem.Builtin.Str.strKind y))
    · cases hf : (occurrences z y 0 z.length (z.length + 1)).isEmpty
      · refine call_meets F.slot_str_split (typeIs_str _ _ _) F.entry_str_split (F.args_str_split_2 _ _) (meets_str_split_sep z y t u h1 hy hf hsz hsz2) ?_
        show wants (EP X pins σ Q) X.xe _ { s with toks := _, heap := s.heap.push { cls := .type "list", data := .seq (strsFrom s.toks (partsBetween z (occurrences z y 0 z.length (z.length + 1)) y.length)).toArray } }
        rw [strsFrom_eq]
        exact fin (numbered s.toks _) _ ((numbered_texts _ _).trans ((if_neg (ne_true_of_eq_false h1)).trans (if_neg (ne_true_of_eq_false hf))).symm)
      · exact call_meets F.slot_str_split (typeIs_str _ _ _) F.entry_str_split (F.args_str_split_2 _ _) (meets_str_split_not_found z y t u h1 hy hf)
          (fin [(z, t)] s.toks ((if_neg (ne_true_of_eq_false h1)).trans (if_pos hf)).symm)
    · exact call_meets F.slot_str_split (typeIs_str _ _ _) F.entry_str_split (F.args_str_split_2 _ _) (meets_str_split_cannot_occur z y t u h1)
        (fin [(z, t)] s.toks (if_pos h1).symm)
theorem mt_starts : MtR X "str.startswith" (fun x xs H Q => ∃ z y, x = .str z ∧ xs = [.str y] ∧ Q (.bl (Txt.startswith z y)) H) := by
  intro pins s σ H x xs v us Q I rx rv h
  obtain ⟨z, y, rfl, rfl, k⟩ := h
  obtain ⟨t, rfl⟩ := rx
  cases rv with
  | cons r1 rv =>
    cases rv
    obtain ⟨u, rfl⟩ := r1
    exact SC.startswith ⟨.bl _, H, I, rfl, k⟩
theorem call_int_text : CallR X (.type "int") (fun xs H Q => ∃ z n, xs = [.str z] ∧ PySem.intText? z = some n ∧ z.length ≤ 640 ∧ Q (.int n) H) := by
  intro pins s σ H xs us Q I r h
  obtain ⟨z, n, rfl, hn, hl, q⟩ := h
  obtain ⟨u, rfl, t, rfl⟩ := vals1 r
  exact PySem.W.KIN.call_text hn hl ⟨.int n, H, I.tok _, ⟨_, rfl⟩, q⟩
theorem call_anyL (hh : X.A.handled = none) : CallR X (.builtin "any") (fun xs H Q => ∃ (p : Addr) (bs : List Bool), xs = [.ref p] ∧ SqL X.K H p (bs.map V.bl) ∧ Q (.bl (bs.any id)) H) := by
  intro pins s σ H xs us Q I rv h
  obtain ⟨p, bs, rfl, hq, k⟩ := h
  cases rv with
  | cons r1 rv =>
    cases rv
    obtain rfl := r1
    obtain ⟨its, r, pl, _⟩ := I.list hq
    obtain ⟨m, F⟩ := I.fr
    refine LSm.any_bools F (news_all (h := s.heap)) hh pl.isList (bools_are r) fun h' tk F' N' => ?_
    exact ⟨.bl _, H, I.newsKept F.ns F' N', rfl, k⟩
theorem sl_strFrom : SlR X (fun x lo hi H Q => ∃ z i, x = .str z ∧ lo = some i ∧ hi = none ∧ z.length ≤ sizeLine ∧ Q (.str (Txt.slice z (some i) none)) H) := by
  intro pins s σ H x v vl vu lo hi sl Q I rx hs pl pu h
  obtain ⟨z, i, rfl, rfl, rfl, hz, k⟩ := h
  obtain ⟨t, rfl⟩ := rx
  cases pl with
  | int _ ui =>
    cases pu
    refine ⟨"str", _, F.slot_str_getitem.lookup, typeIs_str _ _ _, ?_⟩
    obtain ⟨o, ho, hc, hd⟩ := hs
    exact wpAny_getItem_str_slice (l := some (i, ui)) (u := none) (st := none) ⟨o, ho, hc, hd⟩ rfl
      (post_val_or_str ⟨Nat.le_trans (Txt.slice_le z _ _) hz, fun t' tk => ⟨.str _, H, I.tok tk, ⟨t', rfl⟩, k⟩⟩)
def Its (z : Str) : It := ⟨fun i _ => i < z.cps.size, fun i H v H' => H' = H ∧ ∃ c, z.cps[i]? = some c ∧ v = .str ⟨#[c]⟩, fun i _ => z.cps.size ≤ i⟩
theorem turn_str {P : Program} {w : World} {K : PySem.W.Frag} {tg : Expr} (it : Addr) (z : Str) (t : Tok) : Turn P w K tg (Its z) [it] it (fun i h => h.IsStrIter it "str_ascii_iterator" z t i) where
  mem := by simp
  obj := fun i h st b hb => by
    have e : b = it := by simpa using hb
    subst e
    obtain ⟨o, e, c, d⟩ := st
    exact ⟨o, e, fun v z => by rw [d] at z; cases z⟩
  keep := fun i h h' st k => by
    obtain ⟨o, e, r⟩ := st
    exact ⟨o, k it (by simp) o e, r⟩
  item := by
    intro X hP hw hK hc i pins s σ H E I hf st hg
    subst hP hw hK
    obtain ⟨f0, f1, f2, f3, f4, f5⟩ := hf it (by simp)
    have W := Walks.strAscii (prog := X.prog) (w := X.w) (I.ok.hd hc) it z t
    refine W.item i s _ _ hg st fun v h' tk hv st' kk => ?_
    obtain ⟨c, t', hc', rfl⟩ := hv
    have I1 : Inv X pins σ H { s with heap := h', toks := tk } := I.turned (fun b o hb e => kk b o (by simpa using hb) e) f0 f1 f3 f4 f5
    obtain ⟨o, e, cc, d⟩ := id st'
    exact ⟨_, rfl, go_of (s := { s with heap := h', toks := tk }) e cc d (by decide) ⟨.str ⟨#[c]⟩, H, I1, ⟨t', rfl⟩, ⟨rfl, c, hc', rfl⟩, st', fun b hb => (hf b hb).1⟩⟩
  done := by
    intro X hP hw hK hc i pins s σ H E I hf st hg
    subst hP hw hK
    obtain ⟨f0, f1, f2, f3, f4, f5⟩ := hf it (by simp)
    exact wpAny_pyNext_ascii_end (I.ok.hd hc) st (Array.getElem?_eq_none hg) fun h' eb => ⟨rfl, I.turned (t' := s.toks) (fun b o hb e => eb b o hb e) f0 f1 f3 f4 f5⟩
  self := fun _ _ _ _ _ st h => wpAny_pyIter_striter_ascii st h
def iStr (tl : TE) : TI := fun σ H R => tl σ H fun x H1 => ∃ z, x = .str z ∧ z.cps.all (· < 128) = true ∧ R (Its z) H1
theorem pi_str {tg l : Expr} {tl : TE} (hl : PE X l tl) : PI X tg l (iStr tl) := by
  intro pins s σ H R I h
  refine thn (hl pins s σ H _ I h) fun v s1 ⟨x, H1, I1, r1, q1⟩ => ?_
  obtain ⟨z, rfl, ha, q⟩ := q1
  obtain ⟨t, rfl⟩ := r1
  refine wpAny_pyIter_ascii ha ?_
  refine ⟨s1.heap.objs.size, [s1.heap.objs.size], _, _, H1, rfl, I1.kept (t' := s1.toks) fun b o e => Heap.get?_push_of_some _ e, turn_str _ z t, ⟨_, Heap.get?_push_size _ rfl, rfl, rfl⟩, fun b hb => ?_, q⟩
  have e : b = s1.heap.objs.size := by simpa using hb
  subst e
  exact I1.fpOk (Nat.le_refl _) (I1.hok.fresh (Nat.le_refl _))
theorem comp_str {z : Str} {D : Addr} {g : TG} {tt : TT} {te : TE} {R : Hp → Prop} {σ0 : St} {H : Hp} (Pv : Nat → St → Hp → Prop) (h0 : Pv 0 σ0 H)
    (hs : ∀ i c σ H, z.cps[i]? = some c → Pv i σ H → g (.str ⟨#[c]⟩) σ H fun σ3 H3 => tt σ3 H3 fun ok H4 => if ok = true then te σ3 H4 fun y H5 => ∃ ys, H5 D = some (.lst ys) ∧ ys.length < sizeLine ∧ Pv (i + 1) σ3 (upd H5 D (.lst (ys ++ [y]))) else Pv (i + 1) σ3 H4)
    (hd : ∀ σ H, Pv z.cps.size σ H → R H) :
    ∃ W : Nat → Nat → St → Hp → Prop, (∃ m, W 0 m σ0 H) ∧ ∀ i m σ' H', W i m σ' H' →
      ((Its z).stop i H' ∧ R H') ∨ ((Its z).go i H' ∧ ∃ N : St → Hp → Prop, (∀ σ2 H2, N σ2 H2 → ∃ m', m' < m ∧ W (i + 1) m' σ2 H2) ∧
        ∀ x H2, (Its z).yld i H' x H2 → g x σ' H2 fun σ3 H3 => tt σ3 H3 fun ok H4 => if ok = true then te σ3 H4 fun y H5 => ∃ ys, H5 D = some (.lst ys) ∧ ys.length < sizeLine ∧ N σ3 (upd H5 D (.lst (ys ++ [y]))) else N σ3 H4) := by
  refine ⟨fun i m σ H => m = z.cps.size - i ∧ i ≤ z.cps.size ∧ Pv i σ H, ⟨z.cps.size, by simp, Nat.zero_le _, h0⟩, ?_⟩
  rintro i m σ H ⟨rfl, hi, p⟩
  by_cases hlt : i < z.cps.size
  · refine .inr ⟨hlt, Pv (i + 1), fun σ' H' p' => ⟨z.cps.size - (i + 1), by omega, rfl, hlt, p'⟩, fun x H' y => ?_⟩
    obtain ⟨e, c, hc, rfl⟩ := y
    subst e
    exact hs i c σ _ hc p
  · have e : i = z.cps.size := by omega
    subst e
    exact .inl ⟨Nat.le_refl _, hd σ H p⟩
def PF (X : Cx) (es : List Expr) (t : St → Hp → Str → VK → Prop) : Prop :=
  ∀ (pins : List (Addr × Obj)) (s : Shared) (σ : St) (H : Hp) (out : Str) (Q : VK), Inv X pins σ H s → t σ H out Q → wpAny (model X.prog X.w) X.A (joinParts out (evalEach es X.env)) (EP X pins σ Q) X.xe s
def fNil : St → Hp → Str → VK → Prop := fun _ H out Q => out.length ≤ sizeLine ∧ Q (.str out) H
def fCons (te : TE) (t : St → Hp → Str → VK → Prop) : St → Hp → Str → VK → Prop := fun σ H out Q => te σ H fun v H1 => ∃ y, v = .str y ∧ (out ++ y).length ≤ sizeLine ∧ t σ H1 (out ++ y) Q
theorem pf_nil : PF X [] fNil := by
  intro pins s σ H out Q I h
  exact joinParts_nil ⟨.str out, H, I.tok _, ⟨_, rfl⟩, h.2⟩ h.1
theorem pf_cons {e : Expr} {es : List Expr} {te : TE} {t : St → Hp → Str → VK → Prop} (he : PE X e te) (hs : PF X es t) : PF X (e :: es) (fCons te t) := by
  intro pins s σ H out Q I h
  refine joinParts_cons (thn (he pins s σ H _ I h) fun v s1 ⟨x, H1, I1, r1, q1⟩ => ?_)
  obtain ⟨y, rfl, hz, q⟩ := q1
  obtain ⟨t, rfl⟩ := r1
  exact ⟨hz, hs pins s1 σ H1 _ Q I1 q⟩
theorem pe_joined {a b : Expr} {es : List Expr} {t : St → Hp → Str → VK → Prop} {pos : Pos} (h : PF X (a :: b :: es) t) : PE X (.JoinedStr (a :: b :: es) pos) (fun σ H Q => t σ H PySem.Str.empty Q) := by
  intro pins s σ H Q I hw
  exact JoinedStr_many (h pins s σ H _ Q I hw)
def tFmt (te : TE) : TE := fun σ H Q => te σ H fun v H1 => ∃ i, v = .int i ∧ i.natAbs.log2 < 1920 ∧ Q (.str (toString i)) H1
theorem pe_fmt {e : Expr} {te : TE} {pos : Pos} (he : PE X e te) : PE X (.FormattedValue e (-1) none pos) (tFmt te) := by
  intro pins s σ H Q I h
  refine FormattedValue_plain (thn (he pins s σ H _ I h) fun v s1 ⟨x, H1, I1, r1, q1⟩ => ?_)
  obtain ⟨i, rfl, hi, q⟩ := q1
  obtain ⟨t, rfl⟩ := r1
  exact formatField_int_small hi ⟨.str _, H1, I1.tok _, ⟨_, rfl⟩, q⟩
end
end L2
set_option maxRecDepth 100000
namespace L2
open PySem PySem.Spec PyProof.Rows PySem.W
theorem ObjOk.there {P : Program} {w : World} {H : Hp} {h : Heap} {a : Addr} {o : HO} (x : ObjOk P w H h a o) : ∃ u, h.get? a = some u := by
  cases o with
  | lst xs => obtain ⟨_, _, _, _, e⟩ := x; exact ⟨_, e⟩
  | tup xs => obtain ⟨_, _, _, o, e, _⟩ := x; exact ⟨_, e⟩
  | dK kvs => obtain ⟨_, _, _, _, o, _, _, e, _⟩ := x; exact ⟨_, e⟩
  | dT kvs => obtain ⟨_, _, _, _, o, _, _, e, _⟩ := x; exact ⟨_, e⟩
  | set S n => obtain ⟨o, _, _, _, e, _⟩ := x; exact ⟨_, e⟩
  | ins C dx fs => obtain ⟨_, _, _, e, _⟩ := x; exact ⟨_, e⟩
  | own y => exact x
  | xd fs => obtain ⟨_, ⟨_, _, _, e, _⟩, _⟩ := x; exact ⟨_, e⟩
  | rng lo hi => obtain ⟨_, _, _, e⟩ := x; exact ⟨_, e⟩
  | frz ob u => obtain ⟨e, _⟩ := x; exact ⟨_, e⟩
  | tbl ps => exact ⟨_, x⟩
  | met f y => exact ⟨_, x⟩
  | ext φ => obtain ⟨_, e, _⟩ := x; exact e
def CXE (P : Program) (w : World) : CXT := fun outer H s E e s' => ∃ (a : Addr) (C a0 : Value) (B : Heap) (H' : Hp), e = .ref a ∧ s'.os = s.os ∧ AllBare s'.gens ∧ Heap.FlyingW B outer a C a0 s'.heap ∧
  (∀ b o, s.heap.get? b = some o → b ∉ frs outer → ∃ o', B.get? b = some o') ∧ (∀ b x, H' b = some x → ∃ o, B.get? b = some o) ∧ Un (frs outer) [] H H' s.heap s'.heap ∧ HOk P w H' s'.heap ∧ E C none H'
theorem fly_un {B h hh h2 : Heap} {fs : List Addr} {H H' : Hp} (hs : ∀ b o, h.get? b = some o → b ∉ fs → ∃ o', B.get? b = some o') (f1 : B.StaysIn hh) (f2 : B.StaysIn h2)
    (fr : ∀ b ∈ fs, ∃ o, hh.get? b = some o ∧ ∀ vs, o.data ≠ .fields vs) (un : Un fs [] H H' h hh) (up : hh.UpToSlots h2) : Un fs [] H H' h h2 where
  keep := fun b o e n nb hx => by
    have e2 := un.keep b o e n nb hx
    obtain ⟨o', eB⟩ := hs b o e nb
    have e3 := f1 b o' eB
    rw [e2] at e3
    cases e3
    exact f2 b _ eB
  slot := fun b o e n hb hx => by
    obtain ⟨sl, e2⟩ := un.slot b o e n hb hx
    obtain ⟨o3, e3, nf⟩ := fr b hb
    rw [e2] at e3
    cases e3
    obtain ⟨sl', e4⟩ := up b _ e2 nf
    exact ⟨sl', e4⟩
  free := un.free
  there := fun b o e hx => by
    by_cases hb : b ∈ fs
    · obtain ⟨o3, e3, nf⟩ := fr b hb
      obtain ⟨sl, e4⟩ := up b _ e3 nf
      exact ⟨_, e4⟩
    · obtain ⟨o', eB⟩ := hs b o e hb
      exact ⟨_, f2 b o' eB⟩
  tups := un.tups
  frzs := un.frzs
  tbls := un.tbls
theorem fly_ok {P : Program} {w : World} {B hh h2 : Heap} {H' : Hp} (ht : ∀ b x, H' b = some x → ∃ o, B.get? b = some o) (f1 : B.StaysIn hh) (f2 : B.StaysIn h2) (hok : HOk P w H' hh) : HOk P w H' h2 := fun b x e => by
  refine (hok b x e).stay (fun c u hc q => ?_) (fun _ z => z) fun _ _ z => z
  have : ∃ y, H' c = some y := by
    rcases hc with z | z
    · exact ⟨x, by rw [z]; exact e⟩
    · exact ⟨_, z⟩
  obtain ⟨y, hy⟩ := this
  obtain ⟨o, eB⟩ := ht c y hy
  have e3 := f1 c o eB
  rw [q] at e3
  cases e3
  exact f2 c _ eB
section
variable {P : Program} {w : World} {K : PySem.W.Frag} {mg : Str → Option Value} {base : Heap} {N : List Str} {qual : Str} {scope : Scope} {f : Addr} {cd : Value} {A : Around} {outer : List Env} {s : Shared} {H : Hp} {E : XK}
def Raises (X : Cx) (E : XK) : Prop := ∀ (pins : List (Addr × Obj)) (σ : St) (H : Hp) (s : Shared) (h' : Heap) (e : Addr) (C : Value) (vs : List Value), Inv X pins σ H s → Heap.MadeExcOf s.heap h' e C vs → E C none H → X.xe (.ref e) { s with heap := h' }
end
def tRaise (C : Value) (ta : TA) (E : XK) : TS := fun _ σ H => ta σ H fun vs H1 => vs.length ≤ 100 ∧ E C none H1
theorem ps_raise {X : Cx} {E : XK} {x : Str} {C : Addr} {bm : List Value} {newId B initId : String} {e₀ : Expr} {rest : List Expr} {ta : TA} {np cpos pos : Pos} (O : OwnCls x C bm newId X.mg X.base) (FB : ExcBaseFacts B newId initId bm) (hR : Raises X E) (hc : X.calm = true) (hg : Gl X x)
    (ha : PA X (e₀ :: rest) ta) (he : starEach (e₀ :: rest) X.env = (false, eval e₀ X.env) :: starEach rest X.env := by rfl) (hplain : (backTo cpos (starEach rest X.env)).any (·.1) = false := by rfl) (hd : (x == ("__debug__" : Str)) = false := by decide) :
    PS X (.Raise (some (.Call (.Name x np) (e₀ :: rest) [] cpos)) none pos) (tRaise (.ref C) ta E) := by
  intro pins s σ H D I h
  have O1 := O.keeps (h' := s.heap) I.bk
  obtain ⟨tl, N, nm, q, bs, hdct, sn, sub, ab, col, dd, k0, k1, k2, k3, k5, mN, hC, hN, hni, T⟩ := O.obj
  refine wpAny_Raise_call_subT (C := C) (nm := nm) (q := q) (N := N) (bs := bs) (bm := tl) (hdct := hdct) (sn := sn) (sub := sub) (ab := ab) (col := col) (dd := dd) (k0 := k0) (k1 := k1) (k2 := k2) (k3 := k3) (k5 := k5)
    FB (mN := mN) (T.hasType FB.hasBase) (I.ok.hd hc) (by rw [he]; show (false || (backTo cpos (starEach rest X.env)).any (·.1)) = false; rw [hplain]; rfl) hni
    (thn (pe_glob (v := .ref C) (pos := np) hg O.bound rfl hd pins s σ H (fun v H' => v = .ref C ∧ H' = H) I ⟨rfl, rfl⟩) fun u s1 ⟨v, H', I1, r1, e1, e2⟩ => ?_)
  subst e1 e2
  cases r1
  refine ⟨rfl, ?_⟩
  have hA := ha cpos pins s1 σ _ _ I1 h
  rw [he] at hA ⊢
  refine Calls.evalArgs_plain (wpAny_mono hA (fun us s2 ⟨vs, H2, I2, r2, lv, q2⟩ => ?_) fun _ _ y => y)
  refine ⟨rfl, by rw [← r2.length]; exact Nat.le_of_lt (Nat.lt_of_le_of_lt lv (by decide)), I2.bk _ _ hC, hN.keeps I2.bk, T.keeps I2.bk, fun h' e mk => hR pins σ H2 s2 h' e _ _ I2 mk q2⟩
theorem Inv.relocal {X : Cx} {pins : List (Addr × Obj)} {σ : St} {H : Hp} {s : Shared} {h' : Heap} {m' : Str → Option Value} {t' : Nat} (I : Inv X pins σ H s) (hn : h'.Ns X.env.locals m') (hs : Heap.SameBut X.env.locals s.heap h') :
    Inv X pins (List.replicate X.N.length none) H { s with heap := h', toks := t' } := by
  have cne := I.cne
  obtain ⟨m, hnm, _⟩ := id I.loc
  obtain ⟨oL, _, _, hoL, _⟩ := id hnm
  have lt : ∀ b o, X.s₀.heap.get? b = some o → b ≠ X.env.locals := fun b o e => Nat.ne_of_lt (Nat.lt_of_lt_of_le (Heap.lt_size e) I.ok.above)
  refine ⟨I.ok, I.os, I.bare, ⟨fun b o e n hb hx => ?_, fun b o e n hb hx => ?_, I.base.free, fun b o e hx => ?_, I.base.tups, I.base.frzs, I.base.tbls⟩, ⟨_, hn, fun j y v' e1 e2 e3 => ?_⟩, fun y c e => ?_, I.free, I.freeC, fun p hp => ?_, fun b ob e => ?_, by simp⟩
  · exact (hs.2 b (lt b o e)).trans (I.base.keep b o e n hb hx)
  · obtain ⟨sl, e1⟩ := I.base.slot b o e n hb hx
    exact ⟨sl, (hs.2 b (lt b o e)).trans e1⟩
  · obtain ⟨o', e1⟩ := I.base.there b o e hx
    exact ⟨o', (hs.2 b (lt b o e)).trans e1⟩
  · rw [List.getElem?_replicate] at e2
    split at e2 <;> cases e2
  · obtain ⟨w', z⟩ := I.cell y c e
    exact ⟨w', z.sameBut hs (cne y c e)⟩
  · obtain ⟨e, n, ne, nf, d⟩ := I.pin p hp
    exact ⟨(hs.2 p.1 ne).trans e, n, ne, nf, d⟩
  · refine (I.hok b ob e).stay (fun c w' hc q => (hs.2 c ?_).trans q) (fun _ q => q) fun _ _ q => q
    rintro rfl
    rcases hc with z | hc
    · rw [← z, I.free] at e; cases e
    · rw [I.free] at hc; cases hc
abbrev Cx.inExc (X : Cx) (a : Addr) : Cx := { X with A := X.A.mark (some (.ref a)), calm := false, xe := fun _ _ => False }
theorem Inv.inExc {X : Cx} {pins : List (Addr × Obj)} {σ : St} {H : Hp} {s : Shared} (I : Inv X pins σ H s) (a : Addr) : Inv (X.inExc a) pins σ H s :=
  ⟨⟨I.ok.mod, I.ok.kind, I.ok.glob, I.ok.blt, I.ok.above, I.ok.inj, I.ok.has, I.ok.cab, (fun z => by cases z), I.ok.frames, I.ok.stk, I.ok.exf, I.ok.bs, I.ok.bsz, I.ok.noex, I.ok.exfs, I.ok.funs, I.ok.frf⟩, I.os, I.bare, I.base, I.loc, I.cell, I.free, I.freeC, I.pin, I.hok, I.len⟩
theorem Inv.outExc {X : Cx} {pins : List (Addr × Obj)} {σ : St} {H : Hp} {s : Shared} {a : Addr} (hd : X.calm = true → X.A.handled = none) (I : Inv (X.inExc a) pins σ H s) : Inv X pins σ H s :=
  ⟨⟨I.ok.mod, I.ok.kind, I.ok.glob, I.ok.blt, I.ok.above, I.ok.inj, I.ok.has, I.ok.cab, hd, I.ok.frames, I.ok.stk, I.ok.exf, I.ok.bs, I.ok.bsz, I.ok.noex, I.ok.exfs, I.ok.funs, I.ok.frf⟩, I.os, I.bare, I.base, I.loc, I.cell, I.free, I.freeC, I.pin, I.hok, I.len⟩
abbrev Cx.tried (X : Cx) (pn : List (Addr × Obj)) (xe : Value → Shared → Prop) : Cx := { X with pn := pn, xe := xe }
theorem Inv.tried {X : Cx} {pins : List (Addr × Obj)} {σ : St} {H : Hp} {s : Shared} (I : Inv X pins σ H s) (xe : Value → Shared → Prop) : Inv (X.tried (X.pn ++ pins) xe) [] σ H s :=
  ⟨⟨I.ok.mod, I.ok.kind, I.ok.glob, I.ok.blt, I.ok.above, I.ok.inj, I.ok.has, I.ok.cab, I.ok.hd, I.ok.frames, I.ok.stk, I.ok.exf, I.ok.bs, I.ok.bsz, I.ok.noex, I.ok.exfs, I.ok.funs, I.ok.frf⟩, I.os, I.bare, I.base, I.loc, I.cell, I.free, I.freeC, fun p hp => I.pin p (by simpa using hp), I.hok, I.len⟩
theorem Inv.untried {X : Cx} {pins p2 : List (Addr × Obj)} {σ : St} {H : Hp} {s : Shared} {xe : Value → Shared → Prop} (I : Inv (X.tried (X.pn ++ pins) xe) p2 σ H s) : Inv X pins σ H s :=
  ⟨⟨I.ok.mod, I.ok.kind, I.ok.glob, I.ok.blt, I.ok.above, I.ok.inj, I.ok.has, I.ok.cab, I.ok.hd, I.ok.frames, I.ok.stk, I.ok.exf, I.ok.bs, I.ok.bsz, I.ok.noex, I.ok.exfs, I.ok.funs, I.ok.frf⟩, I.os, I.bare, I.base, I.loc, I.cell, I.free, I.freeC, fun p hp => I.pin p (List.mem_append_left _ hp), I.hok, I.len⟩
theorem SP.untried {X : Cx} {pins p2 : List (Addr × Obj)} {xe : Value → Shared → Prop} {D : Ends} {f : Flow} {s' : Shared} (h : SP (X.tried (X.pn ++ pins) xe) p2 D f s') : SP X pins D f s' := by
  cases f with
  | next => obtain ⟨σ', H', I, q⟩ := h; exact ⟨σ', H', I.untried, q⟩
  | brk => obtain ⟨σ', H', I, q⟩ := h; exact ⟨σ', H', I.untried, q⟩
  | cont => obtain ⟨σ', H', I, q⟩ := h; exact ⟨σ', H', I.untried, q⟩
  | ret u => obtain ⟨v, σ', H', I, r, q⟩ := h; exact ⟨v, σ', H', I.untried, r, q⟩
def excH (a : Addr) (C : Value) : HO := .ext fun h => ∃ o vs, h.get? a = some o ∧ o.cls = C ∧ o.data = .fields vs
structure Catches (base : Heap) (CH c : Addr) : Prop where
  own : ∃ nm q N bs bm hdct sn sub ab col dd k0 k1 k2 k3 k5 newId, base.get? c = some (excClassObj nm q c N bs bm hdct sn sub ab col dd k0 k1 k2 k3 k5 newId) ∧ (Value.ref c :: bm).contains (.ref CH) = true
  by_ : ∃ nm q N bs bm hdct sn sub ab col dd k0 k1 k2 k3 k5 newId, base.get? CH = some (excClassObj nm q CH N bs bm hdct sn sub ab col dd k0 k1 k2 k3 k5 newId) ∧ bm.contains (.type "BaseException") = true
theorem matches_own {M : Model} {A : Around} {E : Value → Shared → Prop} {h : Heap} {g : Array GenState} {d : Drawn} {t : Nat} {os : OsState} {e CH c : Addr} {oe : Obj} {Q : Bool → Shared → Prop} (m : Catches h CH c) (he : h.get? e = some oe) (hcls : oe.cls = .ref c)
    (hq : Q true ⟨h, g, d, t, os⟩) : wpAny M A (excMatches (.ref e) (.ref CH)) Q E ⟨h, g, d, t, os⟩ := by
  obtain ⟨nm, q, N, bs, bm, hdct, sn, sub, ab, col, dd, k0, k1, k2, k3, k5, newId, hC, hcC⟩ := m.own
  obtain ⟨nm', q', N', bs', bm', hdct', sn', sub', ab', col', dd', j0, j1, j2, j3, j5, newId', hH, hbase⟩ := m.by_
  have hcB : (Value.ref CH :: bm').contains (.type "BaseException") = true := by rw [List.contains_cons, hbase, Bool.or_true]
  have f := tc_notTuple
  unfold excMatches
  repeat (first | (with_reducible refine wpAny_loadPart_at he ?_; rw [hcls]) | with_reducible refine wpAny_loadPart_at hH ?_ | (with_reducible refine wpAny_isSubtype_exc hH ?_; rw [hcB]) | (with_reducible refine wpAny_isSubtype_exc hC ?_; rw [hcC]) | wp_step)
  exact hq
def EH (X : Cx) (Mt : Addr → Prop) (i : Nat) (ts : TS) (D : Ends) : XK := fun C _ H' => (∃ c, C = .ref c ∧ Mt c) ∧ ∀ (σ' : St) (a : Addr), σ'.length = X.N.length → H' a = none → ts { nx := fun _ _ => False, rt := D.rt } (σ'.set i (some (.ref a))) (upd H' a (excH a C))
def tTry (X : Cx) (Mt : Addr → Prop) (i : Nat) (tb : XK → TS) (ts : TS) : TS := fun D σ H => tb (EH X Mt i ts D) D σ H
theorem ps_tryE {X : Cx} {body suite : List Stmt} {b₀ : Stmt} {x n : Str} {np hpos pos : Pos} {i : Nat} {CH : Addr} {Mt : Addr → Prop} {tb : XK → TS} {ts : TS} (hM : X.K.In X.base → ∀ c, Mt c → Catches X.base CH c) (hst : X.stack = X.env :: X.outer) (hfr : X.env.frame = some X.env.locals) (hc : X.calm = true)
    (hb : ∀ (E : XK) (pn' : List (Addr × Obj)) (xe' : Value → Shared → Prop), Passes (CXE X.prog X.w) (X.tried pn' xe') E → PSs (X.tried pn' xe') body (tb E))
    (hg : Gl X x) (hm : X.mg x = some (.ref CH)) (hN : X.N.Nodup) (hi : X.N[i]? = some n) (hx : X.env.scope.names.lookup n = some .local) (hs : ∀ a, PSs (X.inExc a) (b₀ :: suite) ts) (hd : (x == ("__debug__" : Str)) = false := by decide) :
    PS X (.Try body [.ExceptHandler (some (.Name x np)) (some n) (b₀ :: suite) hpos] [] [] pos) (tTry X Mt i tb ts) := by
  intro pins s σ H D I h
  refine wpAny_Try_except (wpAny_mono (hb (EH X Mt i ts D) (X.pn ++ pins) (fun e s' => ∃ σ1 H1 s1, Inv X pins σ1 H1 s1 ∧ CXE X.prog X.w X.stack H1 s1 (EH X Mt i ts D) e s') (fun p2 σ1 H1 s1 e s' I1 z => ⟨σ1, H1, s1, I1.untried, z⟩) [] s σ H D (I.tried _) h) (fun f s1 q => ?_) fun e s1 z => ?_)
  · have q := q.untried
    cases f with
    | next => exact wpAny_execs_nil q
    | ret v => exact q
    | brk => exact q
    | cont => exact q
  · obtain ⟨σ1, H1, s0, I0, a, C, a0, B, H', rfl, os, gens, fl, hs0, ht, un, hok, ⟨c, rfl, mo⟩, k⟩ := z
    have fA : X.A.frames = some (X.env :: X.outer) := by rw [← hst]; exact I.ok.frames
    rw [hst] at fl
    refine wpAny_looks_onW fA hfr fl fun h4 held4 up4 => ?_
    refine wpAny_landsW held4 fun h5 fl5 up5 => ?_
    have up15 := up4.trans up5
    have frO : ∀ b ∈ frs X.stack, ∃ o, s1.heap.get? b = some o ∧ ∀ vs, o.data ≠ .fields vs := fun b hb => (fl.2.2.1.mem (by rw [← hst]; exact hb)).2
    have un5 := fly_un hs0 fl.1 fl5.1 frO un up15
    have hok5 := fly_ok ht fl.1 fl5.1 hok
    have I5 : Inv X pins σ1 H' { s1 with heap := h5 } := I0.call' (s' := { s1 with heap := h5 }) os un5 hok5 gens (fun b z => absurd z (by simp))
    refine wpAny_handleBy_cons (codeAny_handlers_test (ld_glob (I5.inExc a) hg hm ?_ hd)) (by intro q; cases q)
    obtain ⟨oe, eoe, hoe⟩ := fl5.there
    obtain ⟨k1, k2⟩ := hM I.ok.mod.kin c mo
    have mo5 : Catches h5 CH c := by
      refine ⟨?_, ?_⟩
      · obtain ⟨nm, q, N, bs, bm, hdct, sn, sub, ab, col, dd, j0, j1, j2, j3, j5, newId, hC, hcC⟩ := k1
        exact ⟨nm, q, N, bs, bm, hdct, sn, sub, ab, col, dd, j0, j1, j2, j3, j5, newId, I5.bk _ _ hC, hcC⟩
      · obtain ⟨nm, q, N, bs, bm, hdct, sn, sub, ab, col, dd, j0, j1, j2, j3, j5, newId, hC, hcC⟩ := k2
        exact ⟨nm, q, N, bs, bm, hdct, sn, sub, ab, col, dd, j0, j1, j2, j3, j5, newId, I5.bk _ _ hC, hcC⟩
    refine matches_own mo5 eoe hoe (codeAny_handlers_suite_as ?_)
    refine lands_againW fl5 fun h7 fl7 up7 => ?_
    have un7 := fly_un hs0 fl.1 fl7.1 frO un (up15.trans up7)
    have hok7 := fly_ok ht fl.1 fl7.1 hok
    have na : H' a = none := by
      cases e : H' a with
      | none => rfl
      | some y => obtain ⟨o, eo⟩ := ht a y e; rw [fl.2.1] at eo; cases eo
    have nB : ∀ b y, H' b = some y → b ≠ a := fun b y e z => by rw [z, na] at e; cases e
    obtain ⟨o7, v7, T7, oT7, t7, e7, ⟨c7, _⟩, d7, _⟩ := fl7.2.2.2
    have olda : s0.heap.get? a = none := by
      cases e : s0.heap.get? a with
      | none => rfl
      | some o =>
        by_cases hb : a ∈ frs X.stack
        · obtain ⟨o', eo', nf⟩ := (fl7.2.2.1.mem (show a ∈ frs (X.env :: X.outer) by rw [← hst]; exact hb)).2
          rw [e7] at eo'; cases eo'
          exact absurd d7 (nf v7)
        · obtain ⟨o', eo'⟩ := hs0 a o e hb
          rw [fl.2.1] at eo'; cases eo'
    have un8 : Un (frs X.stack) [] H1 (upd H' a (excH a (.ref c))) s0.heap h7 := ⟨un7.keep, un7.slot, fun b o e n hx => by
        rw [upd_ne (fun z => by rw [z, olda] at e; cases e)]; exact un7.free b o e n hx, un7.there,
      fun b xs e => by rw [upd_ne (nB b _ (un7.tups b xs e))]; exact un7.tups b xs e, fun b o u e => by rw [upd_ne (nB b _ (un7.frzs b o u e))]; exact un7.frzs b o u e,
      fun b ps e => by
        obtain ⟨more, em⟩ := un7.tbls b ps e
        exact ⟨more, by rw [upd_ne (nB b _ em)]; exact em⟩⟩
    have hok8 : HOk X.prog X.w (upd H' a (excH a (.ref c))) h7 := fun b y e => by
      by_cases hb : b = a
      · subst hb
        rw [upd_same] at e
        cases e
        exact ⟨⟨o7, v7, e7, c7, d7⟩, ⟨o7, e7⟩, fun h1 h2 ⟨o, vs, p1, p2, p3⟩ kk => ⟨o, vs, kk o p1, p2, p3⟩⟩
      · rw [upd_ne hb] at e
        exact (hok7 b y e).stay (fun _ _ _ z => z) (fun d z => by rw [upd_ne (nB d _ z)]; exact z) fun d xs z => by rw [upd_ne (nB d _ z)]; exact z
    have I8 : Inv X pins σ1 (upd H' a (excH a (.ref c))) { s1 with heap := h7 } := I0.call' (s' := { s1 with heap := h7 }) os un8 hok8 gens (fun b z => absurd z (by simp))
    refine store_ok (X := X.inExc a) (I8.inExc a) hN hi (Or.inl hx) (v := .ref a) rfl (fun s9 I9 => ?_) (.inr hx)
    refine wpAny_mono (hs a pins s9 _ _ _ I9 (k σ1 a I0.len na)) (fun fw s10 q => ?_) fun _ _ z => z.elim
    cases fw with
    | next => obtain ⟨_, _, _, q⟩ := q; exact q.elim
    | brk => obtain ⟨_, _, _, q⟩ := q; exact q.elim
    | cont => obtain ⟨_, _, _, q⟩ := q; exact q.elim
    | ret u =>
      obtain ⟨v, σ', H3, I10, rv, q⟩ := q
      have I11 := I10.outExc I.ok.hd
      obtain ⟨m, hn, _⟩ := id I11.loc
      exact wpAny_nameGoes (show X.env.kindOf n = some .local from hx) hn (by rw [I.ok.kind]; rfl) fun h' m' hn' sb => ⟨v, _, H3, I11.relocal hn' sb, rv, q⟩
end L2
set_option maxRecDepth 100000
namespace PySem.W
open PySem PySem.Spec PySem.Calls PyProof.Rows
structure ExcLooks (K : Frag) (c : Addr) : Prop where
  ga : findIn K (.ref c) "__getattribute__" = some (some (.builtin "BaseException.__getattribute__"))
  no : findIn K (.ref c) "__getattr__" = some none
  cl : findIn K (.ref c) "__class__" = some (some (.builtin "object.__class__"))
  ba : subIn K (.ref c) (.type "BaseException") = some true
  ob : subIn K (.ref c) (.type "object") = some true
section
variable {prog : Program} {w : World} {A : Around} {E : Value → Shared → Prop} {h : Heap} {g : Array GenState} {d : Drawn} {t : Nat} {os : OsState} {a C : Addr} {o : Obj} {K : Frag}
theorem xcls_get {R : Result → Shared → Prop} (X : K.In h) (L : ExcLooks K C) (hx : h.get? a = some o) (hc : o.cls = .ref C) (hq : R (.ok (.ret (.ref C))) ⟨h, g, d, t, os⟩) :
    codeAny (model prog w) A (.call (.builtin "getset_descriptor.__get__") ⟨[.builtin "object.__class__", .ref a, .ref C], []⟩) R ⟨h, g, d, t, os⟩ := by
  have hT5 : (⟨h, g, d, t, os⟩ : Shared).TypeIs (.builtin "object.__class__") "getset_descriptor" := F.typeOf_object_class
  have LO := looks_subIn (M := model prog w) X L.ob
  have e : isSubtype (.ref C) (.type (".".intercalate ("object.__class__".cutAt '.').dropLast)) = isSubtype (.ref C) (.type "object") := by rw [F.owner_object_class]
  refine codeAny_call_builtin F.slot_gs_get.plain F.entry_gs_get (F.slot_gs_get.check _ _ _ _ _ _ _ _ hT5 (F.args_gs_get _ _ _) ?_)
  repeat (any_goals (first | assumption | (with_reducible refine wpAny_loadPart_at hx ?_; rw [hc]) | (rw [e]; with_reducible refine LO.at ?_) | wp_step))
  refine ⟨Code.quiet_builtin _ (by decide +kernel), codeAny_builtin F.entry_object_class ?_⟩
  repeat (any_goals (first | assumption | (with_reducible refine wpAny_loadPart_at hx ?_; rw [hc]) | wp_step))
theorem xcls_check {M : Model} {nameV : Value} {Q : Unit → Shared → Prop} (X : K.In h) (L : ExcLooks K C) (hx : h.get? a = some o) (hc : o.cls = .ref C) (hq : Q () ⟨h, g, d, t, os⟩) :
    wpAny M A (checkBuiltinCall "BaseException.__getattribute__" ⟨[.ref a, nameV], []⟩) Q E ⟨h, g, d, t, os⟩ := by
  have hk : builtinKind "BaseException.__getattribute__" = some .slot := by decide +kernel
  have hsplit : splitId "BaseException.__getattribute__" = some ("BaseException", "__getattribute__") := by decide +kernel
  have LB := looks_subIn (M := M) X L.ba
  have ha := F.args_bexc_ga (.ref a) nameV
  simp only [checkBuiltinCall, hk, hsplit]
  refine wpAny_bind ?_
  · unfold isInstance
    repeat (first | (with_reducible refine wpAny_loadPart_at hx ?_; rw [hc]) | with_reducible refine LB.at ?_ | wp_step)
    exact hq
theorem xcls_entry {tk : Tok} {Q : Fin → Shared → Prop} (X : K.In h) (L : ExcLooks K C) (hx : h.get? a = some o) (hc : o.cls = .ref C) (hq : Q (.done (.ret (.ref C))) ⟨h, g, d, t, os⟩) :
    wpAny (model prog w) A (Builtin.«object.__getattribute__» ⟨[.ref a, .str "__class__" tk], []⟩) Q E ⟨h, g, d, t, os⟩ := by
  have hT5 : (⟨h, g, d, t, os⟩ : Shared).TypeIs (.builtin "object.__class__") "getset_descriptor" := F.typeOf_object_class
  have f5 := F.typeOf_object_class
  have f6 := F.slot_gs_get.lookup
  have f7 := F.slot_gs_set.lookup
  have LC := looks_findIn (M := model prog w) X L.cl
  repeat (any_goals (first | assumption | (with_reducible refine wpAny_loadPart_at hx ?_; rw [hc]) | with_reducible refine LC.at ?_ | wp_step))
  refine xcls_get X L hx hc ?_
  repeat (any_goals (first | assumption | wp_step))
theorem xcls_call {tk : Tok} {R : Result → Shared → Prop} (X : K.In h) (L : ExcLooks K C) (hx : h.get? a = some o) (hc : o.cls = .ref C) (hq : R (.ok (.ret (.ref C))) ⟨h, g, d, t, os⟩) :
    codeAny (model prog w) A (.call (.builtin "BaseException.__getattribute__") ⟨[.ref a, .str "__class__" tk], []⟩) R ⟨h, g, d, t, os⟩ :=
  codeAny_call_builtin F.excAttr_ValueError.ga.plain F.entry_bexc_ga (xcls_check X L hx hc (xcls_entry X L hx hc hq))
theorem xcls_by {tk : Tok} {Q : Value → Shared → Prop} (X : K.In h) (L : ExcLooks K C) (hx : h.get? a = some o) (hc : o.cls = .ref C) (hq : Q (.ref C) ⟨h, g, d, t, os⟩) :
    wpAny (model prog w) A (getAttrBy (.ref a) (.str "__class__" tk) false) Q E ⟨h, g, d, t, os⟩ := by
  have f3 := F.excAttr_ValueError.ga.bind (.ref a)
  have hx2 : (Value.builtin "BaseException.__getattribute__" == Value.builtin "object.__getattribute__") = false := by decide +kernel
  have hx1 : (onTheHeap (Value.ref C) && Value.builtin "BaseException.__getattribute__" == Value.builtin "object.__getattribute__") = false := by rw [hx2]; rfl
  have LG := looks_findIn (M := model prog w) X L.ga
  have LN := looks_findIn (M := model prog w) X L.no
  repeat (any_goals (first | assumption | (with_reducible refine wpAny_loadPart_at hx ?_; rw [hc]) | with_reducible refine LG.at ?_ | with_reducible refine LN.at ?_ | wp_step))
  refine xcls_call X L hx hc ?_
  repeat (any_goals (first | assumption | wp_step))
theorem xcls_attr {Q : Option Value → Shared → Prop} (X : K.In h) (L : ExcLooks K C) (hx : h.get? a = some o) (hc : o.cls = .ref C) (hq : Q (some (.ref C)) ⟨h, g, d, t + 1, os⟩) : wpAny (model prog w) A (getAttr? (.ref a) "__class__") Q E ⟨h, g, d, t, os⟩ := by
  unfold getAttr? getAttrBy?
  repeat (any_goals (first | assumption | with_reducible apply xcls_by X L hx hc | wp_step))
theorem kitx_exc {cd : ClassData} {c0 : Value} {dd : Option Addr} {sl : Array (Option Value)} (hl : K.lookup C = some ⟨c0, dd, .cls cd, sl⟩) (L : ExcLooks K C) : KitX K (.ref a) (.ref C) (fun h => ∃ o, h.get? a = some o ∧ o.cls = .ref C) where
  ty := fun M h X ⟨o, ho, hc⟩ => by
    have := (Looks.ld (M := M) (part := none) ho).andThen (f := fun o => pure o.cls) (b := o.cls) Looks.now
    rw [hc] at this
    exact this
  it := fun M h X _ => by
    intro A' Q' E' s' k q
    unfold isType loadHead
    exact wpAny_bind (wpAny_loadPart (k _ _ (X _ _ hl)) (wpAny_pure q))
  ne := fun h tp dd' its n sl' X ht => Bool.eq_false_iff.mpr fun q => by
    have e := beq_iff_eq.mp q
    cases e
    have := X _ _ hl
    rw [ht] at this
    cases this
  ca := fun {_ _ _ _ _ s} X ⟨o, ho, hc⟩ k => by
    obtain ⟨h, g, d, t, os⟩ := s
    exact xcls_attr X L ho hc k
end
end PySem.W
namespace L2
open PySem PySem.Spec PyProof.Rows PySem.W
section
variable {X : Cx}
def clsV : V → Option Value
  | .ref D => some (.ref D)
  | .ty T => some (.type T)
  | _ => none
theorem call_isiX {c : Addr} {cd : ClassData} {c0 : Value} {dd : Option Addr} {sl : Array (Option Value)} (hl : X.K.lookup c = some ⟨c0, dd, .cls cd, sl⟩) (L : ExcLooks X.K c) :
    CallR X (.builtin "isinstance") (fun xs H Q => ∃ a v C b, xs = [.ref a, v] ∧ clsV v = some C ∧ H a = some (excH a (.ref c)) ∧ kitOne X.K (.ref c) C = some b ∧ Q (.bl b) H) := by
  intro pins s σ H xs us Q I rv h
  obtain ⟨a, v, C, b, rfl, rC, ha, hk, k⟩ := h
  obtain ⟨⟨o, vs, e1, e2, e3⟩, _⟩ := I.hok a _ ha
  cases rv with
  | cons r1 rv =>
    cases rv with
    | cons r2 rv =>
      cases rv
      obtain rfl := r1
      have done : ∀ tk, EP X pins σ Q (.bool b) { s with toks := tk } := fun tk => ⟨.bl b, H, I.tok tk, rfl, k⟩
      cases v with
      | ref D =>
        cases rC
        obtain rfl := r2
        exact kia_one (K := X.K) (kitx_exc hl L) I.kIn ⟨o, e1, e2⟩ hk (fun e => nomatch e) done
      | ty T =>
        cases rC
        obtain rfl := r2
        exact kia_one (K := X.K) (kitx_exc hl L) I.kIn ⟨o, e1, e2⟩ hk (fun e => nomatch e) done
      | _ => cases rC
end
end L2
set_option maxRecDepth 100000
namespace L2
open PySem PySem.Spec PyProof.Rows PySem.W
def isTrueV : Value → Bool
  | .bool b => b
  | _ => false
theorem vals_bools : ∀ {bs : List Bool} {us : List Value}, Vals (bs.map V.bl) us → us = bs.map Value.bool
  | [], _, .nil => rfl
  | b :: bs, _, .cons r t => by
    obtain rfl := r
    rw [vals_bools t]; rfl
section
variable {X : Cx}
theorem mt_countT : MtR X "list.count" (fun x xs H Q => ∃ (p : Addr) (bs : List Bool), x = .ref p ∧ xs = [.bl true] ∧ SqL X.K H p (bs.map V.bl) ∧ Q (.int (bs.countP id : Nat)) H) := by
  intro pins s σ H x vs v us Q I rx rv h
  obtain ⟨b, bs, rfl, rfl, hb, k⟩ := h
  cases rx
  obtain ⟨u, rfl, ru⟩ := rv.one
  obtain rfl := ru
  obtain ⟨its, r2, l2, _⟩ := I.list hb
  obtain rfl := vals_bools r2
  obtain ⟨⟨cls, dd, data, sl⟩, ho, hc, n, hd⟩ := l2.isList
  simp only at hc hd
  subst hc hd
  refine call_meets F.slot_list_count ⟨_, ho, rfl⟩ F.entry_list_count (F.args_list_count_2 _ _) (SeqAt.list_countAt b (bs.map Value.bool).toArray n dd sl (.bool true) isTrueV) ⟨ho, fun y hy => ?_, ⟨.int _, H, I.tok _, ⟨_, rfl⟩, ?_⟩⟩
  · obtain ⟨c, _, rfl⟩ := List.mem_map.mp (by simpa using hy : y ∈ bs.map Value.bool)
    have := eqAt_V (A := X.A.in1) (s := s) (y := .bl c) (x := .bl true) (u := .bool c) (v := .bool true) rfl rfl rfl rfl
    have e : eqV (.bl c) (.bl true) = isTrueV (.bool c) := by cases c <;> rfl
    rw [e] at this
    exact this
  · have e : (bs.map Value.bool).toArray.toList.countP isTrueV = bs.countP id := by
      rw [show (bs.map Value.bool).toArray.toList = bs.map Value.bool from rfl, List.countP_map]; rfl
    rw [e]; exact k
theorem mt_indexT : MtR X "list.index" (fun x xs H Q => ∃ (p : Addr) (bs : List Bool) (j : Nat), x = .ref p ∧ xs = [.bl true] ∧ SqL X.K H p (bs.map V.bl) ∧ bs[j]? = some true ∧ (∀ i, i < j → bs[i]? = some false) ∧ bs.length ≤ 1000 ∧ Q (.int (j : Nat)) H) := by
  intro pins s σ H x vs v us Q I rx rv h
  obtain ⟨b, bs, j, rfl, rfl, hb, hj, hno, hl, k⟩ := h
  cases rx
  obtain ⟨u, rfl, ru⟩ := rv.one
  obtain rfl := ru
  obtain ⟨its, r2, l2, _⟩ := I.list hb
  obtain rfl := vals_bools r2
  have hjl := (List.getElem?_eq_some_iff.mp hj).1
  obtain ⟨⟨cls, dd, data, sl⟩, ho, hc, n, hd⟩ := l2.isList
  simp only at hc hd
  subst hc hd
  refine call_meets F.slot_list_index ⟨_, ho, rfl⟩ F.entry_list_index (F.args_list_index_2 _ _) (SeqAt.list_indexAt b (bs.map Value.bool).toArray n dd sl (.bool true) isTrueV j (by simpa using hjl) (by omega) ?_ ?_) ⟨ho, fun y hy => ?_, ⟨.int j, H, I.tok _, ⟨_, rfl⟩, k⟩⟩
  · simp only [List.getElem_toArray, List.getElem_map]
    exact (List.getElem?_eq_some_iff.mp hj).2
  · intro m hm hmj
    have hm' : m < bs.length := by simpa using hm
    simp only [List.getElem_toArray, List.getElem_map]
    exact (List.getElem?_eq_some_iff.mp (hno m hmj)).2
  · obtain ⟨c, _, rfl⟩ := List.mem_map.mp (by simpa using hy : y ∈ bs.map Value.bool)
    have := eqAt_V (A := X.A.in1) (s := s) (y := .bl c) (x := .bl true) (u := .bool c) (v := .bool true) rfl rfl rfl rfl
    have e : eqV (.bl c) (.bl true) = isTrueV (.bool c) := by cases c <;> rfl
    rw [e] at this
    exact this
theorem readsAll_ints {h : Heap} : ∀ {ns : List Int} {us : List Value}, Vals (ns.map V.int) us → ReadsAll h us (ns.map PyData.int) []
  | [], _, .nil => .nil
  | n :: ns, _, .cons r t => by
    obtain ⟨u, rfl⟩ := r
    exact .cons (.int n u) (readsAll_ints t)
theorem int_len {i : Int} (h : i.natAbs < 2 ^ 81) : (Str.ofString (toString i)).length ≤ 82 := by
  unfold Str.length
  rw [← Array.length_toList, signs_ofString, List.length_map]
  cases i with
  | ofNat m =>
    have : (Nat.repr m).length ≤ 81 := nat_repr_length_le (by decide) h
    show (Nat.repr m).toList.length ≤ 82
    rw [String.length_toList]; omega
  | negSucc m =>
    have : (Nat.repr (m + 1)).length ≤ 81 := nat_repr_length_le (by decide) h
    show ("-" ++ Nat.repr (m + 1)).toList.length ≤ 82
    rw [String.toList_append, List.length_append, String.length_toList, String.length_toList]
    show 1 + _ ≤ 82
    omega
theorem ints_show {ns : List Int} (h : ∀ n ∈ ns, n.natAbs < 2 ^ 81) : PyData.showableAll (ns.map PyData.int) = true ∧ PyData.hasDictAll (ns.map PyData.int) = false ∧ ((PyData.shownAll (ns.map PyData.int)).map (·.length)).sum ≤ 82 * ns.length ∧ (PyData.shownAll (ns.map PyData.int)).length = ns.length ∧ PyData.depthAll (ns.map PyData.int) = 0 := by
  induction ns with
  | nil => exact ⟨rfl, rfl, Nat.le_refl _, rfl, rfl⟩
  | cons n ns ih =>
    obtain ⟨a, b, c, d, e⟩ := ih fun m hm => h m (List.mem_cons_of_mem _ hm)
    have hn := h n (List.mem_cons_self ..)
    have l := int_len hn
    refine ⟨?_, ?_, ?_, ?_, ?_⟩
    · show (decide (n.natAbs.log2 < 1920) && PyData.showableAll (ns.map PyData.int)) = true
      rw [a, Bool.and_true, decide_eq_true_eq]
      rcases Nat.eq_zero_or_pos n.natAbs with z | z
      · rw [z]; decide
      · have := (Nat.log2_lt (by omega)).mpr hn
        omega
    · show (PyData.hasDict (.int n) || PyData.hasDictAll (ns.map PyData.int)) = false
      rw [b]; rfl
    · show (Str.ofString (toString n)).length + ((PyData.shownAll (ns.map PyData.int)).map (·.length)).sum ≤ 82 * (ns.length + 1)
      omega
    · show (PyData.shownAll (ns.map PyData.int)).length + 1 = ns.length + 1
      omega
    · show max (PyData.depth (.int n)) (PyData.depthAll (ns.map PyData.int)) = 0
      rw [e]; rfl
def tFmtT (te : TE) : TE := fun σ H Q => te σ H fun v H1 => ∃ (a : Addr) (ns : List Int), v = .ref a ∧ H1 a = some (.tup (ns.map V.int)) ∧ ns.length ≤ 3 ∧ (∀ n ∈ ns, n.natAbs < 2 ^ 81) ∧ ∀ z : Str, z.length ≤ 300 → Q (.str z) H1
theorem pe_fmtT {e : Expr} {te : TE} {pos : Pos} (hg : X.A.guards = some []) (hu : X.A.units + 16 < cLine) (he : PE X e te) : PE X (.FormattedValue e (-1) none pos) (tFmtT te) := by
  intro pins s σ H Q I h
  refine FormattedValue_plain (thn (he pins s σ H _ I h) fun v s1 ⟨x, H1, I1, r1, q1⟩ => ?_)
  obtain ⟨a, ns, rfl, ha, ln, hb, q⟩ := q1
  obtain rfl := r1
  obtain ⟨_, its, rv, o, eo, ec, n, ed⟩ := I1.hok a _ ha
  obtain ⟨s1', s2, s3, s4, s5⟩ := ints_show hb
  have rd : Reads s1.heap (.ref a) (.tuple (ns.map PyData.int)) [] := .tuple eo ec ed (by simpa using readsAll_ints rv)
  have ll : (PyData.shown (.tuple (ns.map PyData.int))).length ≤ 300 := by
    show (tupleText (PyData.shownAll (ns.map PyData.int))).length ≤ 300
    have := tupleText_len_le (PyData.shownAll (ns.map PyData.int))
    rw [s4] at this
    omega
  refine formatField_of_reads rd s1' (fun z => by rw [show PyData.hasDict (.tuple (ns.map PyData.int)) = PyData.hasDictAll (ns.map PyData.int) from rfl, s2] at z; cases z) hg ?_ (fun _ _ z => z) (fun h' u tk hk => ⟨.str _, H1, I1.kept hk, ⟨u, rfl⟩, q _ ll⟩) (Nat.le_of_lt (small1000 (by omega)))
  have : PyData.depth (.tuple (ns.map PyData.int)) ≤ 2 := by
    show PyData.depthAll (ns.map PyData.int) + 1 ≤ 2
    omega
  omega
end
section
variable {P : Program} {w : World} {K : PySem.W.Frag} {mg : Str → Option Value} {base : Heap}
structure RoomH (k : Nat) (A : Around) : Prop where
  dp : A.depth + 3 * k + 5 < recursionLimit
  un : A.units + 16 * k + 200 < cLine
theorem Room.h {k : Nat} {A : Around} (r : Room k A) : RoomH k A := ⟨r.dp, r.un⟩
theorem RoomH.mark {k : Nat} {A : Around} (r : RoomH k A) (v : Option Value) : RoomH k (A.mark v) := ⟨r.dp, r.un⟩
theorem RoomH.deeper {k : Nat} {A : Around} (r : RoomH (k + 1) A) (env : Env) : RoomH k (A.deeper env) :=
  ⟨by have := r.dp; show A.depth + 1 + 3 * k + 5 < _; omega, by have := r.un; show A.units + 3 + 16 * k + 200 < _; omega⟩
structure FnOkH (P : Program) (w : World) (K : PySem.W.Frag) (mg : Str → Option Value) (base : Heap) (k : Nat) (f : Addr) (fd : FuncData) (ps : List Str) (sp : Sp) : Prop where
  len : ∀ vs H Q E, sp vs H Q E → vs.length = ps.length
  run : ∀ (A : Around) (outer : List Env) (s : Shared) (H : Hp) (args : Args) (us : List Value) (vs : List V) (Q : VK) (E : XK), RoomH k A → Env0 P w K mg base A outer s H → BindsTo s fd args (ps.zip us) → Vals vs us → sp vs H Q E →
    codeAny (model P w) A (.call (.ref f) args) (CR CX0 outer P w H s Q E) s
abbrev cxH (P : Program) (w : World) (K : PySem.W.Frag) (mg : Str → Option Value) (base : Heap) (N : List Str) (qual : Str) (scope : Scope) (f : Addr) (cd : Value) (A : Around) (outer : List Env) (s : Shared) (H : Hp) (E : XK) : Cx :=
  { cxOf CX0 P w K mg base N qual scope f cd A outer s H E with calm := false, xe := fun _ _ => False }
theorem Fun.okH {x qual : Str} {st : Stmt} {f : Addr} {fd : FuncData} {N ps : List Str} {k : Nat} {sp : Sp} (F : Fun K x qual st f fd) (S : FnScope N ps (defScope st)) (len : ∀ vs H Q E, sp vs H Q E → vs.length = ps.length)
    (hbody : ∀ (cdv : Value) (A : Around) (outer : List Env) (s : Shared) (H : Hp) (vs : List V) (Q : VK) (E : XK), RoomH k (A.deeper (envOfC qual (defScope st) s.heap.objs.size f cdv)) → sp vs H Q E →
      ∃ t, PSs (cxH P w K mg base N qual (defScope st) f cdv A outer s H E) (defBody st) t ∧ t { nx := fun _ H' => Q .non H', rt := Q } (start N vs) H) : FnOkH P w K mg base (k + 1) f fd ps sp := by
  obtain ⟨oc, od, kV, doc, pm, an, cdv, ct, osl, rfl, lk, hcd⟩ := F.ex
  refine ⟨len, fun A outer s H args us vs Q E hr e0 hb r hsp => ?_⟩
  have hl := len _ _ _ _ hsp
  have KX : K.In s.heap := e0.mod.kin.keeps fun b o e => (e0.bs b o e).1
  have lim : s.heap.NoLimit := e0.mod.nolimit.keeps fun b o e => (e0.bs b o e).1
  have hkind : ∀ y ∈ ps.zip us, (defScope st).names.lookup y.1 = some .local ∨ ((defScope st).names.lookup y.1 = some .cell ∧ ((cellsFrom (s.heap.objs.size + 1) (defScope st).names []).lookup y.1).isSome = true) := fun ⟨n, v⟩ hy => by
    rcases S.par n (List.of_mem_zip hy).1 with q | q
    · exact .inl q
    · exact .inr ⟨q, PySem.W.cellsFrom_some _ _ _ (.inl q)⟩
  refine codeAny_call_function (by have := hr.dp; omega) (KX _ _ lk) rfl S.co S.gen rfl (PySem.W.codeRec_of KX hcd) (hb _ _ _ _ ?_)
  refine wpAny_newFunctionEnv_cells S.kind hkind fun env he s1 x => ?_
  subst he
  refine ⟨lim.keeps x.toInCall.keep, codeAny_func ?_⟩
  obtain ⟨t, ht, hq⟩ := hbody cdv A outer s H vs Q E (hr.deeper _) hsp
  have I0 : Inv (cxOf CX0 P w K mg base N qual (defScope st) f cdv { A with handled := none } outer s H E) [] (start N vs) H s1 := inv_start S rfl ⟨e0.frames, e0.mod, e0.bs, e0.bsz, e0.funs, e0.frf, e0.hok, e0.bare⟩ hl r x
  have I : Inv (cxH P w K mg base N qual (defScope st) f cdv A outer s H E) [] (start N vs) H s1 :=
    ⟨⟨I0.ok.mod, I0.ok.kind, I0.ok.glob, I0.ok.blt, I0.ok.above, I0.ok.inj, I0.ok.has, I0.ok.cab, (fun z => by cases z), I0.ok.frames, I0.ok.stk, I0.ok.exf, I0.ok.bs, I0.ok.bsz, I0.ok.noex, I0.ok.exfs, I0.ok.funs, I0.ok.frf⟩, I0.os, I0.bare, I0.base, I0.loc, I0.cell, I0.free, I0.freeC, I0.pin, I0.hok, I0.len⟩
  refine wpAny_mono (ht [] s1 (start N vs) H _ I hq) (fun fl s' hs => ?_) fun e s' hs => hs.elim
  have fin : ∀ {σ' : St} {H' : Hp} {v : V} {u : Value}, Inv (cxH P w K mg base N qual (defScope st) f cdv A outer s H E) [] σ' H' s' → RelV v u → Q v H' → CE outer P w H s Q u s' :=
    fun {σ' H' v u} J rv q => ⟨v, H', J.os, J.bare, J.base, J.hok, rv, q⟩
  cases fl with
  | ret u =>
    obtain ⟨v, σ', H', J, rv, q⟩ := hs
    exact fin J rv q
  | next =>
    obtain ⟨σ', H', J, q⟩ := hs
    exact fin (v := V.non) (u := Value.none) J rfl q
  | brk =>
    obtain ⟨_, _, _, q⟩ := hs
    exact False.elim q
  | cont =>
    obtain ⟨_, _, _, q⟩ := hs
    exact False.elim q
end
theorem pe_callH {X : Cx} {k : Nat} {f : Addr} {fd : FuncData} {ps : List Str} {sp : Sp} {x : Str} {e : Expr} {es : List Expr} {t : TA} {p pos : Pos} (F : FnOkH X.prog X.w X.K X.mg X.base k f fd ps sp) (hr : RoomH k X.A) (hg : Gl X x) (hm : X.mg x = some (.ref f)) (hk : PySem.W.keepIn X.K (.ref f) = true) (hb : Binds X.K fd ps [])
    (ha : PA X (e :: es) t) (hdb : (x == ("__debug__" : Str)) = false := by decide) (he : starEach (e :: es) X.env = (false, eval e X.env) :: starEach es X.env := by rfl) (hpl : (backTo pos (starEach es X.env)).any (·.1) = false := by rfl) :
    PE X (.Call (.Name x p) (e :: es) [] pos) (tCall sp [] E0 t) := by
  intro pins s σ H Q I h
  refine wpAny_Call_Name_kw (ld_glob I hg hm ?_ hdb)
  refine PySem.W.callWith_K (h₀ := X.base) I.ok.mod.kin hk (thn (ha pos pins s σ H _ I h) fun us s1 ⟨vs, H1, I1, r, q⟩ => ⟨I1.kIn, ?_⟩) he hpl
  have q : sp (vs ++ []) H1 Q E0 := q
  rw [List.append_nil] at q
  have hl : (us ++ []).length = ps.length := by rw [List.append_nil, ← r.length]; exact F.len _ _ _ _ q
  have hb1 := hb s1 us I1.kIn hl
  rw [List.append_nil] at hb1
  refine wpAny_call (codeAny_mono (F.run X.A X.stack s1 H1 ⟨us, []⟩ us vs Q E0 hr I1.env0 hb1 r q) fun r s' hq => ?_)
  cases r with
  | error e => exact hq.elim
  | ok fl =>
    cases fl with
    | ret u => exact I1.after hq
    | next => exact False.elim hq
    | brk => exact False.elim hq
    | cont => exact False.elim hq
end L2
set_option maxRecDepth 100000
namespace L2
open PySem PySem.Spec PyProof.Rows PySem.W
abbrev bmV : List Value := [.type "ValueError", .type "Exception", .type "BaseException", .type "object"]
def excSeen (K : Frag) (CH c : Addr) : Bool := excIn K c bmV "ValueError.__new__" && excIn K CH bmV "ValueError.__new__" && (subIn K (.ref c) (.ref CH) == some true) && (findIn K (.ref c) "__getattribute__" == some (some (.builtin "BaseException.__getattribute__"))) &&
  (findIn K (.ref c) "__getattr__" == some none) && (findIn K (.ref c) "__class__" == some (some (.builtin "object.__class__"))) && (subIn K (.ref c) (.type "BaseException") == some true) && (subIn K (.ref c) (.type "object") == some true) && (kitOne K (.ref c) (.type "ValueError") == some true)
def kindSeen (K : Frag) (c : Addr) (ds : List Addr) (bs : List Bool) : Bool := (ds.map fun d => kitOne K (.ref c) (.ref d)) == bs.map some
theorem exc_obj {K : Frag} {h : Heap} {C : Addr} {bmB : List Value} {newId : String} (X : K.In h) (q : excIn K C bmB newId = true) : ∃ cd : ClassData, (∃ dd sl, K.lookup C = some ⟨.type "type", dd, .cls cd, sl⟩) ∧
    ∃ bm N nm q bs hdct sn sub ab col dd k0 k1 k2 k3 k5 mN, cd.mro = .ref C :: bm ∧ h.get? C = some (excClassObj nm q C N bs bm hdct sn sub ab col dd k0 k1 k2 k3 k5 newId) ∧ h.Ns N mN ∧ mN "__init__" = none ∧ OwnTail h bmB bm := by
  unfold excIn at q
  split at q
  · rename_i dd cd sl ho
    split at q
    · rename_i C' bm k0 k1 k2 k3 n k5 hm hs
      simp only [Bool.and_eq_true, beq_iff_eq, Bool.not_eq_true'] at q
      obtain ⟨⟨⟨⟨⟨rfl, rfl⟩, hdel⟩, ht⟩, hok⟩, hni⟩ := q
      refine ⟨cd, ⟨dd, sl, ho⟩, ?_⟩
      obtain ⟨nm, bs, mro, ns, qn, hd, sn, sub, ab, col, del⟩ := cd
      dsimp only at hm hdel hok hni
      subst hm hdel
      have hsl : sl = #[k0, k1, k2, k3, some (.builtin n), k5] := by
        obtain ⟨l⟩ := sl
        simp only at hs
        rw [hs]
      subst hsl
      exact ⟨bm, ns, nm, qn, bs, hd, sn, sub, ab, col, dd, k0, k1, k2, k3, k5, _, rfl, X _ _ ho, .of_isNs (isNs_of_in X hok), nsMap_none_of_in X hok hni, tail_of_in X ht⟩
    · cases q
  · cases q
theorem own_exc {K : Frag} {h : Heap} {mg : Str → Option Value} {x : Str} {C : Addr} {bmB : List Value} {newId : String} (X : K.In h) (m : mg x = some (.ref C)) (q : excIn K C bmB newId = true) : OwnCls x C bmB newId mg h := by
  obtain ⟨_, _, bm, N, nm, q, bs, hdct, sn, sub, ab, col, dd, k0, k1, k2, k3, k5, mN, _, r⟩ := exc_obj X q
  exact ⟨m, bm, N, nm, q, bs, hdct, sn, sub, ab, col, dd, k0, k1, k2, k3, k5, mN, r⟩
structure ExcOk (K : Frag) (CH c : Addr) : Prop where
  ex : excIn K c bmV "ValueError.__new__" = true
  exH : excIn K CH bmV "ValueError.__new__" = true
  sub : subIn K (.ref c) (.ref CH) = some true
  lk : ExcLooks K c
  val : kitOne K (.ref c) (.type "ValueError") = some true
theorem ExcOk.of {K : Frag} {CH c : Addr} (h : excSeen K CH c = true) : ExcOk K CH c := by
  unfold excSeen at h
  simp only [Bool.and_eq_true, beq_iff_eq] at h
  obtain ⟨⟨⟨⟨⟨⟨⟨⟨a, b⟩, c⟩, d⟩, e⟩, f⟩, g⟩, i⟩, j⟩ := h
  exact ⟨a, b, c, ⟨d, e, f, g, i⟩, j⟩
theorem ExcOk.obj {K : Frag} {CH c : Addr} (h : ExcOk K CH c) : ∃ cd dd sl, K.lookup c = some ⟨.type "type", dd, .cls cd, sl⟩ := by
  have q := h.ex
  unfold excIn at q
  split at q
  · rename_i dd cd sl ho
    exact ⟨cd, dd, sl, ho⟩
  · cases q
theorem ExcOk.catches {K : Frag} {CH c : Addr} (o : ExcOk K CH c) {h : Heap} (X : K.In h) : Catches h CH c := by
  obtain ⟨cd, ⟨dd0, sl0, hl⟩, bm, N, nm, q, bs, hdct, sn, sub, ab, col, dd, k0, k1, k2, k3, k5, mN, em, hC, _⟩ := exc_obj X o.ex
  obtain ⟨cd', _, bm', N', nm', q', bs', hdct', sn', sub', ab', col', dd', j0, j1, j2, j3, j5, mN', em', hH, _, _, T'⟩ := exc_obj X o.exH
  refine ⟨⟨nm, q, N, bs, bm, hdct, sn, sub, ab, col, dd, k0, k1, k2, k3, k5, _, hC, ?_⟩, ⟨nm', q', N', bs', bm', hdct', sn', sub', ab', col', dd', j0, j1, j2, j3, j5, _, hH, T'.hasType (by decide)⟩⟩
  have s := o.sub
  have hc : clsIn K c = some cd := by unfold clsIn; rw [hl]
  have s : ((clsIn K c).bind fun cd => if cd.mro.isEmpty = true then none else some (cd.mro.contains (Value.ref CH))) = some true := s
  rw [hc] at s
  simp only [Option.bind_some] at s
  rw [em, if_neg (by simp)] at s
  exact Option.some.inj s
theorem kinds_of {K : Frag} {c : Addr} {ds : List Addr} {bs : List Bool} (h : kindSeen K c ds bs = true) : (ds.map fun d => kitOne K (.ref c) (.ref d)) = bs.map some := by
  unfold kindSeen at h
  exact beq_iff_eq.mp h
theorem ps_raiseE {X : Cx} {E : XK} {x : Str} {CH C : Addr} {e₀ : Expr} {rest : List Expr} {ta : TA} {np cpos pos : Pos} (m : X.mg x = some (.ref C)) (o : ExcOk X.K CH C) (hR : Raises X E) (hc : X.calm = true) (hg : Gl X x) (ha : PA X (e₀ :: rest) ta)
    (he : starEach (e₀ :: rest) X.env = (false, eval e₀ X.env) :: starEach rest X.env := by rfl) (hplain : (backTo cpos (starEach rest X.env)).any (·.1) = false := by rfl) (hd : (x == ("__debug__" : Str)) = false := by decide) :
    PS X (.Raise (some (.Call (.Name x np) (e₀ :: rest) [] cpos)) none pos) (tRaise (.ref C) ta E) := fun pins s σ H D I h =>
  ps_raise (own_exc I.ok.mod.kin m o.ex) PySem.F.excBase_ValueError hR hc hg ha he hplain hd pins s σ H D I h
theorem FnOk.lift {P : Program} {w : World} {K : Frag} {mg : Str → Option Value} {base : Heap} {CX : CXT} {k : Nat} {f : Addr} {fd : FuncData} {ps : List Str} {sp : Sp} (F : FnOk P w K mg base CX0 k f fd ps sp) : FnOk P w K mg base CX k f fd ps sp :=
  ⟨F.len, fun A outer s H args us vs Q E hr e0 hb hv hs => codeAny_mono (F.run A outer s H args us vs Q E hr e0 hb hv hs) fun r s' q => by
    cases r with
    | error e => exact q.elim
    | ok fl =>
      cases fl with
      | ret u => exact q
      | next => exact q
      | brk => exact q
      | cont => exact q⟩
theorem FnOk.or {P : Program} {w : World} {K : Frag} {mg : Str → Option Value} {base : Heap} {CX : CXT} {k : Nat} {f : Addr} {fd : FuncData} {ps : List Str} {sp sp' : Sp} (F : FnOk P w K mg base CX k f fd ps sp) (G : FnOk P w K mg base CX k f fd ps sp') :
    FnOk P w K mg base CX k f fd ps (fun vs H Q E => sp vs H Q E ∨ sp' vs H Q E) :=
  ⟨fun vs H Q E h => h.elim (F.len vs H Q E) (G.len vs H Q E), fun A outer s H args us vs Q E hr e0 hb hv hs => hs.elim (F.run A outer s H args us vs Q E hr e0 hb hv) (G.run A outer s H args us vs Q E hr e0 hb hv)⟩
end L2
set_option maxRecDepth 100000
namespace L2
open PySem PySem.Spec PyProof.Rows PySem.W
structure Field1 (R : Array Value → Prop) : Prop where
  set : ∀ vs v, R vs → R (vs.setIfInBounds 1 v)
def TrR (R : Array Value → Prop) (h base : Heap) (e : Addr) (cls fl : Value) : Prop :=
  ∃ oe vs T oT ts, h.get? e = some oe ∧ oe.cls = cls ∧ oe.data = .fields vs ∧ 4 < vs.size ∧ R vs ∧ vs[1]? = some (.ref T) ∧ base.get? T = none ∧ T ≠ e ∧ h.get? T = some oT ∧ oT.data = .fields ts ∧ ts[3]? = some fl
structure FlyR (R : Array Value → Prop) (base : Heap) (l : List Env) (e : Addr) (cls fl : Value) (h : Heap) : Prop where
  stays : base.StaysIn h
  new : base.get? e = none
  funs : h.FunFrames base l
  tr : TrR R h base e cls fl
theorem FlyR.outer {R : Array Value → Prop} {base h : Heap} {env : Env} {l : List Env} {e : Addr} {cls fl : Value} (f : FlyR R base (env :: l) e cls fl h) : FlyR R base l e cls fl h := ⟨f.stays, f.new, f.funs.2.2, f.tr⟩
section
variable {M : Model} {A : Around} {E : Value → Shared → Prop} {s : Shared} {R : Array Value → Prop}
theorem entryR {base : Heap} {env : Env} {outer : List Env} {L e : Addr} {oe : Obj} {vs : Array Value} {head : Value} {hadNext : Bool} {Q : Unit → Shared → Prop} (hR : Field1 R)
    (hfr : A.frames = some (env :: outer)) (hl : s.heap.FunFrames base (env :: outer)) (hf : env.frame = some L) (he : s.heap.get? e = some oe) (hkb : base.StaysIn s.heap) (hen : base.get? e = none) (hd : oe.data = .fields vs) (hsz : 4 < vs.size) (hr : R vs)
    (h : ∀ h', FlyR R base (env :: outer) e oe.cls (rawInt L) h' → s.heap.UpToSlots h' → Q () { s with heap := h' }) :
    wpAny M A (do let a ← frameOf env; let pl ← entryPlaceOf L hadNext; let b ← EntryCells.newEntry head a .none (rawInt L) .none pl; setField (.ref e) 1 b) Q E s := by
  have hene : e ∉ (env :: outer).filterMap (·.frame) := fun hm => by
    obtain ⟨_, o, ho, hnf⟩ := hl.mem hm
    rw [he] at ho; cases ho; exact hnf vs hd
  refine wpAny_bind (wpAny_frameOf_fun hfr hl hf fun h1 sl1 => wpAny_bind (wpAny_entryPlaceOf fun pl hpl => ?_))
  unfold EntryCells.newEntry newFields
  refine wpAny_bind (wpAny_newObj_type ?_ (hpl.sizeOk5 _ _ _ _ _))
  have he1 : h1.get? e = some oe := (sl1.2.1 e hene).trans he
  have kb1 : base.StaysIn h1 := fun b o hbo => (sl1.2.1 b fun hm => by rw [(hl.mem hm).1] at hbo; cases hbo).trans (hkb b o hbo)
  have ht3 : ∃ ts, ({ cls := .type "traceback", dict := none, data := .fields ([head, .ref L, .none, rawInt L, .none] ++ (if pl.isEmpty then List.replicate 6 Value.none else pl)).toArray } : Obj).data = .fields ts ∧ ts[3]? = some (rawInt L) :=
    ⟨_, rfl, by first | (simp; done) | (rcases hpl with rfl | ⟨_, _, _, _, _, _, _, rfl⟩ <;> simp)⟩
  generalize ({ cls := .type "traceback", dict := none, data := .fields ([head, .ref L, .none, rawInt L, .none] ++ (if pl.isEmpty then List.replicate 6 Value.none else pl)).toArray } : Obj) = ob at ht3 ⊢
  have hfreed : ob.isFreed = false := by
    obtain ⟨ts, e1, _⟩ := ht3
    exact Obj.isFreed_of_fields e1
  have he2 := Heap.get?_push_of_some (h := h1) ob he1
  refine wpAny_setField he2 hd (by omega) (h _ ?_ ?_)
  all_goals
    have hTe : h1.objs.size ≠ e := Nat.ne_of_gt (Heap.lt_size he1)
    have keep : ∀ b o, b ≠ e → h1.get? b = some o → ((h1.push ob).update e (Obj.mapFields (·.setIfInBounds 1 (Value.ref h1.objs.size)))).get? b = some o := fun b o hbe hb => by
      rw [Heap.get?_update_other _ _ (Ne.symm hbe)]
      exact Heap.get?_push_of_some _ hb
    have noRec : ∀ b o, s.heap.get? b = some o → (∀ vs, o.data ≠ .fields vs) → b ≠ e := fun b o hb hnf q => by
      rw [q, he] at hb; cases hb; exact hnf vs hd
  · have hd3 := Obj.data_mapFields hd (·.setIfInBounds 1 (Value.ref h1.objs.size))
    have he3 := Heap.get?_update_self (Obj.mapFields (·.setIfInBounds 1 (Value.ref h1.objs.size))) he2 (Obj.isFreed_of_fields hd3)
    have hT3 := (Heap.get?_update_other (h1.push ob) (Obj.mapFields (·.setIfInBounds 1 (Value.ref h1.objs.size))) (Ne.symm hTe)).trans (Heap.get?_push_size h1 hfreed)
    obtain ⟨ts, t1, t2⟩ := ht3
    refine ⟨fun b o hbo => keep b o (fun q => by rw [q, hen] at hbo; cases hbo) (kb1 b o hbo), hen, hl.of_keeps fun b o hb hnf => ?_, ?_⟩
    · obtain ⟨sl, hs⟩ := sl1.2.2 b o hb
      exact ⟨_, keep b _ (noRec b o hb hnf) hs, rfl⟩
    · exact ⟨_, _, h1.objs.size, ob, ts, he3, Obj.cls_mapFields _ _, hd3, by rw [Array.size_setIfInBounds]; exact hsz, hR.set _ _ hr, by rw [Array.getElem?_setIfInBounds_self_of_lt (by omega)], kb1.fresh, hTe, hT3, t1, t2⟩
  · intro b o hb hnf
    obtain ⟨sl, hs⟩ := sl1.2.2 b o hb
    exact ⟨sl, keep b _ (noRec b o hb hnf) hs⟩
theorem noteR {base : Heap} {env : Env} {outer : List Env} {L e : Addr} {cls fl : Value} {Q : Unit → Shared → Prop} (hR : Field1 R) (hfr : A.frames = some (env :: outer)) (hf : env.frame = some L) (f : FlyR R base (env :: outer) e cls fl s.heap)
    (h : ∀ h', FlyR R base (env :: outer) e cls (rawInt L) h' → s.heap.UpToSlots h' → Q () { s with heap := h' }) : wpAny M A (noteFrame (.ref e) env) Q E s := by
  obtain ⟨f1, f2, f3, oe, vs, T, oT, ts, he, hc, hd, hsz, hr, h1, hnT, hTe, hT, hdT, h3⟩ := f
  unfold noteFrame
  simp only [hf]
  refine wpAny_bind (wpAny_field he hd h1 ?_)
  rw [if_pos (show (Value.ref T != Value.none) = true from by simp)]
  refine wpAny_bind (wpAny_field hT hdT h3 ?_)
  by_cases hfl : fl == rawInt L
  · rw [if_pos hfl]
    have e : fl = rawInt L := by simpa using hfl
    exact wpAny_pure (h s.heap ⟨f1, f2, f3, oe, vs, T, oT, ts, he, hc, hd, hsz, hr, h1, hnT, hTe, hT, hdT, by rw [← e]; exact h3⟩ (Heap.UpToSlots.refl _))
  · rw [if_neg hfl]
    refine wpAny_bind (wpAny_setField hT hdT (Array.getElem?_eq_some_iff.mp h3).1 ?_)
    have other : ∀ b, b ≠ T → (s.heap.update T (Obj.mapFields (·.setIfInBounds 3 Value.none))).get? b = s.heap.get? b := fun b hb => Heap.get?_update_other _ _ (Ne.symm hb)
    have noRec : ∀ b o, s.heap.get? b = some o → (∀ vs, o.data ≠ .fields vs) → b ≠ T := fun b o hb hnf q => by
      rw [q, hT] at hb; cases hb; exact hnf ts hdT
    subst hc
    exact entryR hR hfr (f3.of_keeps fun b o hb hnf => ⟨o, (other b (noRec b o hb hnf)).trans hb, rfl⟩) hf ((other e (Ne.symm hTe)).trans he) (fun b o hbo => (other b fun q => by rw [q, hnT] at hbo; cases hbo).trans (f1 b o hbo)) f2 hd hsz hr
      fun h' g1 g2 => h h' g1 fun b o hb hnf => g2 b o ((other b (noRec b o hb hnf)).trans hb) hnf
theorem note1R {base : Heap} {env : Env} {outer : List Env} {L e : Addr} {oe : Obj} {vs : Array Value} {Q : Unit → Shared → Prop} (hR : Field1 R) (hfr : A.frames = some (env :: outer)) (hf : env.frame = some L) (hl : s.heap.FunFrames base (env :: outer))
    (he : s.heap.get? e = some oe) (hkb : base.StaysIn s.heap) (hen : base.get? e = none) (hd : oe.data = .fields vs) (hsz : 4 < vs.size) (h1 : vs[1]? = some .none) (hr : R vs)
    (h : ∀ h', FlyR R base (env :: outer) e oe.cls (rawInt L) h' → s.heap.UpToSlots h' → Q () { s with heap := h' }) : wpAny M A (noteFrame (.ref e) env) Q E s := by
  unfold noteFrame
  simp only [hf]
  refine wpAny_bind (wpAny_field he hd h1 ?_)
  rw [if_neg (by decide)]
  exact entryR hR hfr hl hf he hkb hen hd hsz hr h
theorem flightR {base : Heap} {l : List Env} {e : Addr} {cls fl : Value} {Q : Unit → Shared → Prop} (fr : Option Addr) (f : FlyR R base l e cls fl s.heap)
    (h : ∀ h', FlyR R base l e cls (fr.elim .none fun f => rawInt f) h' → s.heap.UpToSlots h' → Q () { s with heap := h' }) : wpAny M A (setFlight (.ref e) fr) Q E s := by
  obtain ⟨f1, f2, f3, oe, vs, T, oT, ts, he, hc, hd, hsz, hr, h1, hnT, hTe, hT, hdT, h3⟩ := f
  have hs3 : 3 < ts.size := (Array.getElem?_eq_some_iff.mp h3).1
  unfold setFlight
  refine wpAny_bind (wpAny_field he hd h1 ?_)
  rw [if_pos (show (Value.ref T != Value.none) = true from by simp)]
  refine wpAny_setField hT hdT hs3 (h _ ?_ ?_)
  all_goals
    have other : ∀ b, b ≠ T → (s.heap.update T (Obj.mapFields (·.setIfInBounds 3 (fr.elim Value.none fun f => rawInt f)))).get? b = s.heap.get? b := fun b hb => Heap.get?_update_other _ _ (Ne.symm hb)
    have noRec : ∀ b o, s.heap.get? b = some o → (∀ vs, o.data ≠ .fields vs) → b ≠ T := fun b o hb hnf q => by
      rw [q, hT] at hb; cases hb; exact hnf ts hdT
  · exact ⟨fun b o hbo => (other b fun q => by rw [q, hnT] at hbo; cases hbo).trans (f1 b o hbo), f2, f3.of_keeps fun b o hb hnf => ⟨o, (other b (noRec b o hb hnf)).trans hb, rfl⟩, oe, vs, T, _, _, (other e (Ne.symm hTe)).trans he, hc, hd, hsz, hr, h1, hnT, hTe,
      Heap.get?_update_self _ hT (Obj.isFreed_of_fields (Obj.data_mapFields hdT _)), Obj.data_mapFields hdT _, by simp [hs3]⟩
  · intro b o hb hnf
    exact ⟨o.slots, (other b (noRec b o hb hnf)).trans hb⟩
theorem leaveR {base : Heap} {env : Env} {outer : List Env} {L e : Addr} {cls fl : Value} {Q : Unit → Shared → Prop} (hR : Field1 R) (hfr : A.frames = some (env :: outer)) (hf : env.frame = some L) (f : FlyR R base (env :: outer) e cls fl s.heap)
    (h : ∀ h', FlyR R base outer e cls .none h' → s.heap.UpToSlots h' → Q () { s with heap := h' }) : wpAny M A (leaving env (.ref e)) Q E s := by
  unfold leaving
  exact wpAny_bind (noteR hR hfr hf f fun h1 g1 u1 => flightR none g1 fun h2 g2 u2 => h h2 g2.outer (u1.trans u2))
theorem leave1R {base : Heap} {env : Env} {outer : List Env} {L e : Addr} {oe : Obj} {vs : Array Value} {Q : Unit → Shared → Prop} (hR : Field1 R) (hfr : A.frames = some (env :: outer)) (hf : env.frame = some L) (hl : s.heap.FunFrames base (env :: outer))
    (he : s.heap.get? e = some oe) (hkb : base.StaysIn s.heap) (hen : base.get? e = none) (hd : oe.data = .fields vs) (hsz : 4 < vs.size) (h1 : vs[1]? = some .none) (hr : R vs)
    (h : ∀ h', FlyR R base outer e oe.cls .none h' → s.heap.UpToSlots h' → Q () { s with heap := h' }) : wpAny M A (leaving env (.ref e)) Q E s := by
  unfold leaving
  exact wpAny_bind (note1R hR hfr hf hl he hkb hen hd hsz h1 hr fun h1 g1 u1 => flightR none g1 fun h2 g2 u2 => h h2 g2.outer (u1.trans u2))
end
def CXR (R : Array Value → Prop) (P : Program) (w : World) : CXT := fun outer H s E e s' => ∃ (a : Addr) (C : Value) (B : Heap) (H' : Hp), e = .ref a ∧ s'.os = s.os ∧ AllBare s'.gens ∧ FlyR R B outer a C .none s'.heap ∧
  (∀ b o, s.heap.get? b = some o → b ∉ frs outer → ∃ o', B.get? b = some o') ∧ (∀ b x, H' b = some x → ∃ o, B.get? b = some o) ∧ Un (frs outer) [] H H' s.heap s'.heap ∧ HOk P w H' s'.heap ∧ E C none H'
def Flies (X : Cx) (R : Array Value → Prop) (E : XK) (e : Value) (s' : Shared) : Prop := ∃ (a : Addr) (C fl : Value) (B : Heap) (H' : Hp), e = .ref a ∧ s'.os = X.s₀.os ∧ AllBare s'.gens ∧ FlyR R B X.stack a C fl s'.heap ∧
  (∀ b o, X.s₀.heap.get? b = some o → b ∉ X.fs → ∃ o', B.get? b = some o') ∧ (∀ b x, H' b = some x → ∃ o, B.get? b = some o) ∧ Un X.fs [] X.H₀ H' X.s₀.heap s'.heap ∧ HOk X.prog X.w H' s'.heap ∧ E C none H'
def Lets (R : Array Value → Prop) (X : Cx) (E : XK) : Prop := ∀ e s', X.A.frames = some X.stack → Flies X R E e s' → X.xe e s'
section
variable {P : Program} {w : World} {K : PySem.W.Frag} {mg : Str → Option Value} {base : Heap} {N : List Str} {qual : Str} {scope : Scope} {f : Addr} {cd : Value} {A : Around} {outer : List Env} {s : Shared} {H : Hp} {E : XK} {R R' : Array Value → Prop}
theorem letsR (hR : Field1 R) : Lets R (cxOf (CXR R P w) P w K mg base N qual scope f cd A outer s H E) E := by
  rintro e s' hA ⟨a, C, fl, B, H', rfl, os, gens, fly, hs, ht, un, hok, q⟩
  refine leaveR hR hA rfl fly fun h2 fly2 up => ?_
  have fr : ∀ b ∈ frs outer, ∃ o, s'.heap.get? b = some o ∧ ∀ vs, o.data ≠ .fields vs := fun b hb => (fly.outer.funs.mem hb).2
  exact ⟨a, C, B, H', rfl, os, gens, fly2, hs, ht, fly_un hs fly.stays fly2.stays fr un up, fly_ok ht fly.stays fly2.stays hok, q⟩
theorem passR (hR : Field1 R) (hRR : ∀ vs, R' vs → R vs) : Passes (CXR R' P w) (cxOf (CXR R P w) P w K mg base N qual scope f cd A outer s H E) E := by
  intro pins σ H1 s1 e s' I h
  obtain ⟨a, C, B, H', rfl, os, gens, fl, hs, ht, un, hok, q⟩ := h
  have I2 := I.call' (s' := s') os un hok gens (fun b z => absurd z (by simp))
  have hs' : ∀ b o, s.heap.get? b = some o → b ∉ frs outer → ∃ o', B.get? b = some o' := fun b o e nb => by
    obtain ⟨o1, e1⟩ := I.base.there b o e (by simp [cxOf])
    refine hs b o1 e1 fun hb => ?_
    rcases List.mem_cons.mp (I.stkSub b hb) with z | z
    · exact absurd (Nat.lt_of_lt_of_le (Heap.lt_size e) (by rw [z]; exact I.ok.above)) (Nat.lt_irrefl _)
    · exact nb z
  obtain ⟨oe, vs, T, oT, ts, he, hc, hd, hsz, hr, rest⟩ := fl.tr
  exact letsR hR _ _ I.ok.frames ⟨a, C, .none, B, H', rfl, I2.os, gens, ⟨fl.stays, fl.new, fl.funs, oe, vs, T, oT, ts, he, hc, hd, hsz, hRR _ hr, rest⟩, hs', ht, I2.base, hok, q⟩
theorem raisesR (hR : Field1 R) (h0 : ∀ t, R #[.ref t, .none, .none, .none, .bool false, .none]) : Raises (cxOf (CXR R P w) P w K mg base N qual scope f cd A outer s H E) E := by
  intro pins σ H1 s1 h' e C vs I mk q
  have inS : ∀ env ∈ (cxOf (CXR R P w) P w K mg base N qual scope f cd A outer s H E).stack, ∀ b, env.frame = some b → b ∈ frs (cxOf (CXR R P w) P w K mg base N qual scope f cd A outer s H E).stack := fun env he b hb => List.mem_filterMap.mpr ⟨env, he, hb⟩
  have f1 : (hideAll s1.heap (frs (cxOf (CXR R P w) P w K mg base N qual scope f cd A outer s H E).stack)).StaysIn s1.heap := fun b o z => of_hideAll _ z
  obtain ⟨t, het, htn, htt⟩ := mk.there
  have fresh : ∀ b, s1.heap.get? b = none → (hideAll s1.heap (frs (cxOf (CXR R P w) P w K mg base N qual scope f cd A outer s H E).stack)).get? b = none := fun b hb => by
    cases hq : (hideAll s1.heap (frs (cxOf (CXR R P w) P w K mg base N qual scope f cd A outer s H E).stack)).get? b with
    | none => rfl
    | some o' => have := f1 b o' hq; rw [hb] at this; cases this
  have there : ∀ b o, s1.heap.get? b = some o → b ∉ frs (cxOf (CXR R P w) P w K mg base N qual scope f cd A outer s H E).stack → (hideAll s1.heap (frs (cxOf (CXR R P w) P w K mg base N qual scope f cd A outer s H E).stack)).get? b = some o := fun b o e nb => hideAll_get _ e nb
  have hs' : ∀ b o, s.heap.get? b = some o → b ∉ frs outer → ∃ o', (hideAll s1.heap (frs (cxOf (CXR R P w) P w K mg base N qual scope f cd A outer s H E).stack)).get? b = some o' := fun b o e nb => by
    obtain ⟨o1, e1⟩ := I.base.there b o e (by simp [cxOf])
    refine ⟨o1, there b o1 e1 fun hb => ?_⟩
    rcases List.mem_cons.mp (I.stkSub b hb) with z | z
    · exact absurd (Nat.lt_of_lt_of_le (Heap.lt_size e) (by rw [z]; exact I.ok.above)) (Nat.lt_irrefl _)
    · exact nb z
  have ht : ∀ b x, H1 b = some x → ∃ o, (hideAll s1.heap (frs (cxOf (CXR R P w) P w K mg base N qual scope f cd A outer s H E).stack)).get? b = some o := fun b x e => by
    obtain ⟨o, eo⟩ := (I.hok b x e).there
    exact ⟨o, there b o eo fun hb => by rw [I.stkFree b hb] at e; cases e⟩
  refine leave1R (s := { s1 with heap := h' }) (base := hideAll s1.heap (frs (cxOf (CXR R P w) P w K mg base N qual scope f cd A outer s H E).stack)) hR I.ok.frames rfl ((funFrames_hide I.stack inS).of_keeps fun b o hb _ => ⟨o, mk.keeps b o hb, rfl⟩) het (fun b o hb => mk.keeps b o (f1 b o hb)) (fresh e mk.new) rfl (by show 4 < 6; decide) rfl (h0 t) fun h2 fl up => ?_
  have up1 : s1.heap.UpToSlots h2 := (Heap.UpToSlots.of_keeps mk.keeps).trans up
  have fr : ∀ b ∈ frs outer, ∃ o, s1.heap.get? b = some o ∧ ∀ vs, o.data ≠ .fields vs := fun b hb => (I.funs.mem hb).2
  exact ⟨e, C, _, H1, rfl, I.os, I.bare, fl, hs', ht, fly_un hs' f1 fl.stays fr I.base up1, fly_ok ht f1 fl.stays I.hok, q⟩
theorem Fun.okR {x qual : Str} {st : Stmt} {f : Addr} {fd : FuncData} {N ps : List Str} {k : Nat} {sp : Sp} (F : Fun K x qual st f fd) (S : FnScope N ps (defScope st)) (len : ∀ vs H Q E, sp vs H Q E → vs.length = ps.length)
    (hbody : ∀ (cdv : Value) (A : Around) (outer : List Env) (s : Shared) (H : Hp) (vs : List V) (Q : VK) (E : XK), Room k (A.deeper (envOfC qual (defScope st) s.heap.objs.size f cdv)) → sp vs H Q E →
      ∃ t, PSs (cxOf (CXR R P w) P w K mg base N qual (defScope st) f cdv A outer s H E) (defBody st) t ∧ t { nx := fun _ H' => Q .non H', rt := Q } (start N vs) H) : FnOk P w K mg base (CXR R P w) (k + 1) f fd ps sp := by
  obtain ⟨oc, od, kV, doc, pm, an, cdv, ct, osl, rfl, lk, hcd⟩ := F.ex
  exact fn_of lk hcd S len fun A outer s H vs Q E hr hsp => hbody cdv A outer s H vs Q E hr hsp
theorem FnOk.toE {k : Nat} {f : Addr} {fd : FuncData} {ps : List Str} {sp : Sp} (F : FnOk P w K mg base (CXR R P w) k f fd ps sp) : FnOk P w K mg base (CXE P w) k f fd ps sp :=
  ⟨F.len, fun A outer s H args us vs Q E hr e0 hb hv hs => codeAny_mono (F.run A outer s H args us vs Q E hr e0 hb hv hs) fun r s' q => by
    cases r with
    | error e =>
      obtain ⟨a, C, B, H', e1, os, gens, fl, hs, ht, un, hok, q⟩ := q
      obtain ⟨oe, vs, T, oT, ts, he, hc, hd, hsz, hr, h1, hnT, hTe, hT, hdT, h3⟩ := fl.tr
      exact ⟨a, C, vs[0]'(by omega), B, H', e1, os, gens, ⟨fl.stays, fl.new, fl.funs, oe, vs, T, oT, ts, he, ⟨hc, by simp⟩, hd, h1, hnT, hTe, hT, hdT, h3⟩, hs, ht, un, hok, q⟩
    | ok fl =>
      cases fl with
      | ret u => exact q
      | next => exact q
      | brk => exact q
      | cont => exact q⟩
end
end L2
set_option maxRecDepth 100000
namespace L2
open PySem PySem.Spec PyProof.Rows Geo PySem.W STab
def CFlies (X : Cx) (R : Array Value → Prop) (E : XK) (Cf : Addr) (e : Value) (s' : Shared) : Prop := ∃ (a : Addr) (C fl : Value) (B : Heap) (H' : Hp), e = .ref a ∧ s'.os = X.s₀.os ∧ AllBare s'.gens ∧ FlyR R B X.stack a C fl s'.heap ∧
  (∀ b o, X.s₀.heap.get? b = some o → b ∉ X.fs → ∃ o', B.get? b = some o') ∧ (∀ b x, H' b = some x → ∃ o, B.get? b = some o) ∧ Un X.fs [] X.H₀ H' X.s₀.heap s'.heap ∧ HOk X.prog X.w H' s'.heap ∧ E C none H' ∧ H' Cf = none ∧ ∃ oC, B.get? Cf = some oC
theorem funFrames_base {base base' h : Heap} (k : ∀ b, base.get? b = none → base'.get? b = none) : ∀ {l : List Env}, h.FunFrames base l → h.FunFrames base' l
  | [], _ => trivial
  | _ :: _, ⟨hk, ⟨L, o, hf, hn, ho, hd⟩, hr⟩ => ⟨hk, ⟨L, o, hf, k L hn, ho, hd⟩, funFrames_base k hr⟩
theorem CFlies.goes {X : Cx} {R : Array Value → Prop} {E : XK} {Cf : Addr} {e : Value} {s' : Shared} {h' : Heap} (f : CFlies X R E Cf e s') (hC : X.s₀.heap.objs.size ≤ Cf) (sb : Heap.SameBut Cf s'.heap h') : Flies X R E e { s' with heap := h' } := by
  obtain ⟨a, C, fl, B, H', rfl, os, gens, fly, hs, ht, un, hok, q, nC, oC, hB⟩ := f
  have old : ∀ b o, X.s₀.heap.get? b = some o → b ≠ Cf := fun b o e z => absurd (Nat.lt_of_lt_of_le (Heap.lt_size e) (by rw [z]; exact hC)) (Nat.lt_irrefl _)
  have hid : ∀ b, B.get? b = none → (hideAll B [Cf]).get? b = none := fun b hb => by
    cases hq : (hideAll B [Cf]).get? b with
    | none => rfl
    | some o' => have := of_hideAll _ hq; rw [hb] at this; cases this
  have ne : ∀ b, B.get? b = none → b ≠ Cf := fun b hb z => by rw [z, hB] at hb; cases hb
  obtain ⟨oe, vs, T, oT, ts, he, hc, hd, hsz, hr, h1, hnT, hTe, hT, hdT, h3⟩ := fly.tr
  refine ⟨a, C, fl, hideAll B [Cf], H', rfl, os, gens, ⟨fun b o hb => ?_, hid _ fly.new, ?_, oe, vs, T, oT, ts, (sb.2 _ (ne _ fly.new)).trans he, hc, hd, hsz, hr, h1, hid _ hnT, hTe, (sb.2 _ (ne _ hnT)).trans hT, hdT, h3⟩, fun b o e nb => ?_, fun b x e => ?_, ⟨?_, ?_, un.free, ?_, un.tups, un.frzs, un.tbls⟩, fun b x e => ?_, q⟩
  · have nb : b ≠ Cf := fun z => by rw [z, hideAll_none [Cf] (by simp)] at hb; cases hb
    exact (sb.2 b nb).trans (fly.stays b o (of_hideAll _ hb))
  · refine funFrames_base hid ?_
    have : ∀ {l : List Env}, s'.heap.FunFrames B l → Heap.FunFrames h' B l := fun {l} => by
      induction l with
      | nil => exact fun _ => trivial
      | cons env rest ih =>
        rintro ⟨hk, ⟨L, o, hf, hn, ho, hd⟩, hr⟩
        exact ⟨hk, ⟨L, o, hf, hn, (sb.2 L (ne L hn)).trans ho, hd⟩, ih hr⟩
    exact this fly.funs
  · obtain ⟨o', e'⟩ := hs b o e nb
    exact ⟨o', hideAll_get _ e' (by simpa using old b o e)⟩
  · obtain ⟨o', e'⟩ := ht b x e
    exact ⟨o', hideAll_get _ e' (by simpa using fun z : b = Cf => by rw [z, nC] at e; cases e)⟩
  · intro b o e n hb hx
    exact (sb.2 b (old b o e)).trans (un.keep b o e n hb hx)
  · intro b o e n hb hx
    obtain ⟨sl, e1⟩ := un.slot b o e n hb hx
    exact ⟨sl, (sb.2 b (old b o e)).trans e1⟩
  · intro b o e hx
    obtain ⟨o', e1⟩ := un.there b o e hx
    exact ⟨o', (sb.2 b (old b o e)).trans e1⟩
  · refine (hok b x e).stay (fun c u hc z => (sb.2 c ?_).trans z) (fun _ z => z) fun _ _ z => z
    rintro rfl
    rcases hc with z | z
    · rw [z, e] at nC; cases nC
    · rw [z] at nC; cases nC
theorem Lets.passOn {X : Cx} {R : Array Value → Prop} {E : XK} {α : Type} {what : String} {e : Value} {cenv : Env} {s' : Shared} {Q : α → Shared → Prop} (hL : Lets R X E) (hst : X.stack = X.env :: X.outer) (hA : X.A.frames = some X.stack) (f : Flies X R E e s') :
    wpAny (model X.prog X.w) X.A (PySem.passOn what e cenv : Sem α) Q X.xe s' := by
  obtain ⟨a, C, fl, B, H', rfl, os, gens, fly, hs, ht, un, hok, q⟩ := f
  have fly0 := fly
  obtain ⟨f1, f2, f3, oe, vs, T, oT, ts, he, hc, hd, hsz, hr, h1, hnT, hTe, hT, hdT, h3⟩ := fly0
  unfold PySem.passOn
  refine wpAny_bind (wpAny_field he hd h1 ?_)
  rw [if_neg (by simp)]
  refine wpAny_bind (flightR cenv.frame fly fun h2 fly2 up => wpAny_throw (hL _ _ hA ?_))
  have fr : ∀ b ∈ X.fs, ∃ o, s'.heap.get? b = some o ∧ ∀ vs, o.data ≠ .fields vs := fun b hb => by
    have fo := fly
    rw [hst] at fo
    exact (fo.outer.funs.mem hb).2
  exact ⟨a, C, _, B, H', rfl, os, gens, fly2, hs, ht, fly_un hs fly.stays fly2.stays fr un up, fly_ok ht fly.stays fly2.stays hok, q⟩
section
variable {X : Cx} {scope : Scope} {N' : List Str} {caps : List (Option Nat)} {tg iter elt : Expr} {ifs : List Expr} {wi : TI} {g : TG} {tt : TT} {te : TE} {pos : Pos} {R : Array Value → Prop} {EE : XK}
theorem comp_coreE (S : CompScope X scope N' caps) (hc : X.calm = true) (hg : ∀ C s3 H3 fp pins, PG (compCx X N' scope C s3 H3 fp pins) tg g) (ht : ∀ C s3 H3 fp pins, PIf (compCx X N' scope C s3 H3 fp pins) ifs tt) (he : ∀ C s3 H3 fp pins (xe' : Value → Shared → Prop), Passes (CXR R X.prog X.w) ((compCx X N' scope C s3 H3 fp pins).wish xe') EE → PE ((compCx X N' scope C s3 H3 fp pins).wish xe') elt te)
    {pins : List (Addr × Obj)} {σ : St} {H : Hp} {s2 : Shared} {it : Addr} {fp : List Addr} {tn : Nat → Heap → Prop} {J : It} {Q : VK} {E : Value → Shared → Prop} {RR : Value → Addr → Result → Shared → Prop}
    (I : Inv X pins σ H s2) (T : Turn X.prog X.w X.K tg J fp it tn) (st : tn 0 s2.heap) (hfp : ∀ b ∈ fp, FpOk X pins H b)
    (rd : ∀ D, H D = none → ∃ W : Nat → Nat → St → Hp → Prop, (∃ m, W 0 m (capSt caps σ) (upd H D (.lst []))) ∧ ∀ i m σ' H', W i m σ' H' →
      (J.stop i H' ∧ Q (.ref D) H') ∨ (J.go i H' ∧ ∃ N : St → Hp → Prop, (∀ σ2 H2, N σ2 H2 → ∃ m', m' < m ∧ W (i + 1) m' σ2 H2) ∧
        ∀ x H2, J.yld i H' x H2 → g x σ' H2 fun σ3 H3 => tt σ3 H3 fun ok H4 => if ok = true then te σ3 H4 fun y H5 => ∃ ys, H5 D = some (.lst ys) ∧ ys.length < sizeLine ∧ N σ3 (upd H5 D (.lst (ys ++ [y]))) else N σ3 H4))
    (hst : X.stack = X.env :: X.outer) (hfrm : X.env.frame = some X.env.locals) (hR : Field1 R) (hex : X.ex = [])
    (finE : ∀ (D C : Addr) (e : Value) (s4 : Shared) (m : Str → Option Value), s4.heap.Ns C m → X.s₀.heap.objs.size ≤ C → CFlies X R EE C e s4 → RR (.ref D) C (.error e) s4)
    (fin : ∀ D C s' H', Inv X pins σ H' s' → FpOk X pins H' C → (∃ m, s'.heap.Ns C m) → Q (.ref D) H' → RR (.ref D) C (.ok .next) s') :
    wpAny (model X.prog X.w) X.A (newList []) (fun acc s3 => wpAny (model X.prog X.w) X.A (newFunctionEnv scope X.env.globals (cls scope.names X.env []) [] X.env.qual none .none (some X.env)) (fun cenv s4 =>
      codeAny (model X.prog X.w) X.A (.compStart (.ListComp elt [⟨tg, iter, ifs, 0⟩] scope pos) 0 (.ref it) acc { cenv with scope := relabel scope X.env }) (RR acc cenv.locals) s4) E s3) E s2 := by
  have nD : H s2.heap.objs.size = none := I.hok.fresh (Nat.le_refl _)
  obtain ⟨W, ⟨m0, w0⟩, turn⟩ := rd s2.heap.objs.size nD
  have hfl : ∀ b ∈ fp, b < s2.heap.objs.size := fun b hb => by
    obtain ⟨o, e, _⟩ := T.obj 0 _ st b hb
    exact Heap.lt_size e
  refine wpAny_newObj_type ?_
  have I3 : Inv X pins σ (upd H s2.heap.objs.size (.lst [])) { s2 with heap := s2.heap.push { cls := .type "list", dict := none, data := .seq ([] : List Value).toArray } } :=
    I.laid (t' := s2.toks) (fun b u e => Heap.get?_push_of_some _ e) (Nat.le_refl _) ⟨Nat.zero_le _, [], 0, .nil, Heap.get?_push_size _ rfl⟩
  have ps : (s2.heap.push { cls := .type "list", dict := none, data := .seq ([] : List Value).toArray }).objs.size = s2.heap.objs.size + 1 := Heap.size_push ..
  refine wpAny_newFunctionEnv S.nocell (by intro y hy; simp at hy) (fun h1 hns hsb => ?_) S.kind
  dsimp only at hns hsb ⊢
  generalize hH3 : s2.heap.push { cls := .type "list", dict := none, data := .seq ([] : List Value).toArray } = G3 at I3 hns hsb ps ⊢
  have kp : ∀ b o, G3.get? b = some o → h1.get? b = some o := fun b o e => (hsb.2 b (Nat.ne_of_lt (Heap.lt_size e))).trans (Heap.get?_push_of_some _ e)
  have nfp : ∀ b ∈ fp, b ≠ s2.heap.objs.size := fun b hb => Nat.ne_of_lt (hfl b hb)
  have hfp3 : ∀ b ∈ fp, FpOk X pins (upd H s2.heap.objs.size (.lst [])) b := fun b hb => ⟨by rw [upd_ne (nfp b hb)]; exact (hfp b hb).1, (hfp b hb).2⟩
  have I4 := comp_enter (fp := fp) (tk := s2.toks + ([] : List (Str × Value)).length) S I3 hfp3 (fun b hb => by show b < G3.objs.size; rw [ps]; exact Nat.lt_succ_of_lt (hfl b hb)) hns kp
  have st4 : tn 0 h1 := T.keep _ _ _ st fun b hb o e => kp b o (by rw [← hH3]; exact Heap.get?_push_of_some _ e)
  have stat : ∀ {H' : Hp}, (∀ b ∈ fp, H' b = none) → ∀ b ∈ fp, FpOk (compCx X N' scope G3.objs.size { s2 with heap := G3 } (upd H s2.heap.objs.size (.lst [])) fp pins) [] H' b := fun {H'} hn b hb => by
    obtain ⟨f0, f1, f2, f3, f4, f5⟩ := hfp b hb
    refine ⟨hn b hb, (I4.ok.exf b hb).1, I4.ok.exfs b hb, .inl hb, (I4.ok.exf b hb).2, fun p hp => ?_⟩
    have hp' : p ∈ (X.pn ++ pins) ++ [] := hp
    exact f5 p (by simpa using hp')
  have loop : codeAny (model X.prog X.w) X.A (.compLoop (.ListComp elt [⟨tg, iter, ifs, 0⟩] scope pos) 0 (.ref it) (.ref s2.heap.objs.size) (compEnvC scope (cls scope.names X.env []) G3.objs.size X.env))
      (RR (.ref s2.heap.objs.size) G3.objs.size) { s2 with heap := h1, toks := s2.toks + ([] : List (Str × Value)).length } := by
    refine codeAny_loop rfl (fun n s' => ∃ i σ' H', Inv (compCx X N' scope G3.objs.size { s2 with heap := G3 } (upd H s2.heap.objs.size (.lst [])) fp pins) [] σ' H' s' ∧ tn i s'.heap ∧ (∀ b ∈ fp, H' b = none) ∧ W i n σ' H') (fun n s5 hI => ?_) m0
      ⟨0, _, _, I4, st4, fun b hb => (hfp3 b hb).1, w0⟩
    obtain ⟨i, σ5, H5, I5, st5, fr5, w5⟩ := hI
    show wpAny _ X.A ((compTurn (.ListComp elt [⟨tg, iter, ifs, 0⟩] scope pos) 0 (.ref it) (.ref s2.heap.objs.size) (compEnvC scope (cls scope.names X.env []) G3.objs.size X.env)).onRaise (fun x => do noteFrame x (compEnvC scope (cls scope.names X.env []) G3.objs.size X.env); theTreesLotGoes x)) _ _ s5
    refine wpAny_noted ?_
    rw [compTurn_list]
    have nox : ∀ {α : Type} {t : Sem α} {R : α → Shared → Prop} {E' : Value → Shared → Prop} {s : Shared}, wpAny (model X.prog X.w) X.A t R (fun _ _ => False) s → wpAny (model X.prog X.w) X.A t R E' s := fun h => wpAny_mono h (fun _ _ x => x) fun _ _ z => z.elim
    rcases turn i n σ5 H5 w5 with ⟨stop, qn⟩ | ⟨go, N, hN, step⟩
    · refine wpAny_bind (wpAny_standAt (wpAny_bind (nox (thn (T.done (compCx X N' scope G3.objs.size { s2 with heap := G3 } (upd H s2.heap.objs.size (.lst [])) fp pins) rfl rfl rfl hc i [] s5 σ5 H5 _ I5 (stat fr5) st5 stop) fun r s6 ⟨hr, I6⟩ => ?_))))
      subst hr
      refine wpAny_pure ?_
      have un : Un (frs X.stack) fp (upd H s2.heap.objs.size (.lst [])) H5 G3 s6.heap := I6.base
      have I7 : Inv X pins σ H5 s6 := I3.call' (ch := fp) I6.os un I6.hok I6.bare fun b hb => by
        obtain ⟨_, f1, _, f3, f4, f5⟩ := hfp b hb
        exact ⟨f3, f1, f4, f5⟩
      have fC : FpOk X pins H5 G3.objs.size := I3.fpOk (Nat.le_refl _) I6.free
      obtain ⟨mC, hmC, _⟩ := I6.loc
      exact fin _ _ s6 H5 I7 fC ⟨mC, hmC⟩ qn
    · refine wpAny_bind (wpAny_standAt (wpAny_bind (nox (thn (T.item (compCx X N' scope G3.objs.size { s2 with heap := G3 } (upd H s2.heap.objs.size (.lst [])) fp pins) rfl rfl rfl hc i [] s5 σ5 H5 _ I5 (stat fr5) st5 go) fun r s6 ⟨u, hr, h6⟩ => ?_))))
      subst hr
      dsimp only
      refine wpAny_bind (nox (thn h6 fun _ s7 ⟨x, H7, I7, r7, y7, st7, fr7⟩ => ?_))
      have I7' := I7.pinned (stat fr7) (T.obj _ _ st7)
      refine wpAny_bind (nox (thn (hg _ _ _ _ _ _ s7 σ5 H7 x u _ I7' r7 (step x H7 y7)) fun _ s8 ⟨σ8, H8, I8, q8⟩ => ?_))
      refine wpAny_bind (nox (thn (ht _ _ _ _ _ _ s8 σ8 H8 _ I8 q8) fun ok s9 ⟨H9, I9, q9⟩ => ?_))
      have again : ∀ {s10 : Shared} {H10 : Hp}, Inv (compCx X N' scope G3.objs.size { s2 with heap := G3 } (upd H s2.heap.objs.size (.lst [])) fp pins) ([] ++ pinsAt fp s7.heap) σ8 H10 s10 → N σ8 H10 →
          ∃ m, m < n ∧ ∃ i σ' H', Inv (compCx X N' scope G3.objs.size { s2 with heap := G3 } (upd H s2.heap.objs.size (.lst [])) fp pins) [] σ' H' s10 ∧ tn i s10.heap ∧ (∀ b ∈ fp, H' b = none) ∧ W i m σ' H' := fun {s10 H10} J10 n10 => by
        obtain ⟨m', hm, w10⟩ := hN σ8 H10 n10
        refine ⟨m', hm, i + 1, σ8, H10, J10.unpinned, T.keep _ _ _ st7 fun b hb o e => (J10.pin (b, o) (List.mem_append_right _ (List.mem_append_right _ (mem_pinsAt hb e)))).1, fun b hb => ?_, w10⟩
        obtain ⟨o, e, d⟩ := T.obj _ _ st7 b hb
        exact (J10.pin (b, o) (List.mem_append_right _ (List.mem_append_right _ (mem_pinsAt hb e)))).2.1
      cases ok with
      | false =>
        rw [if_neg Bool.false_ne_true] at q9
        exact wpAny_pure ⟨rfl, again I9 q9⟩
      | true =>
        rw [if_pos rfl] at q9
        refine wpAny_bind (wpAny_bind (wpAny_mono (he G3.objs.size { s2 with heap := G3 } (upd H s2.heap.objs.size (.lst [])) fp pins (fun e s' => ∃ p2 σ1 H1 s1, Inv (compCx X N' scope G3.objs.size { s2 with heap := G3 } (upd H s2.heap.objs.size (.lst [])) fp pins) p2 σ1 H1 s1 ∧ CXR R X.prog X.w X.stack H1 s1 EE e s')
          (fun p2 σ1 H1 s1 e s' J z => ⟨p2, σ1, H1, s1, J.unwish, z⟩) _ s9 σ8 H9 _ (I9.wish _) q9) (fun y s10 ⟨yv, H10, I10, r10, ys, hD, hz, n10⟩ => ?_) fun e s10 z => ?_))
        rotate_left
        · obtain ⟨p2, σ1, H1, s1, J, a, C', B, H', rfl, os, gens, fl, hs, ht', un, hok, q⟩ := z
          have J0 : Inv X pins σ H1 s1 := I3.call' (ch := fp) J.os J.base J.hok J.bare fun b hb => by
            obtain ⟨_, f1, _, f3, f4, f5⟩ := hfp b hb
            exact ⟨f3, f1, f4, f5⟩
          have J2 : Inv X pins σ H' s10 := J0.call' (s' := s10) os un hok gens (fun b z => absurd z (by simp))
          obtain ⟨mC, hmC, _⟩ := id J.loc
          have hC0 : H1 G3.objs.size = none := J.free
          have hstk : G3.objs.size ∉ frs X.stack := fun hb => by
            rcases List.mem_cons.mp (I3.stkSub _ hb) with z | z
            · exact Nat.lt_irrefl _ (by have := I3.lt; rw [← z] at this; exact this)
            · exact I3.nofs (Nat.le_refl _) z
          obtain ⟨oC, es, ep, hoC, restC⟩ := hmC
          have keepC : s10.heap.get? G3.objs.size = some oC := un.keep _ _ hoC hC0 hstk (by simp)
          obtain ⟨oB, hoB⟩ : ∃ o, B.get? G3.objs.size = some o := hs _ _ hoC hstk
          have hB : B.get? G3.objs.size = some oC := by rw [hoB]; have := fl.stays _ _ hoB; rw [keepC] at this; exact this.symm
          have fA : X.A.frames = some (X.env :: X.outer) := by rw [← hst]; exact I.ok.frames
          have fl' := fl
          rw [hst] at fl'
          show wpAny (model X.prog X.w) X.A (noteFrame (.ref a) X.env) _ _ _
          refine noteR hR fA hfrm fl' fun h4 fl4 up4 => ?_
          have frO : ∀ b ∈ frs X.outer, ∃ o, s10.heap.get? b = some o ∧ ∀ vs, o.data ≠ .fields vs := fun b hb => (fl'.outer.funs.mem hb).2
          have hs' : ∀ b o, X.s₀.heap.get? b = some o → b ∉ X.fs → ∃ o', B.get? b = some o' := fun b o e nb => by
            have nb' : b ∉ X.ex → ∃ o1, s1.heap.get? b = some o1 := fun nx => J0.base.there b o e nx
            obtain ⟨o1, e1⟩ := nb' (by rw [hex]; simp)
            refine hs b o1 e1 fun hb => ?_
            rcases List.mem_cons.mp (J0.stkSub b hb) with z | z
            · exact absurd (Nat.lt_of_lt_of_le (Heap.lt_size e) (by rw [z]; exact J0.ok.above)) (Nat.lt_irrefl _)
            · exact nb z
          have un2 : Un X.fs [] X.H₀ H' X.s₀.heap s10.heap := by have := J2.base; rw [hex] at this; exact this
          refine finE s2.heap.objs.size G3.objs.size (.ref a) { s10 with heap := h4 } mC ⟨oC, es, ep, fl4.stays _ _ hB, restC⟩ (I3.sz) ⟨a, C', rawInt X.env.locals, B, H', rfl, J2.os, gens, by rw [hst]; exact fl4, hs', ht', fly_un hs' fl.stays fl4.stays frO un2 up4, fly_ok ht' fl.stays fl4.stays hok, q, un.free _ _ hoC hC0 (by simp), oC, hB⟩
        refine wpAny_bind (nox (thn (mt_append (X := compCx X N' scope G3.objs.size { s2 with heap := G3 } (upd H s2.heap.objs.size (.lst [])) fp pins) _ s10 σ8 H10 (.ref s2.heap.objs.size) [yv] (.ref s2.heap.objs.size) [y] (fun _ H' => H' = upd H10 s2.heap.objs.size (.lst (ys ++ [yv]))) I10.unwish rfl (.cons r10 .nil)
          ⟨s2.heap.objs.size, ys, yv, rfl, rfl, hD, hz, rfl⟩) fun _ s11 ⟨_, H11, I11, _, e11⟩ => ?_))
        subst e11
        exact wpAny_pure (wpAny_pure ⟨rfl, again I11 n10⟩)
  exact codeAny_compStart_list loop (T.self X.A 0 _ _ _ st4 loop)
theorem ps_setCE {i : Nat} {x : Str} {pos' spos : Pos} (hN : X.N.Nodup) (hi' : X.N[i]? = some x) (hx : X.env.scope.names.lookup x = some .local) (S : CompScope X scope N' caps) (hc : X.calm = true) (hst : X.stack = X.env :: X.outer) (hfrm : X.env.frame = some X.env.locals) (hex : X.ex = []) (hR : Field1 R) (hL : Lets R X EE)
    (hi : PI X tg iter wi) (hg : ∀ C s3 H3 fp pins, PG (compCx X N' scope C s3 H3 fp pins) tg g)
    (ht : ∀ C s3 H3 fp pins, PIf (compCx X N' scope C s3 H3 fp pins) ifs tt) (he : ∀ C s3 H3 fp pins (xe' : Value → Shared → Prop), Passes (CXR R X.prog X.w) ((compCx X N' scope C s3 H3 fp pins).wish xe') EE → PE ((compCx X N' scope C s3 H3 fp pins).wish xe') elt te) (hsw : swapsWith (.ListComp elt [⟨tg, iter, ifs, 0⟩] scope pos) (some (.Name x pos')) spos.line X.env = pure true)
    (hs : ∀ x, foldedSetIterable iter X.env x = pure x := by intro _; rfl) : PS X (.Assign [.Name x pos'] (.ListComp elt [⟨tg, iter, ifs, 0⟩] scope pos) spos) (tAsg (tComp caps wi g tt te) (gName i)) := by
  intro pins s σ H D I h
  rw [exec_Assign_Name_used _ _ _ _ hsw]
  refine wpAny_bind (wpAny_standAt (wpAny_bind ?_))
  show wpAny _ X.A (comprehension (.ListComp elt [⟨tg, iter, ifs, 0⟩] scope pos) scope X.env _ (newList []) false (eval iter X.env) (some (assign (.Name x pos') X.env)) >>= fun _ => pure ()) _ _ s
  refine wpAny_bind (thn (Q := fun _ s' => SP X pins D .next s') (wpAny_comprehension_free (use := some (assign (.Name x pos') X.env)) rfl hs (clos_eq (S.cells I.ok)) S.kind S.names
    (thn (hi pins s σ H _ I h) fun v s1 h1 => thn h1 fun itv s2 h2 => ?_)) fun _ s' hq => wpAny_pure (wpAny_pure hq))
  obtain ⟨it, fp, tn, J, H2, e, I2, T, st2, f2, rd⟩ := h2
  subst e
  refine comp_coreE (EE := EE) (Q := fun x H1 => gName i x σ H1 D.nx) (RR := fun acc C => compPost (model X.prog X.w) X.A X.xe (some (assign (.Name x pos') X.env)) (fun _ s' => SP X pins D .next s') acc C) S hc hg ht he I2 T st2 f2 rd hst hfrm hR hex
    (fun D' C e s4 m hm hC cf => ⟨m, hm, fun h' sb cenv _ => Lets.passOn hL hst I.ok.frames (cf.goes hC sb)⟩) fun D' C s' H' I' fC hm q => ?_
  obtain ⟨m, hm⟩ := hm
  obtain ⟨f0, f1, f2', f3, f4, f5⟩ := fC
  show wpAny _ X.A (assign (.Name x pos') X.env (.ref D')) _ _ _
  refine wpAny_assign_Name (store_ok2 I' hN hi' (.inl hx) (v := .ref D') (u := .ref D') rfl (fun s'' I'' ⟨a, sb, ha⟩ => ?_) (.inr hx))
  have nC : C ≠ a := by
    rcases ha with z | z
    · rw [z]; exact f1
    · exact fun q => f4 x a z q.symm
  refine ⟨m, hm.sameBut sb nC, fun h' sb' => ?_⟩
  exact ⟨_, H', I''.turned (t' := s''.toks) (fun b o hb e => (sb'.2 b hb).trans e) f0 f1 f3 f4 f5, q⟩
end
end L2
set_option maxRecDepth 100000
namespace L2
open PySem PySem.Spec PyProof.Rows PySem.W
def Flying (X : Cx) (R : Array Value → Prop) (E : XK) (a : Addr) (fl : Value) (s' : Shared) : Prop := ∃ (C : Value) (B : Heap) (H' : Hp), s'.os = X.s₀.os ∧ AllBare s'.gens ∧ FlyR R B X.stack a C fl s'.heap ∧
  (∀ b o, X.s₀.heap.get? b = some o → b ∉ X.fs → ∃ o', B.get? b = some o') ∧ (∀ b x, H' b = some x → ∃ o, B.get? b = some o) ∧ Un X.fs [] X.H₀ H' X.s₀.heap s'.heap ∧ HOk X.prog X.w H' s'.heap ∧ E C none H'
theorem Flying.flies {X : Cx} {R : Array Value → Prop} {E : XK} {a : Addr} {fl : Value} {s' : Shared} (f : Flying X R E a fl s') : Flies X R E (.ref a) s' := by
  obtain ⟨C, B, H', os, gens, fly, r⟩ := f
  exact ⟨a, C, fl, B, H', rfl, os, gens, fly, r⟩
section
variable {X : Cx} {R : Array Value → Prop} {E : XK} {a : Addr} {fl : Value} {s' : Shared} {M : Model} {A : Around} {E' : Value → Shared → Prop} {Q : Unit → Shared → Prop}
theorem Flying.moved {h2 : Heap} {fl2 : Value} (hst : X.stack = X.env :: X.outer) {C : Value} {B : Heap} {H' : Hp} (os : s'.os = X.s₀.os) (gens : AllBare s'.gens) (fly : FlyR R B X.stack a C fl s'.heap) (hs : ∀ b o, X.s₀.heap.get? b = some o → b ∉ X.fs → ∃ o', B.get? b = some o')
    (ht : ∀ b x, H' b = some x → ∃ o, B.get? b = some o) (un : Un X.fs [] X.H₀ H' X.s₀.heap s'.heap) (hok : HOk X.prog X.w H' s'.heap) (q : E C none H') (fly2 : FlyR R B X.stack a C fl2 h2) (up : s'.heap.UpToSlots h2) : Flying X R E a fl2 { s' with heap := h2 } := by
  have fr : ∀ b ∈ X.fs, ∃ o, s'.heap.get? b = some o ∧ ∀ vs, o.data ≠ .fields vs := fun b hb => by
    have fo := fly
    rw [hst] at fo
    exact (fo.outer.funs.mem hb).2
  exact ⟨C, B, H', os, gens, fly2, hs, ht, fly_un hs fly.stays fly2.stays fr un up, fly_ok ht fly.stays fly2.stays hok, q⟩
theorem Flying.note (f : Flying X R E a fl s') (hR : Field1 R) (hst : X.stack = X.env :: X.outer) (hfr : X.env.frame = some X.env.locals) (hA : A.frames = some X.stack) (h : ∀ h', Flying X R E a (rawInt X.env.locals) { s' with heap := h' } → Q () { s' with heap := h' }) :
    wpAny M A (noteFrame (.ref a) X.env) Q E' s' := by
  obtain ⟨C, B, H', os, gens, fly, hs, ht, un, hok, q⟩ := f
  have fly0 := fly
  rw [hst] at fly0 hA
  exact noteR hR hA hfr fly0 fun h4 fly4 up => h h4 (Flying.moved hst os gens fly hs ht un hok q (by rw [hst]; exact fly4) up)
theorem Flying.flight (f : Flying X R E a fl s') (hst : X.stack = X.env :: X.outer) (fr : Option Addr) (h : ∀ h', Flying X R E a (fr.elim .none fun f => rawInt f) { s' with heap := h' } → Q () { s' with heap := h' }) :
    wpAny M A (setFlight (.ref a) fr) Q E' s' := by
  obtain ⟨C, B, H', os, gens, fly, hs, ht, un, hok, q⟩ := f
  exact flightR fr fly fun h4 fly4 up => h h4 (Flying.moved hst os gens fly hs ht un hok q fly4 up)
theorem Flying.there (f : Flying X R E a fl s') : ∃ oe vs T, s'.heap.get? a = some oe ∧ oe.data = .fields vs ∧ vs[1]? = some (.ref T) := by
  obtain ⟨C, B, H', os, gens, fly, _⟩ := f
  obtain ⟨oe, vs, T, oT, ts, he, hc, hd, hsz, hr, h1, _⟩ := fly.tr
  exact ⟨oe, vs, T, he, hd, h1⟩
theorem Flying.locals {h2 : Heap} {m : Str → Option Value} {tk : Nat} (f : Flying X R E a fl s') (hst : X.stack = X.env :: X.outer) (hfr : X.env.frame = some X.env.locals) (habove : X.s₀.heap.objs.size ≤ X.env.locals) (hn : h2.Ns X.env.locals m) (sb : Heap.SameBut X.env.locals s'.heap h2) : Flying X R E a fl { s' with heap := h2, toks := tk } := by
  obtain ⟨C, B, H', os, gens, fly, hs, ht, un, hok, q⟩ := f
  have fly0 := fly
  rw [hst] at fly0
  have inL : X.env.locals ∈ (X.env :: X.outer).filterMap (·.frame) := List.mem_filterMap.mpr ⟨X.env, by simp, hfr⟩
  obtain ⟨nB, oL, hoL, nf⟩ := fly0.funs.mem inL
  have old : ∀ b o, X.s₀.heap.get? b = some o → b ≠ X.env.locals := fun b o e z => absurd (Nat.lt_of_lt_of_le (Heap.lt_size e) (by rw [z]; exact habove)) (Nat.lt_irrefl _)
  have inB : ∀ b o, B.get? b = some o → b ≠ X.env.locals := fun b o e z => by rw [z, nB] at e; cases e
  obtain ⟨oe, vs, T, oT, ts, he, hc, hd, hsz, hr, h1, hnT, hTe, hT, hdT, h3⟩ := fly.tr
  have nea : a ≠ X.env.locals := fun z => by rw [z, hoL] at he; cases he; exact nf _ hd
  have neT : T ≠ X.env.locals := fun z => by rw [z, hoL] at hT; cases hT; exact nf _ hdT
  obtain ⟨o2, es, ep, ho2, hd2, _⟩ := hn
  refine ⟨C, B, H', os, gens, ⟨fun b o e => (sb.2 b (inB b o e)).trans (fly.stays b o e), fly.new, ?_, oe, vs, T, oT, ts, (sb.2 _ nea).trans he, hc, hd, hsz, hr, h1, hnT, hTe, (sb.2 _ neT).trans hT, hdT, h3⟩, hs, ht, ⟨fun b o e n hb hx => (sb.2 b (old b o e)).trans (un.keep b o e n hb hx), fun b o e n hb hx => ?_, un.free, fun b o e hx => ?_, un.tups, un.frzs, un.tbls⟩, fun b x e => ?_, q⟩
  · have : ∀ {l : List Env}, s'.heap.FunFrames B l → Heap.FunFrames h2 B l := fun {l} => by
      induction l with
      | nil => exact fun _ => trivial
      | cons env rest ih =>
        rintro ⟨hk, ⟨L, o, hf, hn, ho, hd⟩, hr⟩
        by_cases z : L = X.env.locals
        · subst z
          exact ⟨hk, ⟨_, o2, hf, hn, ho2, fun vs q => by rw [hd2] at q; cases q⟩, ih hr⟩
        · exact ⟨hk, ⟨L, o, hf, hn, (sb.2 L z).trans ho, hd⟩, ih hr⟩
    exact this fly.funs
  · obtain ⟨sl, e1⟩ := un.slot b o e n hb hx
    exact ⟨sl, (sb.2 b (old b o e)).trans e1⟩
  · obtain ⟨o', e1⟩ := un.there b o e hx
    exact ⟨o', (sb.2 b (old b o e)).trans e1⟩
  · refine (hok b x e).stay (fun c u hc z => (sb.2 c ?_).trans z) (fun _ z => z) fun _ _ z => z
    have : ∃ y, H' c = some y := by
      rcases hc with z | z
      · exact ⟨x, by rw [z]; exact e⟩
      · exact ⟨_, z⟩
    obtain ⟨y, hy⟩ := this
    obtain ⟨o, eB⟩ := ht c y hy
    exact inB c o eB
end
theorem entry_unchain : entryFor table "proto.unchain" = some Builtin.«proto.unchain» := entryFor_of_fast (by kernel_rfl)
section
variable {prog : Program} {w : World} {A : Around} {E : Value → Shared → Prop} {env : Env}
theorem unchain_none {s : Shared} {e a : Addr} {oa : Obj} {va : Array Value} {Q : Value → Shared → Prop} (ha : s.heap.get? a = some oa) (hd : oa.data = .fields va) (h2 : va[2]? = some .none) (h : Q .none s) :
    wpAny (model prog w) A (runValue (.builtin "proto.unchain" ⟨[.ref e, .ref a, .ref a, .bool false], []⟩)) Q E s := by
  refine runValue_entry entry_unchain ?_
  unfold Builtin.«proto.unchain»
  refine wpAny_bind (wpAny_field ha hd h2 ?_)
  exact wpAny_pure ⟨_, rfl, h⟩
variable {nm q : Str} {C N : Addr} {bs bm : List Value} {hdct : Bool} {sn : List Str} {sub : List Value} {ab : Bool} {col : Option Bool} {dd : Option Addr} {k0 k1 k2 k3 k5 : Option Value} {newId : String}
theorem excFrom_own {M : Model} {h : Heap} {g : Array GenState} {d : Drawn} {t : Nat} {os : OsState} {e : Addr} {oe : Obj} {ve : Array Value} {msg : String} {Q : Value → Shared → Prop} (hbase : bm.contains (.type "BaseException") = true) (hC : h.get? C = some (excClassObj nm q C N bs bm hdct sn sub ab col dd k0 k1 k2 k3 k5 newId)) (he : h.get? e = some oe) (hcls : oe.cls = .ref C) (hd : oe.data = .fields ve)
    (hq : Q (.ref e) ⟨h, g, d, t, os⟩) : wpAny M A (excFromValue (.ref e) msg) Q E ⟨h, g, d, t, os⟩ := by
  have hcB : (Value.ref C :: bm).contains (.type "BaseException") = true := by rw [List.contains_cons, hbase, Bool.or_true]
  unfold excFromValue
  repeat (first | (with_reducible refine wpAny_loadPart_at he ?_; first | rw [hcls] | (rw [hd]; dsimp only)) | with_reducible refine wpAny_loadPart_at hC ?_ | (with_reducible refine wpAny_isSubtype_exc hC ?_; rw [hcB]) | wp_step)
  exact hq
end
end L2
set_option maxRecDepth 100000
namespace L2
open PySem PySem.Spec PyProof.Rows PySem.W
section
variable {prog : Program} {w : World} {A : Around} {E : Value → Shared → Prop} {env : Env}
def ExcAt (h : Heap) (e : Addr) (oe : Obj) : Prop := ∃ nm q C N bs bm hdct sn sub ab col dd k0 k1 k2 k3 k5 newId ve, oe.cls = .ref C ∧ bm.contains (.type "BaseException") = true ∧ h.get? C = some (excClassObj nm q C N bs bm hdct sn sub ab col dd k0 k1 k2 k3 k5 newId) ∧ h.get? e = some oe ∧ oe.data = .fields ve
theorem ExcAt.from {M : Model} {s : Shared} {e : Addr} {oe : Obj} {msg : String} {Q : Value → Shared → Prop} (x : ExcAt s.heap e oe) (hq : Q (.ref e) s) : wpAny M A (excFromValue (.ref e) msg) Q E s := by
  obtain ⟨nm, q, C, N, bs, bm, hdct, sn, sub, ab, col, dd, k0, k1, k2, k3, k5, newId, ve, hc, hb, hC, he, hd⟩ := x
  obtain ⟨h, g, d, t, os⟩ := s
  exact excFrom_own hb hC he hc hd hq
theorem ExcAt.notType {M : Model} {s : Shared} {e : Addr} {oe : Obj} {Q : Bool → Shared → Prop} (x : ExcAt s.heap e oe) (hq : Q false s) : wpAny M A (isType (.ref e)) Q E s := by
  obtain ⟨nm, q, C, N, bs, bm, hdct, sn, sub, ab, col, dd, k0, k1, k2, k3, k5, newId, ve, hc, hb, hC, he, hd⟩ := x
  obtain ⟨h, g, d, t, os⟩ := s
  unfold isType
  repeat (first | (with_reducible refine wpAny_loadPart_at he ?_; first | rw [hc] | (rw [hd]; dsimp only)) | wp_step)
  exact hq
theorem ExcAt.raised {M : Model} {s : Shared} {e : Addr} {oe : Obj} {Q : Value → Shared → Prop} (x : ExcAt s.heap e oe) (hq : Q (.ref e) s) : wpAny M A (raisedInstance (.ref e)) Q E s := by
  obtain ⟨nm, q, C, N, bs, bm, hdct, sn, sub, ab, col, dd, k0, k1, k2, k3, k5, newId, ve, hc, hb, hC, he, hd⟩ := x
  obtain ⟨h, g, d, t, os⟩ := s
  unfold raisedInstance
  repeat (first | (with_reducible refine wpAny_loadPart_at he ?_; first | rw [hc] | (rw [hd]; dsimp only)) | with_reducible refine wpAny_loadPart_at hC ?_ | wp_step)
  exact hq
theorem ExcAt.upd {h h' : Heap} {e : Addr} {oe oe' : Obj} {ve : Array Value} (x : ExcAt h e oe) (ho : ∀ b, b ≠ e → h'.get? b = h.get? b) (he : h'.get? e = some oe') (hc : oe'.cls = oe.cls) (hd : oe'.data = .fields ve) : ExcAt h' e oe' := by
  obtain ⟨nm, q, C, N, bs, bm, hdct, sn, sub, ab, col, dd, k0, k1, k2, k3, k5, newId, ve0, hc0, hb, hC, he0, hd0⟩ := x
  have nC : C ≠ e := fun z => by rw [z, he0] at hC; cases hC; cases hd0
  exact ⟨nm, q, C, N, bs, bm, hdct, sn, sub, ab, col, dd, k0, k1, k2, k3, k5, newId, ve, hc.trans hc0, hb, (ho C nC).trans hC, he, hd⟩
theorem raise_from {x c : Sem Value} {s : Shared} {a : Addr} {Q : Flow → Shared → Prop} (hh : A.handled = some (.ref a))
    (h : wpAny (model prog w) A x (fun v s1 => ∃ e, v = .ref e ∧ wpAny (model prog w) A c (fun cv s2 => cv = .ref a ∧ a ≠ e ∧ ∃ (C : Value) (t : Addr) (oa : Obj) (va : Array Value), ExcAt s2.heap e { cls := C, data := .fields #[.ref t, .none, .none, .none, .bool false, .none] } ∧ ExcAt s2.heap a oa ∧ oa.data = .fields va ∧ va[2]? = some .none ∧
      ∀ h3, (∀ b, b ≠ e → h3.get? b = s2.heap.get? b) → h3.get? e = some { cls := C, data := .fields #[.ref t, .none, .ref a, .ref a, .bool true, .none] } → E (.ref e) { s2 with heap := h3 }) E s1) E s) :
    wpAny (model prog w) A (raiseStmt env (some x) (some c)) Q E s := by
  unfold raiseStmt
  refine wpAny_bind (wpAny_mono h (fun v s1 h1 => ?_) fun _ _ x => x)
  obtain ⟨e, rfl, h1⟩ := h1
  refine wpAny_bind (wpAny_holding (wpAny_mono h1 (fun cv s2 h2 => wpAny_bind (wpAny_pure ?_)) fun _ _ x => x))
  obtain ⟨rfl, ne, C, t, oa, va, xe, xa, hda, h2a, fin⟩ := h2
  have ge := (show s2.heap.get? e = some { cls := C, data := .fields #[.ref t, .none, .none, .none, .bool false, .none] } by obtain ⟨_, _, _, _, _, _, _, _, _, _, _, _, _, _, _, _, _, _, _, _, _, _, z, _⟩ := xe; exact z)
  have ga := (show s2.heap.get? a = some oa by obtain ⟨_, _, _, _, _, _, _, _, _, _, _, _, _, _, _, _, _, _, _, _, _, _, z, _⟩ := xa; exact z)
  refine wpAny_bind (wpAny_holding (ExcAt.from xe ?_))
  dsimp only
  rw [if_neg (show ¬ ((Value.ref a == Value.none) = true) by simp)]
  refine wpAny_bind (wpAny_holding (ExcAt.from xa ?_))
  refine wpAny_bind (wpAny_setField ge rfl (by show 3 < 6; decide) ?_)
  have g3 := Heap.get?_update_self (Obj.mapFields (·.setIfInBounds 3 (Value.ref a))) ge (Obj.isFreed_of_fields (Obj.data_mapFields rfl _))
  refine wpAny_bind (wpAny_setField g3 (Obj.data_mapFields rfl _) (by show 4 < 6; decide) ?_)
  have g4 := Heap.get?_update_self (Obj.mapFields (·.setIfInBounds 4 (Value.bool true))) g3 (Obj.isFreed_of_fields (Obj.data_mapFields (Obj.data_mapFields rfl _) _))
  have o4 : ∀ b, b ≠ e → ((s2.heap.update e (Obj.mapFields (·.setIfInBounds 3 (Value.ref a)))).update e (Obj.mapFields (·.setIfInBounds 4 (Value.bool true)))).get? b = s2.heap.get? b := fun b hb => by
    rw [Heap.get?_update_other _ _ (Ne.symm hb), Heap.get?_update_other _ _ (Ne.symm hb)]
  have g4' : ((s2.heap.update e (Obj.mapFields (·.setIfInBounds 3 (Value.ref a)))).update e (Obj.mapFields (·.setIfInBounds 4 (Value.bool true)))).get? e = some { cls := C, data := .fields #[.ref t, .none, .none, .ref a, .bool true, .none] } := g4
  generalize ((s2.heap.update e (Obj.mapFields (·.setIfInBounds 3 (Value.ref a)))).update e (Obj.mapFields (·.setIfInBounds 4 (Value.bool true)))) = h4 at o4 g4' ⊢
  have x4 : ExcAt h4 e { cls := C, data := .fields #[.ref t, .none, .none, .ref a, .bool true, .none] } := xe.upd o4 g4' rfl rfl
  refine wpAny_bind (ExcAt.notType x4 ?_)
  rw [if_neg Bool.false_ne_true]
  refine wpAny_bind (ExcAt.raised x4 ?_)
  refine wpAny_bind ?_
  unfold setFlight
  refine wpAny_bind (wpAny_field g4' rfl (x := .none) rfl ?_)
  rw [if_neg (by decide)]
  refine wpAny_pure ?_
  unfold raiseNew
  refine wpAny_bind (wpAny_handled ?_)
  rw [hh]
  dsimp only
  rw [if_pos (show ((Value.ref a != Value.ref e) = true) by simp [ne])]
  have ga4 : h4.get? a = some oa := (o4 a ne).trans ga
  refine wpAny_bind (wpAny_holding (unchain_none ga4 hda h2a ?_))
  refine wpAny_bind ?_
  show wpAny (model prog w) A (setField (.ref e) 2 (.ref a)) _ _ _
  refine wpAny_setField g4' rfl (by show 2 < 6; decide) (wpAny_throw (fin _ (fun b hb => ?_) ?_))
  · rw [Heap.get?_update_other _ _ (Ne.symm hb)]
    exact o4 b hb
  · exact Heap.get?_update_self (Obj.mapFields (·.setIfInBounds 2 (Value.ref a))) g4' (Obj.isFreed_of_fields (Obj.data_mapFields rfl _))
end
theorem ld_own {X : Cx} {E : Value → Shared → Prop} {pins : List (Addr × Obj)} {s : Shared} {σ : St} {H : Hp} {i : Nat} {x : Str} {v : V} {pos : Pos} {Q : Value → Shared → Prop} (I : Inv X pins σ H s) (hN : X.N[i]? = some x) (hx : X.env.scope.names.lookup x = some .local) (hv : σ[i]? = some (some v)) (h : ∀ u, RelV v u → Q u s)
    (hd : (x == ("__debug__" : Str)) = false := by decide) (hcd : (x == ("__classdict__" : Str)) = false := by decide) : wpAny (model X.prog X.w) X.A (eval (.Name x pos) X.env) Q E s := by
  obtain ⟨m, hn, hl⟩ := I.loc
  obtain ⟨u, r, l⟩ := hl i x v hN hv (.inl hx)
  rcases l with ⟨hk, hm⟩ | ⟨hk, c, hc, hcell⟩
  · exact wpAny_Name (wpAny_loadName_local I.ok.kind hk hn hm (h u r)) hd
  · have : X.env.kindOf x = some .local := hx
    rw [this] at hk
    rcases hk with z | z <;> cases z
def excN (a : Addr) (C : Value) : HO := .ext fun h => ∃ o vs, h.get? a = some o ∧ o.cls = C ∧ o.data = .fields vs ∧ vs[2]? = some .none
def RaisesF (Y : Cx) (a : Addr) (E : XK) : Prop := ∀ (pins : List (Addr × Obj)) (σ : St) (H : Hp) (s : Shared) (h3 : Heap) (e t : Addr) (C : Value), Inv Y pins σ H s → s.heap.get? e = none → (∀ b o, s.heap.get? b = some o → h3.get? b = some o) →
  h3.get? e = some { cls := C, data := .fields #[.ref t, .none, .ref a, .ref a, .bool true, .none] } → E C none H → Y.xe (.ref e) { s with heap := h3 }
def tRaiseF (i : Nat) (a : Addr) (c : Addr) (C : Value) (ta : TA) (E : XK) : TS := fun _ σ H => ta σ H fun vs H1 => vs.length ≤ 100 ∧ σ[i]? = some (some (.ref a)) ∧ H1 a = some (excN a (.ref c)) ∧ E C none H1
theorem ps_raiseF {X : Cx} {E : XK} {x n : Str} {CH CH2 C c a : Addr} {i : Nat} {e₀ : Expr} {rest : List Expr} {ta : TA} {np np2 cpos pos : Pos} (m : X.mg x = some (.ref C)) (o : ExcOk X.K CH2 C) (oc : ExcOk X.K CH c) (hh : X.A.handled = some (.ref a)) (hR : RaisesF X a E) (hg : Gl X x) (hN : X.N[i]? = some n) (hn : X.env.scope.names.lookup n = some .local)
    (ha : PA X (e₀ :: rest) ta) (he : starEach (e₀ :: rest) X.env = (false, eval e₀ X.env) :: starEach rest X.env := by rfl) (hplain : (backTo cpos (starEach rest X.env)).any (·.1) = false := by rfl) (hd : (x == ("__debug__" : Str)) = false := by decide)
    (hd2 : (n == ("__debug__" : Str)) = false := by decide) (hcd2 : (n == ("__classdict__" : Str)) = false := by decide) :
    PS X (.Raise (some (.Call (.Name x np) (e₀ :: rest) [] cpos)) (some (.Name n np2)) pos) (tRaiseF i a c (.ref C) ta E) := by
  intro pins s σ H D I h
  rw [arm_exec_Raise]
  simp only [evalOpt, Option.map]
  refine wpAny_bind (wpAny_standAt (raise_from (a := a) hh (wpAny_bind (wpAny_mono (wpAny_Call_ofName (ld_glob I hg m ?_ hd)) (fun v s3 h3 => wpAny_bind (wpAny_standAt (wpAny_pure h3))) fun _ _ x => x))))
  obtain ⟨tl, N, nm, q, bs, hdct, sn, sub, ab, col, dd, k0, k1, k2, k3, k5, mN, hC, hN', hni, T⟩ := (own_exc I.ok.mod.kin m o.ex).obj
  obtain ⟨_, _, tl2, N2, nm2, qn2, bs2, hdct2, sn2, sub2, ab2, col2, dd2, l0, l1, l2, l3, l5, mN2, _, hC2, _, _, T2⟩ := exc_obj I.ok.mod.kin oc.ex
  unfold callWith
  have hA := ha cpos pins s σ _ _ I h
  rw [he] at hA ⊢
  refine wpAny_bind (wpAny_holding (Calls.evalArgs_plain (wpAny_mono hA (fun us s2 ⟨vs, H2, I2, r2, lv, hi, hH, q2⟩ => wpAny_bind (wpAny_standAt ?_)) fun _ _ y => y)))
  have hpl : ((backTo cpos ((false, eval e₀ X.env) :: starEach rest X.env)).any fun x => x.fst) = false := by
    show (false || (backTo cpos (starEach rest X.env)).any (·.1)) = false; rw [hplain]; rfl
  simp only [hpl]
  have hC' := I2.bk _ _ hC
  have hC2' := I2.bk _ _ hC2
  have hn' := hN'.keeps I2.bk
  have T' := T.keeps I2.bk
  have hl : us.length ≤ sizeLine := by rw [← r2.length]; exact Nat.le_of_lt (Nat.lt_of_le_of_lt lv (by decide))
  have inv2 := I2
  obtain ⟨hp, g, d, tk, os⟩ := s2
  refine wpAny_bind (wpAny_keeperOf_exc hC' ?_)
  refine wpAny_bind (wpAny_call_exc_subT (hrest := hl) PySem.F.excBase_ValueError T' hC' hn' hni fun h' e mk => wpAny_bind (wpAny_holding (wpAny_point (wpAny_pure ⟨e, rfl, ?_⟩))))
  obtain ⟨t, het, htn, htt⟩ := mk.there
  have I3 : Inv X pins σ H2 { heap := h', gens := g, drawn := d, toks := tk, os := os } := inv2.kept (t' := tk) mk.keeps
  refine wpAny_bind (ld_own I3 hN hn hi (fun u r => wpAny_bind (wpAny_standAt (wpAny_pure ?_))) hd2 hcd2)
  cases r
  obtain ⟨⟨oa, va, ga, ca, da, a2⟩, _⟩ := I3.hok a _ hH
  have ga2 : hp.get? a = some oa := by
    obtain ⟨⟨oa', va', ga', ca', da', a2'⟩, _⟩ := inv2.hok a _ hH
    have := mk.keeps _ _ ga'
    have g2 : h'.get? a = some oa := ga
    rw [g2] at this; cases this; exact ga'
  refine ⟨rfl, fun z => ?_, .ref C, t, oa, va, ⟨nm, q, C, N, bs, tl, hdct, sn, sub, ab, col, dd, k0, k1, k2, k3, k5, _, _, rfl, T.hasType (by decide), mk.keeps _ _ hC', het, rfl⟩, ⟨nm2, qn2, c, N2, bs2, tl2, hdct2, sn2, sub2, ab2, col2, dd2, l0, l1, l2, l3, l5, _, va, ca, T2.hasType (by decide), mk.keeps _ _ hC2', ga, da⟩, da, a2, fun h3 o3 g3 => ?_⟩
  · have := mk.new
    rw [← z, ga2] at this; cases this
  · exact hR pins σ H2 { heap := hp, gens := g, drawn := d, toks := tk, os := os } h3 e t (.ref C) inv2 mk.new (fun b ob hb => (o3 b fun z => by rw [z] at hb; have := mk.new; rw [hb] at this; cases this).trans (mk.keeps b ob hb)) g3 q2
end L2
set_option maxRecDepth 100000
namespace L2
open PySem PySem.Spec PyProof.Rows PySem.W
def Ctx0 (vs : Array Value) : Prop := vs[2]? = some .none
def AnyF (_ : Array Value) : Prop := True
theorem field_ctx0 : Field1 Ctx0 := ⟨fun vs v h => by unfold Ctx0 at *; rw [Array.getElem?_setIfInBounds_ne (by decide)]; exact h⟩
theorem field_any : Field1 AnyF := ⟨fun _ _ _ => trivial⟩
theorem ctx0_made (t : Addr) : Ctx0 #[.ref t, .none, .none, .none, .bool false, .none] := rfl
theorem ExcOk.self {K : Frag} {CH c : Addr} (o : ExcOk K CH c) : ExcOk K c c := by
  refine ⟨o.ex, o.ex, ?_, o.lk, o.val⟩
  have q := o.ex
  unfold excIn at q
  split at q
  · rename_i dd cd sl ho
    split at q
    · rename_i C' bm k0 k1 k2 k3 n k5 hm hs
      simp only [Bool.and_eq_true, beq_iff_eq] at q
      obtain ⟨⟨⟨⟨⟨e1, _⟩, _⟩, _⟩, _⟩, _⟩ := q
      have hc : clsIn K c = some cd := by unfold clsIn; rw [ho]
      show ((clsIn K c).bind fun cd => if cd.mro.isEmpty = true then none else some (cd.mro.contains (Value.ref c))) = some true
      rw [hc]
      simp only [Option.bind_some]
      rw [hm, if_neg (by simp)]
      simp [e1]
    · cases q
  · cases q
def tTryF (Mt : Addr → Prop) (i len : Nat) (CD : Value) (E : XK) (tb : XK → TS) (ta : TA) : TS := fun D σ H => tb (fun C _ H' => ∃ c, C = .ref c ∧ Mt c ∧ ∀ (σ' : St) (a : Addr), σ'.length = len → H' a = none →
  tRaiseF i a c CD ta (fun C _ H => C = CD ∧ E C none H) { nx := fun _ _ => False, rt := fun _ _ => False } (σ'.set i (some (.ref a))) (upd H' a (excN a C))) D σ H
theorem ps_tryF {X : Cx} {R : Array Value → Prop} {body : List Stmt} {x y n : Str} {np yp cpos np2 rpos hpos pos : Pos} {i : Nat} {CH CD CC : Addr} {Mt : Addr → Prop} {tb : XK → TS} {e₀ : Expr} {rest : List Expr} {ta : TA} {E : XK}
    (hM : ∀ c, Mt c → ExcOk X.K CH c) (hst : X.stack = X.env :: X.outer) (hfr : X.env.frame = some X.env.locals) (hex : X.ex = []) (hR : Field1 R) (hR0 : ∀ t a, R #[.ref t, .none, .ref a, .ref a, .bool true, .none]) (hL : Lets R X E)
    (hb : ∀ (E' : XK) (pn' : List (Addr × Obj)) (xe' : Value → Shared → Prop), Passes (CXR Ctx0 X.prog X.w) (X.tried pn' xe') E' → PSs (X.tried pn' xe') body (tb E'))
    (hg : Gl X x) (hm : X.mg x = some (.ref CH)) (hgy : Gl X y) (hmy : X.mg y = some (.ref CD)) (oD : ExcOk X.K CC CD) (hN : X.N.Nodup) (hi : X.N[i]? = some n) (hx : X.env.scope.names.lookup n = some .local)
    (ha : ∀ a (xe' : Value → Shared → Prop), PA ((X.inExc a).wish xe') (e₀ :: rest) ta) (he : starEach (e₀ :: rest) X.env = (false, eval e₀ X.env) :: starEach rest X.env := by rfl) (hplain : (backTo cpos (starEach rest X.env)).any (·.1) = false := by rfl)
    (hd : (x == ("__debug__" : Str)) = false := by decide) (hdy : (y == ("__debug__" : Str)) = false := by decide) (hd2 : (n == ("__debug__" : Str)) = false := by decide) (hcd2 : (n == ("__classdict__" : Str)) = false := by decide) :
    PS X (.Try body [.ExceptHandler (some (.Name x np)) (some n) [.Raise (some (.Call (.Name y yp) (e₀ :: rest) [] cpos)) (some (.Name n np2)) rpos] hpos] [] [] pos) (tTryF Mt i X.N.length (.ref CD) E tb ta) := by
  intro pins s σ H D I h
  refine wpAny_Try_except (wpAny_mono (hb _ (X.pn ++ pins) (fun e s' => ∃ σ1 H1 s1, Inv X pins σ1 H1 s1 ∧ CXR Ctx0 X.prog X.w X.stack H1 s1 (fun C _ H' => ∃ c, C = .ref c ∧ Mt c ∧ ∀ (σ' : St) (a : Addr), σ'.length = X.N.length → H' a = none → tRaiseF i a c (.ref CD) ta (fun C _ H => C = .ref CD ∧ E C none H) { nx := fun _ _ => False, rt := fun _ _ => False } (σ'.set i (some (.ref a))) (upd H' a (excN a C))) e s') (fun p2 σ1 H1 s1 e s' I1 z => ⟨σ1, H1, s1, I1.untried, z⟩) [] s σ H D (I.tried _) h) (fun f s1 q => ?_) fun e s1 z => ?_)
  · have q := q.untried
    cases f with
    | next => exact wpAny_execs_nil q
    | ret v => exact q
    | brk => exact q
    | cont => exact q
  · obtain ⟨σ1, H1, s0, I0, a, C, B, H', rfl, os, gens, fl, hs0, ht, un, hok, c, rfl, mo, k⟩ := z
    have fA : X.A.frames = some (X.env :: X.outer) := by rw [← hst]; exact I.ok.frames
    rw [hst] at fl
    refine noteR field_ctx0 fA hfr fl fun h4 fl4 up4 => ?_
    refine flightR none fl4 fun h5 fl5 up5 => ?_
    have up15 := up4.trans up5
    have frO : ∀ b ∈ frs X.stack, ∃ o, s1.heap.get? b = some o ∧ ∀ vs, o.data ≠ .fields vs := fun b hb => (fl.funs.mem (by rw [← hst]; exact hb)).2
    have un5 := fly_un hs0 fl.stays fl5.stays frO un up15
    have hok5 := fly_ok ht fl.stays fl5.stays hok
    have I5 : Inv X pins σ1 H' { s1 with heap := h5 } := I0.call' (s' := { s1 with heap := h5 }) os un5 hok5 gens (fun b z => absurd z (by simp))
    refine wpAny_handleBy_cons (codeAny_handlers_test (ld_glob (I5.inExc a) hg hm ?_ hd)) (by intro q; cases q)
    obtain ⟨oe, v5, _, _, _, eoe, hoe, _⟩ := fl5.tr
    obtain ⟨k1, k2⟩ := (hM c mo).catches I.ok.mod.kin
    have mo5 : Catches h5 CH c := by
      refine ⟨?_, ?_⟩
      · obtain ⟨nm, q, N, bs, bm, hdct, sn, sub, ab, col, dd, j0, j1, j2, j3, j5, newId, hC, hcC⟩ := k1
        exact ⟨nm, q, N, bs, bm, hdct, sn, sub, ab, col, dd, j0, j1, j2, j3, j5, newId, I5.bk _ _ hC, hcC⟩
      · obtain ⟨nm, q, N, bs, bm, hdct, sn, sub, ab, col, dd, j0, j1, j2, j3, j5, newId, hC, hcC⟩ := k2
        exact ⟨nm, q, N, bs, bm, hdct, sn, sub, ab, col, dd, j0, j1, j2, j3, j5, newId, I5.bk _ _ hC, hcC⟩
    refine matches_own mo5 eoe hoe (codeAny_handlers_suite_as ?_)
    refine flightR none fl5 fun h7 fl7 up7 => ?_
    have un7 := fly_un hs0 fl.stays fl7.stays frO un (up15.trans up7)
    have hok7 := fly_ok ht fl.stays fl7.stays hok
    have na : H' a = none := by
      cases e : H' a with
      | none => rfl
      | some y => obtain ⟨o, eo⟩ := ht a y e; rw [fl.new] at eo; cases eo
    have nB : ∀ b y, H' b = some y → b ≠ a := fun b y e z => by rw [z, na] at e; cases e
    obtain ⟨o7, v7, T7, oT7, t7, e7, c7, d7, _, r7, _⟩ := fl7.tr
    have olda : s0.heap.get? a = none := by
      cases e : s0.heap.get? a with
      | none => rfl
      | some o =>
        by_cases hb : a ∈ frs X.stack
        · obtain ⟨o', eo', nf⟩ := (fl7.funs.mem (show a ∈ frs (X.env :: X.outer) by rw [← hst]; exact hb)).2
          rw [e7] at eo'; cases eo'
          exact absurd d7 (nf v7)
        · obtain ⟨o', eo'⟩ := hs0 a o e hb
          rw [fl.new] at eo'; cases eo'
    have un8 : Un (frs X.stack) [] H1 (upd H' a (excN a (.ref c))) s0.heap h7 := ⟨un7.keep, un7.slot, fun b o e n hx => by
        rw [upd_ne (fun z => by rw [z, olda] at e; cases e)]; exact un7.free b o e n hx, un7.there,
      fun b xs e => by rw [upd_ne (nB b _ (un7.tups b xs e))]; exact un7.tups b xs e, fun b o u e => by rw [upd_ne (nB b _ (un7.frzs b o u e))]; exact un7.frzs b o u e,
      fun b ps e => by
        obtain ⟨more, em⟩ := un7.tbls b ps e
        exact ⟨more, by rw [upd_ne (nB b _ em)]; exact em⟩⟩
    have hok8 : HOk X.prog X.w (upd H' a (excN a (.ref c))) h7 := fun b y e => by
      by_cases hb : b = a
      · subst hb
        rw [upd_same] at e
        cases e
        exact ⟨⟨o7, v7, e7, c7, d7, r7⟩, ⟨o7, e7⟩, fun h1 h2 ⟨o, vs, p1, p2, p3, p4⟩ kk => ⟨o, vs, kk o p1, p2, p3, p4⟩⟩
      · rw [upd_ne hb] at e
        exact (hok7 b y e).stay (fun _ _ _ z => z) (fun d z => by rw [upd_ne (nB d _ z)]; exact z) fun d xs z => by rw [upd_ne (nB d _ z)]; exact z
    have I8 : Inv X pins σ1 (upd H' a (excN a (.ref c))) { s1 with heap := h7 } := I0.call' (s' := { s1 with heap := h7 }) os un8 hok8 gens (fun b z => absurd z (by simp))
    refine store_ok (X := X.inExc a) (I8.inExc a) hN hi (Or.inl hx) (v := .ref a) rfl (fun s9 I9 => ?_) (.inr hx)
    have hlen : i < X.N.length := (List.getElem?_eq_some_iff.mp hi).1
    have rf : RaisesF ((X.inExc a).wish fun e s' => ∃ p2 σ2 H2 s2 h3 e1 t, e = .ref e1 ∧ s' = { s2 with heap := h3 } ∧ Inv (X.inExc a) p2 σ2 H2 s2 ∧ s2.heap.get? e1 = none ∧ (∀ b o, s2.heap.get? b = some o → h3.get? b = some o) ∧
        h3.get? e1 = some { cls := .ref CD, data := .fields #[.ref t, .none, .ref a, .ref a, .bool true, .none] } ∧ E (.ref CD) none H2) a (fun C _ H => C = .ref CD ∧ E C none H) := fun p2 σ2 H2 s2 h3 e1 t C J f1 f2 f3 q => by
      obtain ⟨rfl, q⟩ := q
      exact ⟨p2, σ2, H2, s2, h3, e1, t, rfl, rfl, J.unwish, f1, f2, f3, q⟩
    have kk := k σ1 a I0.len na
    refine wpAny_mono (pss_one (ps_raiseF (X := (X.inExc a).wish _) (i := i) (c := c) (a := a) (CH := CH) hmy oD (hM c mo) rfl rf hgy hi hx (ha a _) he hplain hdy hd2 hcd2) pins s9 _ _ { nx := fun _ _ => False, rt := fun _ _ => False } (I9.wish _) kk) (fun fw s10 q => ?_) fun e10 s10 z => ?_
    · cases fw with
      | next => obtain ⟨_, _, _, q⟩ := q; exact q.elim
      | brk => obtain ⟨_, _, _, q⟩ := q; exact q.elim
      | cont => obtain ⟨_, _, _, q⟩ := q; exact q.elim
      | ret u => obtain ⟨_, _, _, _, _, q⟩ := q; exact q.elim
    · obtain ⟨p2, σ2, H2, s2, h3, e1, t, rfl, rfl, J, f1, f2, f3, q⟩ := z
      have J0 : Inv X p2 σ2 H2 s2 := J.outExc I.ok.hd
      have inS : ∀ env ∈ X.stack, ∀ b, env.frame = some b → b ∈ frs X.stack := fun env he b hb => List.mem_filterMap.mpr ⟨env, he, hb⟩
      have g1 : (hideAll s2.heap (frs X.stack)).StaysIn s2.heap := fun b o z => of_hideAll _ z
      have fresh : ∀ b, s2.heap.get? b = none → (hideAll s2.heap (frs X.stack)).get? b = none := fun b hb => by
        cases hq : (hideAll s2.heap (frs X.stack)).get? b with
        | none => rfl
        | some o' => have := g1 b o' hq; rw [hb] at this; cases this
      have there : ∀ b o, s2.heap.get? b = some o → b ∉ frs X.stack → (hideAll s2.heap (frs X.stack)).get? b = some o := fun b o e nb => hideAll_get _ e nb
      have hs2 : ∀ b o, X.s₀.heap.get? b = some o → b ∉ X.fs → ∃ o', (hideAll s2.heap (frs X.stack)).get? b = some o' := fun b o e nb => by
        obtain ⟨o1, e1⟩ := J0.base.there b o e (by rw [hex]; simp)
        refine ⟨o1, there b o1 e1 fun hb => ?_⟩
        rcases List.mem_cons.mp (J0.stkSub b hb) with z | z
        · exact absurd (Nat.lt_of_lt_of_le (Heap.lt_size e) (by rw [z]; exact J0.ok.above)) (Nat.lt_irrefl _)
        · exact nb z
      have ht2 : ∀ b x, H2 b = some x → ∃ o, (hideAll s2.heap (frs X.stack)).get? b = some o := fun b x e => by
        obtain ⟨o, eo⟩ := (J0.hok b x e).there
        exact ⟨o, there b o eo fun hb => by rw [J0.stkFree b hb] at e; cases e⟩
      have ff := (funFrames_hide J0.stack inS).of_keeps (h' := h3) fun b o hb _ => ⟨o, f2 b o hb, rfl⟩
      clear there
      generalize hideAll s2.heap (frs X.stack) = B2 at *
      rw [hst] at ff
      refine note1R (R := R) (s := { s2 with heap := h3 }) (base := B2) hR fA hfr ff f3 (fun b o hb => f2 b o (g1 b o hb)) (fresh e1 f1) rfl (by show 4 < 6; decide) rfl (hR0 t a) fun h11 fl11 up11 => ?_
      have up1 : s2.heap.UpToSlots h11 := (Heap.UpToSlots.of_keeps f2).trans up11
      have fr : ∀ b ∈ X.fs, ∃ o, s2.heap.get? b = some o ∧ ∀ vs, o.data ≠ .fields vs := fun b hb => (J0.funs.mem hb).2
      have un2 : Un X.fs [] X.H₀ H2 X.s₀.heap s2.heap := by have := J0.base; rw [hex] at this; exact this
      have F11 : Flying X R E e1 (rawInt X.env.locals) { s2 with heap := h11 } := ⟨.ref CD, B2, H2, J0.os, J0.bare, by rw [hst]; exact fl11, hs2, ht2, fly_un hs2 g1 fl11.stays fr un2 up1, fly_ok ht2 g1 fl11.stays J0.hok, q⟩
      obtain ⟨m, hn, _⟩ := id J0.loc
      refine wpAny_nameGoes (show X.env.kindOf n = some .local from hx) (up1.ns hn) (by rw [I.ok.kind]; rfl) fun h12 m12 hn12 sb12 => ?_
      have F12 := F11.locals (tk := s2.toks + 1) hst hfr I.ok.above hn12 sb12
      obtain ⟨oe, vs, T, o1, o2, o3⟩ := F12.there
      unfold PySem.passOn
      refine wpAny_bind (wpAny_field o1 o2 o3 ?_)
      rw [if_neg (by simp)]
      refine wpAny_bind (F12.flight hst X.env.frame fun h13 F13 => wpAny_throw ?_)
      refine F13.note hR hst hfr (by rw [hst]; exact fA) fun h14 F14 => ?_
      obtain ⟨oe, vs, T, o1, o2, o3⟩ := F14.there
      refine wpAny_bind (wpAny_field o1 o2 o3 ?_)
      rw [if_neg (by simp)]
      refine F14.flight hst X.env.frame fun h15 F15 => ?_
      exact hL _ _ I.ok.frames F15.flies
end L2
set_option maxRecDepth 100000
namespace L2
open PySem PySem.Spec PyProof.Rows PySem.W
def tFmtR (te : TE) : TE := fun σ H Q => te σ H fun v H1 => ∃ z, v = .str z ∧ (∀ c ∈ z.cps.toList, c < 128) ∧ z.length ≤ 1000 ∧ ∀ y : Str, y.length ≤ 10002 → Q (.str y) H1
theorem pe_fmtR {X : Cx} {e : Expr} {te : TE} {pos : Pos} (he : PE X e te) : PE X (.FormattedValue e 114 none pos) (tFmtR te) := by
  intro pins s σ H Q I h
  refine wpAny_FormattedValue_repr (thn (he pins s σ H _ I h) fun v s1 ⟨x, H1, I1, r1, q1⟩ => ?_)
  obtain ⟨z, rfl, hz, hl, q⟩ := q1
  obtain ⟨t, rfl⟩ := r1
  have ln : (reprText z).length ≤ 10002 := by
    have := PySem.StrLaws.reprText_len z fun c hc => Nat.lt_trans (hz c hc) (by decide)
    omega
  have sz : (reprText z).length ≤ sizeLine := Nat.le_trans ln (by decide)
  exact wpAny_pyReprObj_str (wpAny_formatField_str ⟨.str _, H1, I1.tok _, ⟨_, rfl⟩, q _ ln⟩ ⟨.str _, H1, (I1.tok _).tok _, ⟨_, rfl⟩, q _ ln⟩ sz) sz
end L2
set_option maxRecDepth 100000
namespace Toy
open PySem L2 Geo
def top (i : Nat) : Stmt := PySem.Challenge.pw_hullpart_k14_unread.main.body.getD i (.Pass ⟨0, 0, 0, 0⟩)
abbrev sChk : Stmt := top 10
abbrev sChks : Stmt := top 11
abbrev sRead : Stmt := top 14
abbrev sRPt : Stmt := top 15
abbrev sPlace : Stmt := top 16
abbrev sCell : Stmt := top 18
abbrev sNext : Stmt := top 19
abbrev sPts : Stmt := top 20
abbrev sText : Stmt := top 21
abbrev sKind : Stmt := top 22
abbrev sTried : Stmt := top 23
abbrev sSpoil : Stmt := top 24
abbrev sLaw : Stmt := top 25
structure Txt (mg : Str → Option Value) : Prop where
  len : mg "len" = none
  abs : mg "abs" = none
  sorted : mg "sorted" = none
  set : mg "set" = none
  list : mg "list" = none
  reversed : mg "reversed" = none
  range : mg "range" = none
  isinstance : mg "isinstance" = none
  int : mg "int" = none
  bool : mg "bool" = none
  tuple : mg "tuple" = none
  min : mg "min" = none
  max : mg "max" = none
  all : mg "all" = none
  sum : mg "sum" = none
  zip : mg "zip" = none
  any : mg "any" = none
  str : mg "str" = none
  enumerate : mg "enumerate" = none
  valueError : mg "ValueError" = none
  digits : ∃ t, mg "DIGITS" = some (.str "0123456789" t)
  far : ∃ t, mg "FARTHEST" = some (.int 1000 t)
  most : ∃ t, mg "MOST_POINTS" = some (.int 12 t)
end Toy
set_option maxRecDepth 100000
namespace Toy
open PySem L2 Geo
section
variable {P : Program} {w : World} {K : PySem.W.Frag} {mg : Str → Option Value} {base : Heap}
def spChk : Sp := fun vs H Q _ => ∃ v p, vs = [v] ∧ IsPt H v p ∧ Bd p ∧ Q .non H
theorem scChk : FnScope ["point"] ["point"] (defScope sChk) := ⟨rfl, rfl, rfl, by decide +kernel, rfl, by decide +kernel, by decide +kernel⟩
theorem abs_le {i : Int} (h1 : -1000 ≤ i) (h2 : i ≤ 1000) : decide ((1000 : Int) < (if i < 0 then -i else i)) = false := decide_eq_false (by split <;> omega)
theorem ok_chk {f : Addr} {fd : FuncData} (F : Fun K "check_point" "check_point" sChk f fd) (T : Txt mg) : FnOk P w K mg base CX0 1 f fd ["point"] spChk := by
  refine F.ok scChk (fun vs H Q E h => ?_) (fun cdv A outer s H vs Q E hr h => ?_)
  · obtain ⟨v, p, rfl, _⟩ := h; rfl
  · obtain ⟨v, p, rfl, hp, hb, k⟩ := h
    obtain ⟨t, hf⟩ := T.far
    obtain ⟨a, rfl, ha⟩ := hp
    refine ⟨_, pss_one (ps_if (PW.pt (pw_or (pt_cmpR op_ne (pe_callB call_len_seq rfl T.len PySem.boot_len (pa_cons (pv 0) pa_nil)) pe_int (nomark _))
      (pw_or (pt_cmpR op_gt (pe_callB call_abs rfl T.abs PyProof.Rows.boot_abs (pa_cons (pe_ix ix_tup (pv 0) pe_int (fun _ _ => rfl)) pa_nil)) (pe_glob (v := .int 1000) rfl hf ⟨t, rfl⟩) (nomark _))
        (pw_or1 (pt_cmpR op_gt (pe_callB call_abs rfl T.abs PyProof.Rows.boot_abs (pa_cons (pe_ix ix_tup (pv 0) pe_int (fun _ _ => rfl)) pa_nil)) (pe_glob (v := .int 1000) rfl hf ⟨t, rfl⟩) (nomark _))))))
      pss_never pss_nil), ?_⟩
    refine ⟨_, rfl, a, _, rfl, .inr (SqT.of ha), rfl, _, rfl, ?_⟩
    refine iteF ?_
    refine ⟨_, rfl, a, _, _, _, rfl, rfl, SqT.of ha, atI_nat (j := 0) rfl, _, rfl, _, _, rfl, rfl, _, rfl, ?_⟩
    rw [abs_le hb.1 hb.2.1]
    refine iteF ?_
    refine ⟨_, rfl, a, _, _, _, rfl, rfl, SqT.of ha, atI_nat (j := 1) rfl, _, rfl, _, _, rfl, rfl, _, rfl, ?_⟩
    rw [abs_le hb.2.2.1 hb.2.2.2]
    exact iteF k
def spChks (K : PySem.W.Frag) : Sp := fun vs H Q _ => ∃ a xs ps, vs = [.ref a] ∧ SqL K H a xs ∧ ArePts H xs ps ∧ ps.length ≤ 12 ∧ (∀ p ∈ ps, Bd p) ∧ Q .non H
theorem scChks : FnScope ["points", "point"] ["points"] (defScope sChks) := ⟨rfl, rfl, rfl, by decide +kernel, rfl, by decide +kernel, by decide +kernel⟩
theorem ok_chks {f g : Addr} {fd gd : FuncData} (F : Fun K "check_points" "check_points" sChks f fd) (T : Txt mg) (G : FnOk P w K mg base CX0 1 g gd ["point"] spChk) (bG : Binds K gd ["point"] []) (kG : PySem.W.keepIn K (.ref g) = true) (mG : mg "check_point" = some (.ref g)) :
    FnOk P w K mg base CX0 2 f fd ["points"] (spChks K) := by
  refine F.ok scChks (fun vs H Q E h => ?_) (fun cdv A outer s H vs Q E hr h => ?_)
  · obtain ⟨a, xs, ps, rfl, _⟩ := h; rfl
  · obtain ⟨a, xs, ps, rfl, hq, hp, hl, hb, k⟩ := h
    obtain ⟨t, hm⟩ := T.most
    have ln := hp.length
    refine ⟨_, pss_cons (ps_if (pt_cmpR op_gt (pe_callB call_len_seq rfl T.len PySem.boot_len (pa_cons (pv 0) pa_nil)) (pe_glob (v := .int 12) rfl hm ⟨t, rfl⟩) (nomark _)) pss_never pss_nil)
      (pss_one (ps_for PassesOwn.never rfl (pi_list (pv 0)) (pg_name (i := 1) scChks.nd rfl (Or.inl rfl)) (pss_one (ps_expr (pe_call G hr rfl mG kG bG .nil pass0 (pa_cons (pv 1) pa_nil)))))), ?_⟩
    refine ⟨_, rfl, a, _, rfl, .inl hq, _, _, rfl, rfl, _, rfl, ?_⟩
    rw [decide_eq_false (show ¬ (12 : Int) < (xs.length : Int) by omega)]
    refine iteF ?_
    refine ⟨_, rfl, a, rfl, ⟨_, hq⟩, for_list (K := K) (a := a) (xs := xs) (fun i σ H2 => H2 = H ∧ ∃ v, σ = [some (.ref a), v]) ⟨rfl, none, rfl⟩ (fun i σ H2 _ ⟨e, _⟩ => by rw [e]; exact hq) ?_ ?_⟩
    · rintro i y σ H2 hi ⟨rfl, v, rfl⟩
      obtain ⟨p, h1, h2⟩ := Pair.get hp hi
      exact ⟨_, rfl, y, p, rfl, h2, hb p (List.mem_of_getElem? h1), rfl, some y, rfl⟩
    · rintro σ H2 ⟨rfl, v, rfl⟩
      exact k
end
end Toy
set_option maxRecDepth 100000
namespace Toy
open PySem L2 Geo
section
variable {P : Program} {w : World} {K : PySem.W.Frag} {mg : Str → Option Value} {base : Heap}
def spCell (K : PySem.W.Frag) : Sp := fun vs H Q _ => ∃ (a : Addr) (ns : List Int) (k : Int), vs = [.ref a, .int k] ∧ SqL K H a (ns.map V.int) ∧ 0 ≤ k ∧ ∀ z : Int, z = ns.getD k.toNat 0 → Q (.int z) H
theorem scCell : FnScope ["script", "k"] ["script", "k"] (defScope sCell) := ⟨rfl, rfl, rfl, by decide +kernel, rfl, by decide +kernel, by decide +kernel⟩
theorem ok_cell {f : Addr} {fd : FuncData} (F : Fun K "_law_cell_at" "_law_cell_at" sCell f fd) (T : Txt mg) : FnOk P w K mg base CX0 1 f fd ["script", "k"] (spCell K) := by
  refine F.ok scCell (fun vs H Q E h => ?_) (fun cdv A outer s H vs Q E hr h => ?_)
  · obtain ⟨a, ns, k, rfl, _⟩ := h; rfl
  · obtain ⟨a, ns, k, rfl, hq, h0, q⟩ := h
    refine ⟨_, pss_cons (ps_if (pt_cmpR op_lt (pv 1) (pe_callB call_len_seq rfl T.len PySem.boot_len (pa_cons (pv 0) pa_nil)) (nomark _)) (pss_one (ps_ret (pe_ix ix_list (pv 0) (pv 1) (fun _ _ => rfl)))) pss_nil) (pss_one (ps_ret pe_int)), ?_⟩
    refine ⟨_, rfl, _, rfl, a, _, rfl, .inl hq, _, _, rfl, rfl, _, rfl, ?_⟩
    refine ite2 (fun c => ?_) (fun c => ?_)
    · have c' : k < ((ns.map V.int).length : Int) := of_decide_eq_true c
      rw [List.length_map] at c'
      have hk : k.toNat < ns.length := by omega
      have e : atI (ns.map V.int) k = some (.int ns[k.toNat]) := by
        have := atI_nat (xs := ns.map V.int) (j := k.toNat) (v := .int ns[k.toNat]) (by simp [hk])
        rw [show ((k.toNat : Nat) : Int) = k by omega] at this
        exact this
      exact ⟨_, rfl, _, rfl, a, _, _, _, rfl, rfl, hq, e, q _ (by rw [List.getD_eq_getElem?_getD, List.getElem?_eq_getElem hk]; rfl)⟩
    · have c' : ¬ k < ((ns.map V.int).length : Int) := of_decide_eq_false (Bool.eq_false_iff.mpr c)
      rw [List.length_map] at c'
      exact q 0 (by rw [List.getD_eq_getElem?_getD, List.getElem?_eq_none (by omega)]; rfl)
def spNext : Sp := fun vs H Q _ => ∃ x : Int, vs = [.int x] ∧ ∀ r : Int, 0 ≤ r → r < 2147483629 → Q (.int r) H
theorem scNext : FnScope ["seed"] ["seed"] (defScope sNext) := ⟨rfl, rfl, rfl, by decide +kernel, rfl, by decide +kernel, by decide +kernel⟩
theorem ok_next {f : Addr} {fd : FuncData} (F : Fun K "_law_next" "_law_next" sNext f fd) : FnOk P w K mg base CX0 1 f fd ["seed"] spNext := by
  refine F.ok scNext (fun vs H Q E h => ?_) (fun cdv A outer s H vs Q E hr h => ?_)
  · obtain ⟨x, rfl, _⟩ := h; rfl
  · obtain ⟨x, rfl, q⟩ := h
    refine ⟨_, pss_cons (ps_set (i := 0) scNext.nd rfl (Or.inl rfl) (pe_op op_mod (pe_op op_add (pv 0) pe_int) pe_int))
      (pss_one (ps_ret (pe_op op_mod (pe_op op_add (pe_op op_add (pe_op op_mul (pv 0) (pv 0)) (pe_op op_mul pe_int (pv 0))) pe_int) pe_int))), ?_⟩
    refine ⟨_, rfl, _, _, rfl, rfl, _, _, rfl, rfl, (by show (0 : Int) < 2147483647; decide), ?_⟩
    have h1 := Int.emod_nonneg (x + 7919) (show (2147483647 : Int) ≠ 0 by decide)
    have h2 := Int.emod_lt_of_pos (x + 7919) (show (0 : Int) < 2147483647 by decide)
    refine ⟨_, rfl, _, rfl, _, _, rfl, rfl, .inl ⟨Int.lt_of_lt_of_le (by decide) h1, Int.lt_trans h2 (by decide)⟩, _, rfl, _, _, rfl, rfl, .inl ⟨by decide, by decide⟩, _, _, rfl, rfl, _, _, rfl, rfl, _, _, rfl, rfl, (by show (0 : Int) < 2147483629; decide), ?_⟩
    exact q _ (Int.emod_nonneg _ (by decide)) (Int.emod_lt_of_pos _ (by decide))
end
end Toy
set_option maxRecDepth 100000
namespace Toy
open PySem L2 Geo
section
variable {P : Program} {w : World} {K : PySem.W.Frag} {mg : Str → Option Value} {base : Heap}
def spPts (K : PySem.W.Frag) : Sp := fun vs H Q _ => ∃ (a : Addr) (ns : List Int) (i m : Int), vs = [.ref a, .int i, .int m] ∧ SqL K H a (ns.map V.int) ∧ 0 ≤ i ∧ 0 ≤ m ∧ m ≤ 12 ∧
  ∀ r zs ps H', H r = none → Same H H' → H' r = some (.lst zs) → ArePts H' zs ps → ps.length = (ns.getD i.toNat 0 % (m + 1)).toNat → (ps.length : Int) ≤ m → (∀ p ∈ ps, Bd p) → Q (.ref r) H'
theorem scPts : FnScope ["script", "at", "most", "many", "span", "points", "k", "seed", "wide", "across"] ["script", "at", "most"] (defScope sPts) := ⟨rfl, rfl, rfl, by decide +kernel, rfl, by decide +kernel, by decide +kernel⟩
abbrev cPts : Scope := lcScope (defScope sPts) (asgVal (nth (ifBody (nth (defBody sPts) 4)) 1))
theorem cs_pts {cdv : Value} {A : Around} {outer : List Env} {s : Shared} {H : Hp} {E : XK} {f : Addr} :
    CompScope (cxOf CX0 P w K mg base ["script", "at", "most", "many", "span", "points", "k", "seed", "wide", "across"] "_law_points" (defScope sPts) f cdv A outer s H E).nox cPts ["point", "across"] [none, some 9] where
  kind := rfl
  nocell := by decide +kernel
  names := by decide +kernel
  frees := by show ∀ z ∈ cPts.names, z.2 = .free → (defScope sPts).names.lookup z.1 = some .cell; decide +kernel
  nd := by decide +kernel
  len := rfl
  cap := fun i j h => match i, h with
    | 0, h => by simp at h
    | 1, h => by
      simp at h; subst h
      exact ⟨"across", rfl, rfl, by decide +kernel, rfl, .inl rfl⟩
    | n + 2, h => by simp at h
theorem span_at (z : Int) : ∃ sp : Int, atI ([.int 2, .int 4, .int 1000, .int 1] : List V) (z % 4) = some (.int sp) ∧ 1 ≤ sp ∧ sp ≤ 1000 := by
  have h : z % 4 = 0 ∨ z % 4 = 1 ∨ z % 4 = 2 ∨ z % 4 = 3 := by omega
  rcases h with h | h | h | h
  · rw [h]; exact ⟨2, atI_nat (j := 0) rfl, by decide, by decide⟩
  · rw [h]; exact ⟨4, atI_nat (j := 1) rfl, by decide, by decide⟩
  · rw [h]; exact ⟨1000, atI_nat (j := 2) rfl, by decide, by decide⟩
  · rw [h]; exact ⟨1, atI_nat (j := 3) rfl, by decide, by decide⟩
theorem pt_bd {a b sp : Int} (h1 : 1 ≤ sp) (h2 : sp ≤ 1000) : Bd (a % (2 * sp + 1) - sp, b % (2 * sp + 1) - sp) := by
  have a1 := Int.emod_nonneg a (show (2 * sp + 1) ≠ 0 by omega)
  have a2 := Int.emod_lt_of_pos a (show 0 < 2 * sp + 1 by omega)
  have b1 := Int.emod_nonneg b (show (2 * sp + 1) ≠ 0 by omega)
  have b2 := Int.emod_lt_of_pos b (show 0 < 2 * sp + 1 by omega)
  generalize a % (2 * sp + 1) = x at *
  generalize b % (2 * sp + 1) = y at *
  refine ⟨?_, ?_, ?_, ?_⟩ <;> dsimp only <;> omega
theorem ac_bd {p : Pt} {z : Int} (h : Bd p) : Bd (p.1, (z % 3 - 1) * p.1) := by
  have e : z % 3 - 1 = -1 ∨ z % 3 - 1 = 0 ∨ z % 3 - 1 = 1 := by omega
  obtain ⟨h1, h2, _, _⟩ := h
  rcases e with e | e | e <;> rw [e] <;> refine ⟨h1, h2, ?_, ?_⟩ <;> dsimp only <;> omega
theorem cs_nd : ((["point", "across"] : List Str)).Nodup := by decide +kernel
theorem ok_pts {f g h : Addr} {fd gd hd : FuncData} (F : Fun K "_law_points" "_law_points" sPts f fd) (T : Txt mg) (G : FnOk P w K mg base CX0 1 g gd ["script", "k"] (spCell K)) (bG : Binds K gd ["script", "k"] []) (kG : PySem.W.keepIn K (.ref g) = true) (mG : mg "_law_cell_at" = some (.ref g))
    (R : FnOk P w K mg base CX0 1 h hd ["seed"] spNext) (bR : Binds K hd ["seed"] []) (kR : PySem.W.keepIn K (.ref h) = true) (mR : mg "_law_next" = some (.ref h)) :
    FnOk P w K mg base CX0 2 f fd ["script", "at", "most"] (spPts K) := by
  refine F.ok scPts (fun vs H Q E h => ?_) (fun cdv A outer s H vs Q E hr h => ?_)
  · obtain ⟨a, ns, i, m, rfl, _⟩ := h; rfl
  · obtain ⟨a, ns, i, m, rfl, hq, i0, m0, m1, k⟩ := h
    refine ⟨_, pss_cons (ps_set (i := 3) scPts.nd rfl (Or.inl rfl) (pe_op op_mod (pe_call G hr rfl mG kG bG .nil pass0 (pa_cons (pv 0) (pa_cons (pv 1) pa_nil))) (pe_op op_add (pv 2) pe_int)))
      (pss_cons (ps_set (i := 4) scPts.nd rfl (Or.inl rfl) (pe_ix ix_list (pe_lst (pa_cons pe_int (pa_cons pe_int (pa_cons pe_int (pa_cons pe_int pa_nil))))) (pe_op op_mod (pe_call G hr rfl mG kG bG .nil pass0 (pa_cons (pv 0) (pa_cons (pe_op op_add (pv 1) pe_int) pa_nil))) pe_int) (fun _ _ => rfl)))
      (pss_cons (ps_set (i := 5) scPts.nd rfl (Or.inl rfl) (pe_lst pa_nil))
      (pss_cons (ps_for PassesOwn.never rfl (pi_range1 rfl T.range (pa_cons (pv 3) pa_nil)) (pg_name (i := 6) scPts.nd rfl (Or.inl rfl))
        (pss_cons (ps_set (i := 7) scPts.nd rfl (Or.inl rfl) (pe_call R hr rfl mR kR bR .nil pass0 (pa_cons (pe_op op_add (pe_call G hr rfl mG kG bG .nil pass0 (pa_cons (pv 0) (pa_cons (pe_op op_add (pe_op op_add (pv 1) pe_int) (pe_op op_mod (pv 6) pe_int)) pa_nil))) (pe_op op_mul pe_int (pv 6))) pa_nil)))
        (pss_cons (ps_set (i := 8) scPts.nd rfl (Or.inl rfl) (pe_op op_add (pe_op op_mul pe_int (pv 4)) pe_int))
        (pss_one (ps_expr (pe_bm PySem.F.plainAttrs_list PySem.F.slot_list_append PySem.F.type_list_append mt_append (pv 5) (pa_cons (pe_tup (pa_cons (pe_op op_sub (pe_op op_mod (pe_op op_fdiv (pv 7) pe_int) (pv 8)) (pv 4)) (pa_cons (pe_op op_sub (pe_op op_mod (pe_op op_fdiv (pe_op op_fdiv (pv 7) pe_int) (pv 8)) (pv 8)) (pv 4)) pa_nil))) pa_nil)))))))
      (pss_cons (ps_if (pt_cmpR op_eq (pe_op op_mod (pe_op op_fdiv (pe_call G hr rfl mG kG bG .nil pass0 (pa_cons (pv 0) (pa_cons (pe_op op_add (pv 1) pe_int) pa_nil))) pe_int) pe_int) pe_int (nomark _))
        (pss_cons (ps_set (i := 9) scPts.nd rfl (Or.inr rfl) (pe_op op_sub (pe_op op_mod (pe_call G hr rfl mG kG bG .nil pass0 (pa_cons (pv 0) (pa_cons (pe_op op_add (pv 1) pe_int) pa_nil))) pe_int) pe_int))
        (pss_one (ps_setC (i := 5) scPts.nd rfl rfl cs_pts rfl (pi_list (pv 5)) (fun _ _ _ _ _ => pg_name (i := 0) cs_nd rfl (Or.inl rfl)) (fun _ _ _ _ _ => pif_nil)
          (fun _ _ _ _ _ => pe_tup (pa_cons (pe_ix (ixt (K' := K) rfl) (pv 0) pe_int (fun _ _ => rfl)) (pa_cons (pe_op op_mul (pv 1) (pe_ix (ixt (K' := K) rfl) (pv 0) pe_int (fun _ _ => rfl))) pa_nil))) rfl))) pss_nil)
      (pss_one (ps_ret (pv 5))))))), ?_⟩
    refine ⟨_, rfl, _, rfl, a, ns, i, rfl, hq, i0, fun z1 hz1 => ?_⟩
    refine ⟨_, rfl, _, _, rfl, rfl, _, _, rfl, rfl, (by show (0 : Int) < m + 1; omega), ?_⟩
    have n1 := Int.emod_nonneg z1 (show m + 1 ≠ 0 by omega)
    have n2 := Int.emod_lt_of_pos z1 (show 0 < m + 1 by omega)
    refine ⟨(by show 4 ≤ sizeLine; decide), fun l hl => ?_⟩
    have s1 : Same H (upd H l (.lst [.int 2, .int 4, .int 1000, .int 1])) := same_upd (Same.refl H) hl
    refine ⟨_, rfl, _, rfl, _, _, rfl, rfl, a, ns, i + 1, rfl, s1.seq hq, by omega, fun z2 _ => ?_⟩
    obtain ⟨sp, e2, b1, b2⟩ := span_at z2
    refine ⟨_, _, rfl, rfl, (by show (0 : Int) < 4; decide), l, _, _, _, rfl, rfl, SqL.of upd_same, e2, ?_⟩
    refine ⟨(by show 0 ≤ sizeLine; decide), fun r hr0 => ?_⟩
    have hr1 : H r = none := s1.free hr0
    have s2 : Same H (upd (upd H l (.lst [.int 2, .int 4, .int 1000, .int 1])) r (.lst [])) := same_upd s1 hr1
    refine ⟨_, rfl, z1 % (m + 1), rfl, by omega, by omega, ?_⟩
    refine for_range (n := (z1 % (m + 1)).toNat) (fun j σ H2 => ∃ vk vs vw zs ps, σ = [some (.ref a), some (.int i), some (.int m), some (.int (z1 % (m + 1))), some (.int sp), some (.ref r), vk, vs, vw, none] ∧ Same H H2 ∧ H2 r = some (.lst zs) ∧ ArePts H2 zs ps ∧ ps.length = j ∧ ∀ p ∈ ps, Bd p)
      ⟨none, none, none, [], [], rfl, s2, upd_same, .nil, rfl, fun p hp => by simp at hp⟩ ?_ ?_
    · rintro j σ H2 hj ⟨vk, vs, vw, zs, ps, rfl, s3, h3, hp, hl', hb⟩
      have lz := hp.length
      refine ⟨_, rfl, _, rfl, _, _, rfl, rfl, _, rfl, _, _, rfl, rfl, (by show (0 : Int) < 8; decide), _, _, rfl, rfl, a, ns, _, rfl, s3.seq hq, (by omega), fun z3 _ => ?_⟩
      refine ⟨_, rfl, _, _, rfl, rfl, .inl ⟨by decide, by decide⟩, _, _, rfl, rfl, _, rfl, fun sd sd0 sd1 => ?_⟩
      refine ⟨_, rfl, _, _, rfl, rfl, .inl ⟨by decide, by decide⟩, _, _, rfl, rfl, ?_⟩
      have wp : (0 : Int) < 2 * sp + 1 := by omega
      refine ⟨_, rfl, .inl ⟨rfl, _, SqL.of h3⟩, ?_⟩
      refine ⟨_, rfl, _, _, rfl, rfl, ⟨by decide, by decide⟩, _, rfl, _, _, rfl, rfl, wp, _, rfl, _, _, rfl, rfl, ?_⟩
      refine ⟨_, rfl, _, _, rfl, rfl, ⟨by decide, by decide⟩, _, rfl, _, _, rfl, rfl, ⟨wp, (by omega)⟩, _, rfl, _, _, rfl, rfl, wp, _, rfl, _, _, rfl, rfl, ?_⟩
      refine ⟨(by show 2 ≤ sizeLine; decide), fun t ht => ?_⟩
      have tr : r ≠ t := ne_of_none h3 ht
      have h4 : (upd H2 t (.tup [.int (sd / 7 % (2 * sp + 1) - sp), .int (sd / 7 / (2 * sp + 1) % (2 * sp + 1) - sp)])) r = some (.lst zs) := by rw [upd_ne tr]; exact h3
      refine ⟨r, _, _, rfl, rfl, h4, small1000 (by omega), ?_⟩
      refine ⟨_, _, _, _, ps ++ [(sd / 7 % (2 * sp + 1) - sp, sd / 7 / (2 * sp + 1) % (2 * sp + 1) - sp)], rfl, same_upd (same_upd s3 (s3.free ht)) hr1, upd_same, ?_, by simp [hl'], fun p hp' => ?_⟩
      · refine Pair.append (ArePts.keep hp ((Keep.new ht _).trans (Keep.lst h4 _))) (.cons ⟨t, rfl, ?_⟩ .nil)
        rw [upd_ne tr.symm, upd_same]
      · rcases List.mem_append.mp hp' with z | z
        · exact hb p z
        · rw [List.mem_singleton] at z; rw [z]; exact pt_bd b1 b2
    · rintro σ H2 ⟨vk, vs, vw, zs, ps, rfl, s3, h3, hp, hl', hb⟩
      have lz := hp.length
      refine ⟨_, rfl, _, rfl, _, _, rfl, rfl, a, ns, _, rfl, s3.seq hq, by omega, fun z4 _ => ?_⟩
      refine ⟨_, _, rfl, rfl, ⟨by decide, by decide⟩, _, _, rfl, rfl, (by show (0 : Int) < 5; decide), rfl, _, rfl, ?_⟩
      refine ite2 (fun c => ?_) (fun c => ?_)
      · refine ⟨_, rfl, _, rfl, _, _, rfl, rfl, a, ns, _, rfl, s3.seq hq, by omega, fun z5 _ => ?_⟩
        refine ⟨_, _, rfl, rfl, (by show (0 : Int) < 3; decide), _, _, rfl, rfl, ?_⟩
        refine ⟨_, rfl, r, rfl, ⟨_, SqL.of h3⟩, fun D hD => ?_⟩
        have sD : Same H2 (upd H2 D (.lst [])) := same_upd (Same.refl H2) hD
        refine comp_list (K := K) (a := r) (xs := zs) (fun j σ' H' => ∃ v ys qs, σ' = [v, some (.int (z5 % 3 - 1))] ∧ Same H2 H' ∧ H' D = some (.lst ys) ∧ ArePts H' ys qs ∧ qs.length = j ∧ ∀ q ∈ qs, Bd q)
          ⟨none, [], [], rfl, sD, upd_same, .nil, rfl, fun p hp => by simp at hp⟩ (fun j σ' H' _ ⟨_, _, _, _, s4, _⟩ => s4.seq (SqL.of h3)) ?_ ?_
        · rintro j x σ' H' hj ⟨v, ys, qs, rfl, s4, h4, hq4, l4, b4⟩
          obtain ⟨p, p1, p2⟩ := Pair.get hp hj
          have hjl := (List.getElem?_eq_some_iff.mp hj).1
          have ly := hq4.length
          obtain ⟨t, rfl, ht⟩ := IsPt.same p2 s4
          dsimp only [gName, tYes]
          refine iteT ?_
          have bp : Bd p := hb p (List.mem_of_getElem? p1)
          refine ⟨_, rfl, t, _, _, _, rfl, rfl, SqT.of ht, atI_nat (j := 0) rfl, ?_⟩
          refine ⟨_, rfl, _, rfl, t, _, _, _, rfl, rfl, SqT.of ht, atI_nat (j := 0) rfl, _, _, rfl, rfl, mulOk _ _ (by omega) (by omega), ?_⟩
          refine ⟨(by show 2 ≤ sizeLine; decide), fun u hu => ?_⟩
          have uD : D ≠ u := ne_of_none h4 hu
          have h5 : (upd H' u (.tup [.int p.1, .int ((z5 % 3 - 1) * p.1)])) D = some (.lst ys) := by rw [upd_ne uD]; exact h4
          refine ⟨ys, h5, small1000 (by omega), _, _, qs ++ [(p.1, (z5 % 3 - 1) * p.1)], rfl, same_upd (same_upd s4 (s4.free hu)) hD, upd_same, ?_, by simp [l4], fun q hq' => ?_⟩
          · refine Pair.append (ArePts.keep hq4 ((Keep.new hu _).trans (Keep.lst h5 _))) (.cons ⟨u, rfl, ?_⟩ .nil)
            rw [upd_ne uD.symm, upd_same]
          · rcases List.mem_append.mp hq' with z | z
            · exact b4 q z
            · rw [List.mem_singleton] at z; rw [z]; exact ac_bd bp
        · rintro σ' H' ⟨v, ys, qs, rfl, s4, h4, hq4, l4, b4⟩
          refine ⟨_, rfl, k D ys qs H' (s3.free hD) (s3.trans s4) h4 hq4 (by rw [← hz1]; omega) (by omega) b4⟩
      · exact ⟨_, rfl, k r zs ps H2 hr1 s3 h3 hp (by rw [← hz1]; exact hl') (by omega) hb⟩
end
end Toy
set_option maxRecDepth 100000
namespace Geo
open PySem PySem.Builtin PySem.Builtin.Str PySem.StrLaws
theorem occ_run (s : Str) (c limit : Nat) : ∀ (n a : Nat) (st : Array Nat × Nat), st.2 ≤ a → st.1.size + n ≤ limit →
    (forIn (List.range' a n) st (occBody s ⟨#[c]⟩ s.length limit)).run.fst.size = st.1.size + (List.range' a n).countP fun i => decide (s.cps.toList[i]? = some c)
  | 0, a, st, _, _ => by simp
  | n + 1, a, st, h1, h2 => by
    rw [List.range'_succ, List.forIn_cons, List.countP_cons]
    unfold occBody
    by_cases hc : s.cps.toList[a]? = some c
    · have hs := (subAt_one s c a).mpr hc
      rw [if_pos ⟨⟨⟨by omega, h1⟩, hs.1⟩, hs.2⟩]
      have := occ_run s c limit n (a + 1) (st.1.push a, a + 1) (Nat.le_refl _) (by simp only [Array.size_push]; omega)
      simp only [Array.size_push] at this
      rw [if_pos (decide_eq_true hc)]
      refine Eq.trans this ?_
      omega
    · rw [if_neg (fun h => hc ((subAt_one s c a).mp ⟨h.1.2, h.2⟩))]
      have := occ_run s c limit n (a + 1) (st.1, st.2) (by dsimp only; omega) (by dsimp only; omega)
      rw [if_neg (fun h => hc (of_decide_eq_true h))]
      exact this
theorem count_range (L : List Nat) (c : Nat) : ∀ (n a : Nat), (List.range' a n).countP (fun i => decide (L[i]? = some c)) = ((L.drop a).take n).count c
  | 0, a => by simp
  | n + 1, a => by
    rw [List.range'_succ, List.countP_cons, count_range L c n (a + 1)]
    by_cases h : a < L.length
    · rw [List.drop_eq_getElem_cons h, List.take_succ_cons, List.count_cons, List.getElem?_eq_getElem h]
      by_cases e : L[a] = c <;> simp [e]
    · rw [List.drop_eq_nil_of_le (by omega), List.drop_eq_nil_of_le (by omega), List.getElem?_eq_none (by omega)]
      simp
theorem occ_count (s : Str) (c : Nat) : (occurrences s ⟨#[c]⟩ 0 s.length (s.length + 1)).length = s.cps.toList.count c := by
  rw [occ_eq, Array.length_toList]
  have := occ_run s c (s.length + 1) (s.length + 1 - 0) 0 (#[], 0) (Nat.le_refl _) (by simp)
  rw [this, count_range, List.drop_zero, List.take_of_length_le (by rw [Array.length_toList]; unfold Str.length; omega)]
  simp
def jn (c : Nat) : List (List Nat) → List Nat
  | [] => []
  | [x] => x
  | x :: y :: r => x ++ c :: jn c (y :: r)
theorem join_jn (c : Nat) : ∀ ws : List Str, (Str.join ⟨#[c]⟩ ws).cps.toList = jn c (ws.map (·.cps.toList))
  | [] => rfl
  | [x] => rfl
  | x :: y :: r => by
    have := join_jn c (y :: r)
    show (x ++ ⟨#[c]⟩ ++ Str.join ⟨#[c]⟩ (y :: r)).cps.toList = x.cps.toList ++ c :: jn c ((y :: r).map (·.cps.toList))
    rw [← this, PySem.W.KT.app_list, PySem.W.KT.app_list]
    simp
theorem app_cut {c : Nat} : ∀ {x y s t : List Nat}, c ∉ x → c ∉ y → x ++ c :: s = y ++ c :: t → x = y ∧ s = t
  | [], [], _, _, _, _, h => by simpa using h
  | [], b :: y, _, _, _, hy, h => by
    simp at h
    exact absurd (by simp [h.1]) hy
  | a :: x, [], _, _, hx, _, h => by
    simp at h
    exact absurd (by simp [h.1]) hx
  | a :: x, b :: y, s, t, hx, hy, h => by
    simp only [List.cons_append, List.cons.injEq] at h
    obtain ⟨e1, e2⟩ := app_cut (fun m => hx (List.mem_cons_of_mem _ m)) (fun m => hy (List.mem_cons_of_mem _ m)) h.2
    exact ⟨by rw [h.1, e1], e2⟩
theorem jn_inj {c : Nat} : ∀ {A B : List (List Nat)}, A ≠ [] → B ≠ [] → (∀ x ∈ A, c ∉ x) → (∀ x ∈ B, c ∉ x) → jn c A = jn c B → A = B
  | [], _, h, _, _, _, _ => absurd rfl h
  | _, [], _, h, _, _, _ => absurd rfl h
  | [x], [y], _, _, _, _, h => by rw [show x = y from h]
  | [x], y :: y' :: r, _, _, hA, _, h => absurd (show c ∈ x from (show x = y ++ c :: jn c (y' :: r) from h) ▸ List.mem_append.mpr (.inr (List.mem_cons_self ..))) (hA x (by simp))
  | x :: x' :: r, [y], _, _, _, hB, h => absurd (show c ∈ y from (show y = x ++ c :: jn c (x' :: r) from h.symm) ▸ List.mem_append.mpr (.inr (List.mem_cons_self ..))) (hB y (by simp))
  | x :: x' :: r, y :: y' :: r', _, _, hA, hB, h => by
    obtain ⟨e1, e2⟩ := app_cut (hA x (by simp)) (hB y (by simp)) (show x ++ c :: jn c (x' :: r) = y ++ c :: jn c (y' :: r') from h)
    rw [e1, jn_inj (by simp) (by simp) (fun z hz => hA z (List.mem_cons_of_mem _ hz)) (fun z hz => hB z (List.mem_cons_of_mem _ hz)) e2]
theorem jn_count (c : Nat) : ∀ A : List (List Nat), A ≠ [] → (jn c A).count c + 1 = (A.map (·.count c)).sum + A.length
  | [], h => absurd rfl h
  | [x], _ => by simp [jn]
  | x :: y :: r, _ => by
    have := jn_count c (y :: r) (by simp)
    simp only [jn, List.count_append, List.count_cons_self, List.map_cons, List.sum_cons, List.length_cons] at this ⊢
    omega
theorem str_eq {a b : Str} (h : a.cps.toList = b.cps.toList) : a = b := by
  cases a; cases b
  simp only [Str.mk.injEq]
  exact Array.toList_inj.mp h
theorem map_list_inj : ∀ {A B : List Str}, A.map (·.cps.toList) = B.map (·.cps.toList) → A = B
  | [], [], _ => rfl
  | [], _ :: _, h => by cases h
  | _ :: _, [], h => by cases h
  | a :: A, b :: B, h => by
    simp only [List.map_cons, List.cons.injEq] at h
    rw [str_eq h.1, map_list_inj h.2]
theorem split_ok (z : Str) {c : Nat} (hc : c < 256) : Txt.split z ⟨#[c]⟩ ≠ [] ∧ (∀ w ∈ Txt.split z ⟨#[c]⟩, c ∉ w.cps.toList) ∧ Str.join ⟨#[c]⟩ (Txt.split z ⟨#[c]⟩) = z := by
  have one : c ∉ z.cps.toList → [z] ≠ [] ∧ (∀ w ∈ [z], c ∉ w.cps.toList) ∧ Str.join ⟨#[c]⟩ [z] = z := fun h => ⟨by simp, by simpa using h, rfl⟩
  unfold Txt.split
  split
  · rename_i h
    refine one ?_
    have k1 : PySem.Builtin.Str.strKind ⟨#[c]⟩ = 1 := by unfold PySem.Builtin.Str.strKind; simp [hc]
    have k2 : 1 ≤ PySem.Builtin.Str.strKind z := by unfold PySem.Builtin.Str.strKind; split <;> (try split) <;> omega
    rw [k1, Bool.or_eq_true, decide_eq_true_eq, decide_eq_true_eq] at h
    rcases h with h | h
    · have h0 : z.cps.toList.length = 0 := by
        have : z.length < 1 := h
        rw [Array.length_toList]; unfold Str.length at this; omega
      rw [List.length_eq_zero_iff.mp h0]; simp
    · omega
  · split
    · rename_i h
      refine one ?_
      have h0 := occ_count z c
      rw [List.isEmpty_iff.mp h] at h0
      exact List.count_eq_zero.mp h0.symm
    · have g := glued_between_self z ⟨#[c]⟩ (z.length + 1)
      have ln := length_partsBetween z (occurrences z ⟨#[c]⟩ 0 z.length (z.length + 1)) (⟨#[c]⟩ : Str).length
      rw [occ_count] at ln
      rw [glued_eq_join] at g
      generalize partsBetween z (occurrences z ⟨#[c]⟩ 0 z.length (z.length + 1)) (⟨#[c]⟩ : Str).length = R at g ln
      have ne : R ≠ [] := fun e => by rw [e] at ln; simp at ln
      refine ⟨ne, fun w hw => ?_, g⟩
      have j := join_jn c R
      rw [g] at j
      have k := jn_count c (R.map (·.cps.toList)) (by simpa using ne)
      rw [← j, List.length_map, ln] at k
      have z0 : ((R.map (·.cps.toList)).map (·.count c)).sum = 0 := by omega
      have : ∀ (l : List Nat), l.sum = 0 → ∀ x ∈ l, x = 0 := fun l => by
        induction l with
        | nil => simp
        | cons a l ih =>
          intro h x hx
          simp only [List.sum_cons] at h
          rcases List.mem_cons.mp hx with e | e
          · omega
          · exact ih (by omega) x e
      exact List.count_eq_zero.mp (this _ z0 _ (List.mem_map.mpr ⟨_, List.mem_map.mpr ⟨w, hw, rfl⟩, rfl⟩))
theorem split_join {ws : List Str} {c : Nat} (hc : c < 256) (ne : ws ≠ []) (h : ∀ w ∈ ws, c ∉ w.cps.toList) : Txt.split (Txt.join ⟨#[c]⟩ ws) ⟨#[c]⟩ = ws := by
  obtain ⟨a, b, e⟩ := split_ok (Txt.join ⟨#[c]⟩ ws) hc
  have e2 : Txt.join ⟨#[c]⟩ ws = Str.join ⟨#[c]⟩ ws := glued_eq_join _ _
  have j1 := join_jn c (Txt.split (Txt.join ⟨#[c]⟩ ws) ⟨#[c]⟩)
  rw [e, e2, join_jn c ws] at j1
  rw [e2] at a b ⊢
  refine map_list_inj (jn_inj (by simpa using a) (by simpa using ne) (fun x hx => ?_) (fun x hx => ?_) j1.symm)
  · obtain ⟨w, hw, rfl⟩ := List.mem_map.mp hx; exact b w hw
  · obtain ⟨w, hw, rfl⟩ := List.mem_map.mp hx; exact h w hw
def digs (n : Nat) : List Nat := (Nat.toDigits 10 n).map Char.toNat
def decL (i : Int) : List Nat := if i < 0 then 45 :: digs i.natAbs else digs i.natAbs
def dec (i : Int) : Str := Str.ofString (toString i)
theorem dec_list (i : Int) : (dec i).cps.toList = decL i := by
  unfold dec decL digs
  cases i with
  | ofNat m =>
    rw [if_neg (by simp)]
    exact PySem.W.KIN.signs_num m
  | negSucc m =>
    rw [if_pos (Int.negSucc_lt_zero m), PyProof.Rows.signs_ofString]
    show ("-" ++ Nat.repr (m + 1)).toList.map Char.toNat = _
    rw [String.toList_append, List.map_append, Nat.toList_repr]
    rfl
def isD (c : Nat) : Bool := decide (48 ≤ c) && decide (c ≤ 57)
def good (i : Int) : Bool := decide (PySem.intText? ⟨(decL i).toArray⟩ = some i) && decide ((decL i).length ≤ 5) && !(digs i.natAbs).isEmpty && (digs i.natAbs).all isD && decide (i.natAbs.log2 < 1920)
set_option maxHeartbeats 0 in
theorem all_good : (List.range 2001).all (fun n => good ((n : Int) - 1000)) = true := by decide +kernel
structure Dec (i : Int) : Prop where
  reads : PySem.intText? (dec i) = some i
  len : (dec i).length ≤ 5
  ne : digs i.natAbs ≠ []
  digs : ∀ c ∈ digs i.natAbs, 48 ≤ c ∧ c ≤ 57
  log : i.natAbs.log2 < 1920
theorem dec_ok {i : Int} (h1 : -1000 ≤ i) (h2 : i ≤ 1000) : Dec i := by
  have h := List.all_eq_true.mp all_good (i + 1000).toNat (List.mem_range.mpr (by omega))
  rw [show (((i + 1000).toNat : Nat) : Int) - 1000 = i by omega] at h
  unfold good at h
  simp only [Bool.and_eq_true, decide_eq_true_eq] at h
  obtain ⟨⟨⟨⟨a, b⟩, c⟩, d⟩, e⟩ := h
  have e1 : (⟨(decL i).toArray⟩ : Str) = dec i := str_eq (by rw [dec_list])
  rw [e1] at a
  refine ⟨a, ?_, fun z => by rw [z] at c; simp at c, fun x hx => ?_, e⟩
  · unfold Str.length; rw [← Array.length_toList, dec_list]; exact b
  · have := List.all_eq_true.mp d x hx
    unfold isD at this
    simpa using this
theorem Dec.signs {i : Int} (h : Dec i) : ∀ c ∈ (dec i).cps.toList, c = 45 ∨ (48 ≤ c ∧ c ≤ 57) := fun c hc => by
  rw [dec_list] at hc
  unfold decL at hc
  split at hc
  · rcases List.mem_cons.mp hc with z | z
    · exact .inl z
    · exact .inr (h.digs c z)
  · exact .inr (h.digs c hc)
def wordOf (p : Int × Int) : Str := Str.join ⟨#[44]⟩ [dec p.1, dec p.2]
theorem word_app (p : Int × Int) : dec p.1 ++ (⟨#[44]⟩ : Str) ++ dec p.2 = wordOf p := rfl
theorem word_split {p : Int × Int} (h1 : Dec p.1) (h2 : Dec p.2) : Txt.split (wordOf p) ⟨#[44]⟩ = [dec p.1, dec p.2] := by
  have e : wordOf p = Txt.join ⟨#[44]⟩ [dec p.1, dec p.2] := (glued_eq_join _ _).symm
  rw [e]
  refine split_join (by decide) (by simp) fun w hw => ?_
  simp only [List.mem_cons, List.not_mem_nil, or_false] at hw
  rcases hw with z | z
  · rw [z]; intro m; have := h1.signs _ m; omega
  · rw [z]; intro m; have := h2.signs _ m; omega
theorem word_signs {p : Int × Int} (h1 : Dec p.1) (h2 : Dec p.2) : ∀ c ∈ (wordOf p).cps.toList, c = 44 ∨ c = 45 ∨ (48 ≤ c ∧ c ≤ 57) := fun c hc => by
  rw [show (wordOf p).cps.toList = _ from join_jn 44 _] at hc
  simp only [List.map_cons, List.map_nil, jn, List.mem_append, List.mem_cons] at hc
  rcases hc with z | z | z
  · have := h1.signs c z; omega
  · exact .inl z
  · have := h2.signs c z; omega
theorem word_len {p : Int × Int} (h1 : Dec p.1) (h2 : Dec p.2) : (wordOf p).length ≤ 11 := by
  have a := h1.len
  have b := h2.len
  unfold Str.length at *
  rw [← Array.length_toList, show (wordOf p).cps.toList = _ from join_jn 44 _]
  simp only [List.map_cons, List.map_nil, jn, List.length_append, List.length_cons, Array.length_toList]
  omega
theorem minus_sign : (Str.ofString "-" : Str) = ⟨#[45]⟩ := by decide +kernel
theorem comma_sign : (Str.ofString "," : Str) = ⟨#[44]⟩ := by decide +kernel
theorem blank_sign : (Str.ofString " " : Str) = ⟨#[32]⟩ := by decide +kernel
theorem no_text : (Str.ofString "" : Str) = ⟨#[]⟩ := by decide +kernel
theorem dec_starts {i : Int} (h : Dec i) : Txt.startswith (dec i) ⟨#[45]⟩ = decide (i < 0) := by
  rw [Bool.eq_iff_iff, decide_eq_true_eq]
  unfold Txt.startswith
  rw [Bool.and_eq_true, decide_eq_true_eq, subAt_one, dec_list]
  unfold decL
  constructor
  · intro e
    refine Classical.byContradiction fun hn => ?_
    rw [if_neg hn] at e
    have := h.digs 45 (List.mem_of_getElem? e)
    omega
  · intro hn
    rw [if_pos hn]; rfl
def body (i : Int) : Str := if i < 0 then Txt.slice (dec i) (some 1) none else dec i
theorem body_list {i : Int} (h : Dec i) : (body i).cps.toList = digs i.natAbs := by
  unfold body
  by_cases hn : i < 0
  · rw [if_pos hn]
    have l1 : 1 ≤ (dec i).length := by
      unfold Str.length; rw [← Array.length_toList, dec_list]; unfold decL; rw [if_pos hn]; simp
    show (sliceText (dec i) (some 1) none).cps.toList = _
    unfold sliceText
    rw [sliceIdx_none_hi]
    have e := sliceText_nat (dec i) (a := 1) (b := (dec i).length) l1 (Nat.le_refl _)
    unfold sliceText at e
    refine (congrArg (fun z : Str => z.cps.toList) e).trans ?_
    show (((dec i).cps.toList.drop 1).take ((dec i).length - 1)) = _
    rw [List.take_of_length_le (by rw [List.length_drop, Array.length_toList]; exact Nat.le_refl _), dec_list]
    unfold decL; rw [if_pos hn]; rfl
  · rw [if_neg hn, dec_list]; unfold decL; rw [if_neg hn]
theorem body_ne {i : Int} (h : Dec i) : body i ≠ ⟨#[]⟩ := fun e => h.ne (by rw [← body_list h, e])
theorem body_ascii {i : Int} (h : Dec i) : (body i).cps.all (· < 128) = true := by
  rw [← Array.all_toList, List.all_eq_true]
  intro c hc
  rw [body_list h] at hc
  have := h.digs c hc
  simp; omega
theorem body_in {i : Int} (h : Dec i) {c : Nat} (hc : c ∈ (body i).cps.toList) : (!(!(occurrences (Str.ofString "0123456789") ⟨#[c]⟩ 0 (Str.ofString "0123456789").length 1).isEmpty)) = false := by
  rw [found_one]
  rw [body_list h] at hc
  have := h.digs c hc
  have e : (Str.ofString "0123456789").cps.toList = [48, 49, 50, 51, 52, 53, 54, 55, 56, 57] := by decide +kernel
  rw [e, decide_eq_true (by simp; omega)]; rfl
def textOf (ps : List (Int × Int)) : Str := Str.join ⟨#[32]⟩ (ps.map wordOf)
theorem text_join (ps : List (Int × Int)) : Txt.join ⟨#[32]⟩ (ps.map wordOf) = textOf ps := glued_eq_join _ _
theorem text_split {ps : List (Int × Int)} (ne : ps ≠ []) (h : ∀ p ∈ ps, Dec p.1 ∧ Dec p.2) : Txt.split (textOf ps) ⟨#[32]⟩ = ps.map wordOf := by
  rw [← text_join]
  refine split_join (by decide) (by simpa using ne) fun w hw => ?_
  obtain ⟨p, hp, rfl⟩ := List.mem_map.mp hw
  intro m
  have := word_signs (h p hp).1 (h p hp).2 _ m
  omega
theorem text_ne {ps : List (Int × Int)} (ne : ps ≠ []) : textOf ps ≠ ⟨#[]⟩ := by
  intro e
  have j := join_jn 32 (ps.map wordOf)
  rw [show Str.join ⟨#[32]⟩ (ps.map wordOf) = ⟨#[]⟩ from e] at j
  match ps, ne with
  | [p], _ =>
    have : (wordOf p).cps.toList = [] := j.symm
    rw [show (wordOf p).cps.toList = _ from join_jn 44 _] at this
    simp [jn] at this
  | p :: q :: r, _ =>
    simp [jn] at j
theorem word_sum {ps : List (Int × Int)} (h : ∀ p ∈ ps, Dec p.1 ∧ Dec p.2) : ((ps.map wordOf).map (·.length)).sum ≤ 11 * ps.length := by
  induction ps with
  | nil => simp
  | cons p r ih =>
    have := ih fun q hq => h q (List.mem_cons_of_mem _ hq)
    have := word_len (h p (List.mem_cons_self ..)).1 (h p (List.mem_cons_self ..)).2
    simp only [List.map_cons, List.sum_cons, List.length_cons] at *
    omega
theorem text_ok {ps : List (Int × Int)} (h : ∀ p ∈ ps, Dec p.1 ∧ Dec p.2) (l : ps.length ≤ 12) : JoinOk ⟨#[32]⟩ (ps.map wordOf) = true ∧ (textOf ps).length ≤ 200 := by
  have w := word_sum h
  refine ⟨PyProof.Rows.joinOk_of (by rw [List.length_map]; show _ + _ * 1 ≤ _; omega), ?_⟩
  rw [← text_join]
  show (glued ⟨#[32]⟩ (ps.map wordOf)).length ≤ 200
  rw [size_glued, List.length_map]
  show _ + _ * 1 ≤ _
  omega
end Geo
set_option maxRecDepth 100000
namespace Toy
open PySem L2 Geo
theorem bd_dec {p : Pt} (h : Bd p) : Dec p.1 ∧ Dec p.2 := ⟨dec_ok h.1 h.2.1, dec_ok h.2.2.1 h.2.2.2⟩
theorem fits {z : Str} {n : Nat} (h : z.length ≤ n) (hn : n ≤ 1000) : z.length ≤ sizeLine := Nat.le_of_lt (small1000 (Nat.le_trans h hn))
end Toy
set_option maxRecDepth 100000
namespace Toy
open PySem L2 Geo
section
variable {P : Program} {w : World} {K : PySem.W.Frag} {mg : Str → Option Value} {base : Heap}
abbrev n_sPlace : List Str := ["word", "digits"]
def spPlace : Sp := fun vs H Q _ => ∃ i : Int, vs = [.str (dec i)] ∧ Dec i ∧ ∀ H', Same H H' → Q (.bl true) H'
theorem scPlace : FnScope n_sPlace ["word"] (defScope sPlace) := ⟨rfl, rfl, rfl, by decide +kernel, rfl, by decide +kernel, by decide +kernel⟩
abbrev c_isp : Scope := { kind := .function, names := [(".0", .local), ("sign", .local), ("DIGITS", .globalImplicit)], isGenerator := false, isCoroutine := false }
theorem cs_isp {cdv : Value} {A : Around} {outer : List Env} {s : Shared} {H : Hp} {E : XK} {f : Addr} : CompScope (cxOf CX0 P w K mg base n_sPlace "is_place" (defScope sPlace) f cdv A outer s H E).nox c_isp ["sign"] [none] where
  kind := rfl
  nocell := by decide +kernel
  names := by decide +kernel
  frees := by show ∀ z ∈ c_isp.names, z.2 = .free → (defScope sPlace).names.lookup z.1 = some .cell; decide +kernel
  nd := by decide +kernel
  len := rfl
  cap := fun i j h => match i, h with
    | 0, h => by simp at h
    | n + 1, h => by simp at h
theorem nd_isp : (["sign"] : List Str).Nodup := by decide +kernel
theorem ok_place {f : Addr} {fd : FuncData} (F : Fun K "is_place" "is_place" sPlace f fd) (T : Txt mg) : FnOk P w K mg base CX0 1 f fd ["word"] spPlace := by
  refine F.ok scPlace (fun vs H Q E h => ?_) (fun cdv A outer s H vs Q E hr h => ?_)
  · obtain ⟨i, rfl, _⟩ := h; rfl
  · obtain ⟨i, rfl, di, k⟩ := h
    obtain ⟨td, hd⟩ := T.digits
    have REST : ∃ t, PSs (cxOf CX0 P w K mg base n_sPlace "is_place" (defScope sPlace) f cdv A outer s H E).nox (List.drop 1 (defBody sPlace)) t ∧
        t { nx := fun _ H' => Q .non H', rt := Q } [some (.str (dec i)), some (.str (body i))] H := by
      refine ⟨_, pss_cons (ps_if (PW.pt (pw_or (pt_cmpR op_eq (pv 1) pe_str (nomark _))
          (pw_or1 (pt_val (pe_callB (call_anyL hr.hd) rfl T.any PyProof.Rows.boot_any (pa_cons (pe_comp cs_isp rfl (pi_str (pv 1)) (fun _ _ _ _ _ => pg_name (i := 0) nd_isp rfl (Or.inl rfl)) (fun _ _ _ _ _ => pif_nil)
            (fun _ _ _ _ _ => pe_cmpR op_notIn_str (pv 0) (pe_glob (v := .str "0123456789") rfl hd ⟨td, rfl⟩) rfl)) pa_nil)))))) (pss_one (ps_ret pe_bl)) pss_nil)
        (pss_one (ps_ret (pe_cmpR op_eq (pe_callTy call_str_int rfl T.str PyProof.Rows.boot_str (pa_cons (pe_callTy call_int_text rfl T.int PyProof.Rows.boot_int (pa_cons (pv 0) pa_nil)) pa_nil)) (pv 0) (nomark _)))), ?_⟩
      refine ⟨_, rfl, rfl, false, (by show V.bl (decide (V.str (body i) = V.str (Str.ofString ""))) = V.bl false; rw [decide_eq_false (fun e => by have := V.str.inj e; rw [no_text] at this; exact body_ne di this)]), iteF ?_⟩
      refine ⟨_, rfl, body i, rfl, body_ascii di, fun D hD => ?_⟩
      refine comp_str (z := body i) (fun j σ' H' => ∃ v bs, σ' = [v] ∧ Same H H' ∧ H' D = some (.lst (bs.map V.bl)) ∧ bs.length = j ∧ bs.any id = false)
        ⟨none, [], rfl, same_upd (Same.refl H) hD, upd_same, rfl, rfl⟩ ?_ ?_
      · rintro j c σ' H' hj ⟨v, bs, rfl, s4, h4, lb, ab⟩
        have hc : c ∈ (body i).cps.toList := by
          rw [← Array.getElem?_toList] at hj
          exact List.mem_of_getElem? hj
        have hjl : j < (body i).cps.size := (Array.getElem?_eq_some_iff.mp hj).1
        have bl : (body i).cps.size ≤ 5 := by
          have a := di.len
          have b := Txt.slice_le (dec i) (some 1) none
          unfold Str.length at a b
          unfold body
          split <;> omega
        dsimp only [gName, tYes]
        refine iteT ⟨_, rfl, _, _, rfl, rfl, bs.map V.bl, h4, small1000 (by rw [List.length_map]; omega), _, bs ++ [false], rfl, same_upd s4 hD, ?_, by simp [lb], by simp at ab ⊢; exact ab⟩
        rw [body_in di hc, upd_same, List.map_append]; rfl
      · rintro σ' H' ⟨v, bs, rfl, s4, h4, lb, ab⟩
        refine ⟨D, bs, rfl, SqL.of h4, false, (by rw [ab]), iteF ?_⟩
        refine ⟨_, rfl, dec i, i, rfl, di.reads, Nat.le_trans di.len (by decide), i, rfl, di.log, _, rfl, rfl, ?_⟩
        have : Q (.bl (decide (V.str (dec i) = V.str (dec i)))) H' := by rw [decide_eq_true rfl]; exact k H' s4
        exact this
    obtain ⟨tR, hR, rest⟩ := REST
    refine ⟨_, pss_cons (ps_set (i := 1) scPlace.nd rfl (Or.inl rfl) (pe_ifExp (pt_val (pe_bm PySem.F.plainAttrs_str PySem.F.slot_str_startswith PySem.F.type_str_startswith mt_starts (pv 0) (pa_cons pe_str pa_nil)))
        (pe_slice sl_strFrom (pv 0) (po_some pe_int) po_none) (pv 0))) hR, ?_⟩
    refine ⟨_, rfl, rfl, dec i, _, rfl, rfl, decide (i < 0), (by show V.bl (Txt.startswith (dec i) (Str.ofString "-")) = _; rw [minus_sign, dec_starts di]), ?_⟩
    by_cases hn : i < 0
    · rw [decide_eq_true hn]
      have e : Txt.slice (dec i) (some 1) none = body i := by unfold body; rw [if_pos hn]
      refine iteT ⟨_, rfl, _, rfl, dec i, 1, rfl, rfl, rfl, fits di.len (by decide), ?_⟩
      rw [e]
      exact rest
    · rw [decide_eq_false hn]
      have e : dec i = body i := by unfold body; rw [if_neg hn]
      refine iteF ⟨_, rfl, ?_⟩
      rw [← e] at rest
      exact rest
theorem scRPt : FnScope ["word", "pair"] ["word"] (defScope sRPt) := ⟨rfl, rfl, rfl, by decide +kernel, rfl, by decide +kernel, by decide +kernel⟩
abbrev n_sRead : List Str := ["text", "words", "points", "refusal"]
theorem scRead : FnScope n_sRead ["text"] (defScope sRead) := ⟨rfl, rfl, rfl, by decide +kernel, rfl, by decide +kernel, by decide +kernel⟩
abbrev c_rdp : Scope := { kind := .function, names := [(".0", .local), ("word", .local), ("read_point", .globalImplicit)], isGenerator := false, isCoroutine := false }
theorem cs_rdp {cdv : Value} {A : Around} {outer : List Env} {s : Shared} {H : Hp} {E : XK} {f : Addr} : CompScope (cxOf CX0 P w K mg base n_sRead "read" (defScope sRead) f cdv A outer s H E).nox c_rdp ["word"] [none] where
  kind := rfl
  nocell := by decide +kernel
  names := by decide +kernel
  frees := by show ∀ z ∈ c_rdp.names, z.2 = .free → (defScope sRead).names.lookup z.1 = some .cell; decide +kernel
  nd := by decide +kernel
  len := rfl
  cap := fun i j h => match i, h with
    | 0, h => by simp at h
    | n + 1, h => by simp at h
theorem nd_rdp : (["word"] : List Str).Nodup := by decide +kernel
end
end Toy
set_option maxRecDepth 100000
namespace Toy
open PySem L2 Geo
structure Excs (K : PySem.W.Frag) (mg : Str → Option Value) (cH cP cS cF cM cN : Addr) : Prop where
  mH : mg "HullError" = some (.ref cH)
  mP : mg "NoPoint" = some (.ref cP)
  mS : mg "NoSpot" = some (.ref cS)
  mF : mg "NoFour" = some (.ref cF)
  mM : mg "NoMiddle" = some (.ref cM)
  mN : mg "NoNote" = some (.ref cN)
  oP : ExcOk K cH cP
  kP : ([cP, cS, cF, cM, cN].map fun d => PySem.W.kitOne K (.ref cP) (.ref d)) = [true, false, false, false, false].map some
  oS : ExcOk K cH cS
  kS : ([cP, cS, cF, cM, cN].map fun d => PySem.W.kitOne K (.ref cS) (.ref d)) = [false, true, false, false, false].map some
  oF : ExcOk K cH cF
  kF : ([cP, cS, cF, cM, cN].map fun d => PySem.W.kitOne K (.ref cF) (.ref d)) = [false, false, true, false, false].map some
  oM : ExcOk K cH cM
  kM : ([cP, cS, cF, cM, cN].map fun d => PySem.W.kitOne K (.ref cM) (.ref d)) = [false, false, false, true, false].map some
  oN : ExcOk K cH cN
  kN : ([cP, cS, cF, cM, cN].map fun d => PySem.W.kitOne K (.ref cN) (.ref d)) = [false, false, false, false, true].map some
end Toy
set_option maxRecDepth 100000
namespace Toy
open PySem L2 Geo
section
variable {P : Program} {w : World} {K : PySem.W.Frag} {mg : Str → Option Value} {base : Heap} {cH cP cS cF cM cN : Addr}
structure SmP (p : Pt) : Prop where
  x : p.1.natAbs < 2 ^ 81
  y : p.2.natAbs < 2 ^ 81
def spChkBad (cP : Addr) : Sp := fun vs H _ E => ∃ v p, vs = [v] ∧ IsPt H v p ∧ ¬ Bd p ∧ SmP p ∧ E (.ref cP) none H
theorem ok_chkB {f : Addr} {fd : FuncData} (F : Fun K "check_point" "check_point" sChk f fd) (T : Txt mg) (X : Excs K mg cH cP cS cF cM cN) : FnOk P w K mg base (CXR Ctx0 P w) 1 f fd ["point"] (spChkBad cP) := by
  refine Fun.okR F scChk (fun vs H Q E h => ?_) (fun cdv A outer s H vs Q E hr h => ?_)
  · obtain ⟨v, p, rfl, _⟩ := h; rfl
  · obtain ⟨v, p, rfl, ⟨a, rfl, ha⟩, no, sm, k⟩ := h
    obtain ⟨t, hf⟩ := T.far
    have hu : (A.deeper (PyProof.Rows.envOfC "check_point" (defScope sChk) s.heap.objs.size f cdv)).units + 16 < cLine := by have := hr.units; omega
    refine ⟨_, pss_one (ps_if (PW.pt (pw_or (pt_cmpR op_ne (pe_callB call_len_seq rfl T.len PySem.boot_len (pa_cons (pv 0) pa_nil)) pe_int (nomark _))
      (pw_or (pt_cmpR op_gt (pe_callB call_abs rfl T.abs PyProof.Rows.boot_abs (pa_cons (pe_ix ix_tup (pv 0) pe_int (fun _ _ => rfl)) pa_nil)) (pe_glob (v := .int 1000) rfl hf ⟨t, rfl⟩) (nomark _))
        (pw_or1 (pt_cmpR op_gt (pe_callB call_abs rfl T.abs PyProof.Rows.boot_abs (pa_cons (pe_ix ix_tup (pv 0) pe_int (fun _ _ => rfl)) pa_nil)) (pe_glob (v := .int 1000) rfl hf ⟨t, rfl⟩) (nomark _))))))
      (pss_one (ps_raiseE X.mP X.oP (raisesR field_ctx0 ctx0_made) rfl rfl (pa_cons (pe_joined (pf_cons pe_str (pf_cons (pe_fmtT hr.gd hu (pv 0)) pf_nil))) pa_nil))) pss_nil), ?_⟩
    have fin : (tRaise (.ref cP) (tCons (fun σ H Q => fCons (tC (.str "no point: ")) (fCons (tFmtT (tVar 0)) fNil) σ H PySem.Str.empty Q) tNil) E : TS) { nx := fun _ H' => Q .non H', rt := Q } [some (.ref a)] H := by
      have l0 : (PySem.Str.empty ++ (Str.ofString "no point: ")).length = 10 := by decide +kernel
      refine ⟨_, rfl, Nat.le_of_lt (small1000 (by omega)), _, rfl, a, [p.1, p.2], rfl, ha, (by show 2 ≤ 3; decide), ?_, fun z lz => ⟨z, rfl, ?_, ?_, (by show 1 ≤ 100; decide), k⟩⟩
      · intro n hn
        simp only [List.mem_cons, List.not_mem_nil, or_false] at hn
        rcases hn with e | e
        · rw [e]; exact sm.x
        · rw [e]; exact sm.y
      · rw [strLen_append]
        exact Nat.le_of_lt (small1000 (by omega))
      · rw [strLen_append]
        exact Nat.le_of_lt (small1000 (by omega))
    refine ⟨_, rfl, a, _, rfl, .inr (SqT.of ha), rfl, _, rfl, iteF ?_⟩
    refine ⟨_, rfl, a, _, _, _, rfl, rfl, SqT.of ha, atI_nat (j := 0) rfl, _, rfl, _, _, rfl, rfl, decide ((1000 : Int) < (if p.1 < 0 then -p.1 else p.1)), rfl, ?_⟩
    by_cases c : (1000 : Int) < (if p.1 < 0 then -p.1 else p.1)
    · rw [decide_eq_true c]
      exact iteT fin
    · rw [decide_eq_false c]
      refine iteF ⟨_, rfl, a, _, _, _, rfl, rfl, SqT.of ha, atI_nat (j := 1) rfl, _, rfl, _, _, rfl, rfl, true, (by
        show V.bl (decide ((1000 : Int) < (if p.2 < 0 then -p.2 else p.2))) = V.bl true
        rw [decide_eq_true]
        refine Classical.byContradiction fun c2 => no ?_
        unfold Bd
        split at c <;> split at c2 <;> omega), iteT fin⟩
structure BadL (K : PySem.W.Frag) (H : Hp) (a : Addr) (xs : List V) (ps : List Pt) : Prop where
  sq : SqL K H a xs
  pts : ArePts H xs ps
  bad : 12 < ps.length ∨ ∃ (j : Nat) (p : Pt), ps[j]? = some p ∧ ¬ Bd p ∧ SmP p ∧ ∀ (i : Nat) (q : Pt), i < j → ps[i]? = some q → Bd q
theorem BadL.same {H H' : Hp} {a : Addr} {xs : List V} {ps : List Pt} (h : BadL K H a xs ps) (s : Same H H') : BadL K H' a xs ps := ⟨s.seq h.sq, h.pts.same s, h.bad⟩
def spBad1 (K : PySem.W.Frag) (cP : Addr) : Sp := fun vs H _ E => ∃ a xs ps, vs = [.ref a] ∧ BadL K H a xs ps ∧ ∀ H', Same H H' → E (.ref cP) none H'
theorem ok_chksB {f g : Addr} {fd gd : FuncData} (F : Fun K "check_points" "check_points" sChks f fd) (T : Txt mg) (X : Excs K mg cH cP cS cF cM cN)
    (G : FnOk P w K mg base CX0 1 g gd ["point"] spChk) (bG : Binds K gd ["point"] []) (kG : PySem.W.keepIn K (.ref g) = true) (mG : mg "check_point" = some (.ref g))
    (G' : FnOk P w K mg base (CXR Ctx0 P w) 1 g gd ["point"] (spChkBad cP)) (_ : Binds K gd ["point"] []) (_ : PySem.W.keepIn K (.ref g) = true) (_ : mg "check_point" = some (.ref g)) :
    FnOk P w K mg base (CXR Ctx0 P w) 2 f fd ["points"] (spBad1 K cP) := by
  have G2 := FnOk.or (FnOk.lift (CX := CXR Ctx0 P w) G) G'
  refine Fun.okR F scChks (fun vs H Q E h => ?_) (fun cdv A outer s H vs Q E hr h => ?_)
  · obtain ⟨a, xs, ps, rfl, _⟩ := h; rfl
  · obtain ⟨a, xs, ps, rfl, b, k⟩ := h
    obtain ⟨t, hm⟩ := T.most
    have ln := b.pts.length
    refine ⟨_, pss_cons (ps_if (pt_cmpR op_gt (pe_callB call_len_seq rfl T.len PySem.boot_len (pa_cons (pv 0) pa_nil)) (pe_glob (v := .int 12) rfl hm ⟨t, rfl⟩) (nomark _))
        (pss_one (ps_raiseE X.mP X.oP (raisesR field_ctx0 ctx0_made) rfl rfl (pa_cons (pe_joined (pf_cons pe_str (pf_cons (pe_fmt (pe_glob (v := .int 12) rfl hm ⟨t, rfl⟩)) (pf_cons pe_str pf_nil)))) pa_nil))) pss_nil)
      (pss_one (ps_for PassesOwn.leaving rfl (pi_list (pv 0)) (pg_name (i := 1) scChks.nd rfl (Or.inl rfl)) (pss_one (ps_expr (pe_call G2 hr rfl mG kG bG .nil (passR field_ctx0 fun _ z => z) (pa_cons (pv 1) pa_nil)))))), ?_⟩
    refine ⟨_, rfl, a, _, rfl, .inl b.sq, _, _, rfl, rfl, decide ((12 : Int) < (xs.length : Int)), rfl, ?_⟩
    by_cases c : (12 : Int) < (xs.length : Int)
    · rw [decide_eq_true c]
      refine iteT ⟨_, rfl, Nat.le_of_lt (small1000 (by decide +kernel)), 12, rfl, by decide, _, rfl, Nat.le_of_lt (small1000 (by decide +kernel)), _, rfl, Nat.le_of_lt (small1000 (by decide +kernel)), Nat.le_of_lt (small1000 (by decide +kernel)), by decide, k H (Same.refl H)⟩
    · rw [decide_eq_false c]
      obtain ⟨j, p, hj, no, sm, before⟩ : ∃ (j : Nat) (p : Pt), ps[j]? = some p ∧ ¬ Bd p ∧ SmP p ∧ ∀ (i : Nat) (q : Pt), i < j → ps[i]? = some q → Bd q := by
        rcases b.bad with z | z
        · omega
        · exact z
      have hjl := (List.getElem?_eq_some_iff.mp hj).1
      refine iteF ⟨_, rfl, a, rfl, ⟨_, b.sq⟩, for_list (K := K) (a := a) (xs := xs) (fun i σ H2 => H2 = H ∧ i ≤ j ∧ ∃ v, σ = [some (.ref a), v]) ⟨rfl, Nat.zero_le _, none, rfl⟩ (fun i σ H2 _ ⟨e, _⟩ => by rw [e]; exact b.sq) ?_ ?_⟩
      · rintro i y σ H2 hi ⟨rfl, hij, v, rfl⟩
        obtain ⟨q, h1, h2⟩ := Pair.get b.pts hi
        rcases Nat.lt_or_ge i j with z | z
        · exact ⟨_, rfl, .inl ⟨y, q, rfl, h2, before i q z h1, rfl, z, some y, rfl⟩⟩
        · have e : i = j := by omega
          subst e
          rw [hj] at h1
          cases h1
          exact ⟨_, rfl, .inr ⟨y, p, rfl, h2, no, sm, k _ (Same.refl _)⟩⟩
      · rintro σ H2 ⟨_, hij, _⟩
        omega
end
end Toy
set_option maxRecDepth 100000
namespace Toy
open PySem L2 Geo
section
variable {P : Program} {w : World} {K : PySem.W.Frag} {mg : Str → Option Value} {base : Heap} {cH cP cS cF cM cN : Addr}
abbrev kindNames : List Str := ["point", "spot", "four", "middle", "note"]
structure KindIs (K : PySem.W.Frag) (cH cP cS cF cM cN c : Addr) (j : Nat) : Prop where
  ok : ExcOk K cH c
  bs : ∃ b0 b1 b2 b3 b4 : Bool, ([cP, cS, cF, cM, cN].map fun d => PySem.W.kitOne K (.ref c) (.ref d)) = [b0, b1, b2, b3, b4].map some ∧ [b0, b1, b2, b3, b4].countP id = 1 ∧ [b0, b1, b2, b3, b4][j]? = some true ∧ ∀ i, i < j → [b0, b1, b2, b3, b4][i]? = some false
  lt : j < 5
theorem kind_of {c : Addr} {j : Nat} (o : ExcOk K cH c) {bs : List Bool} (hb : ([cP, cS, cF, cM, cN].map fun d => PySem.W.kitOne K (.ref c) (.ref d)) = bs.map some) (e : bs = (List.range 5).map fun i => decide (i = j)) (hj : j < 5) : KindIs K cH cP cS cF cM cN c j := by
  refine ⟨o, ?_, hj⟩
  subst e
  have : j = 0 ∨ j = 1 ∨ j = 2 ∨ j = 3 ∨ j = 4 := by omega
  rcases this with z | z | z | z | z <;> subst z <;> exact ⟨_, _, _, _, _, hb, by decide, by decide, by decide⟩
theorem Excs.isN (X : Excs K mg cH cP cS cF cM cN) : KindIs K cH cP cS cF cM cN cN 4 := kind_of X.oN X.kN (by decide) (by decide)
def spKind (K : PySem.W.Frag) (cH cP cS cF cM cN : Addr) : Sp := fun vs H Q _ => ∃ a c j, vs = [.ref a] ∧ H a = some (excH a (.ref c)) ∧ KindIs K cH cP cS cF cM cN c j ∧ ∀ H', Same H H' → Q (.str (kindNames.getD j "")) H'
theorem scKind : FnScope ["e", "kinds"] ["e"] (defScope sKind) := ⟨rfl, rfl, rfl, by decide +kernel, rfl, by decide +kernel, by decide +kernel⟩
theorem boot_VE : bootBuiltins "ValueError" = some (.type "ValueError") := by decide +kernel
theorem ok_kind {f : Addr} {fd : FuncData} (F : Fun K "_law_kind" "_law_kind" sKind f fd) (T : Txt mg) (X : Excs K mg cH cP cS cF cM cN) : FnOkH P w K mg base 1 f fd ["e"] (spKind K cH cP cS cF cM cN) := by
  refine Fun.okH F scKind (fun vs H Q E h => ?_) (fun cdv A outer s H vs Q E hr h => ?_)
  · obtain ⟨a, c, j, rfl, _⟩ := h; rfl
  · obtain ⟨a, c, j, rfl, ha, ki, k⟩ := h
    obtain ⟨cd, dd, sl, hl⟩ := ki.ok.obj
    obtain ⟨b0, b1, b2, b3, b4, hb, hc, hj, hn⟩ := ki.bs
    simp only [List.map_cons, List.map_nil, List.cons.injEq, and_true] at hb
    obtain ⟨e0, e1, e2, e3, e4⟩ := hb
    have lk := ki.ok.lk
    refine ⟨_, pss_cons (ps_set (i := 1) scKind.nd rfl (Or.inl rfl) (pe_lst (pa_cons (pe_callB (call_isiX hl lk) rfl T.isinstance PyProof.Rows.boot_isinstance (pa_cons (pv 0) (pa_cons (pe_glob (v := .ref cP) rfl X.mP rfl) pa_nil)))
        (pa_cons (pe_callB (call_isiX hl lk) rfl T.isinstance PyProof.Rows.boot_isinstance (pa_cons (pv 0) (pa_cons (pe_glob (v := .ref cS) rfl X.mS rfl) pa_nil)))
        (pa_cons (pe_callB (call_isiX hl lk) rfl T.isinstance PyProof.Rows.boot_isinstance (pa_cons (pv 0) (pa_cons (pe_glob (v := .ref cF) rfl X.mF rfl) pa_nil)))
        (pa_cons (pe_callB (call_isiX hl lk) rfl T.isinstance PyProof.Rows.boot_isinstance (pa_cons (pv 0) (pa_cons (pe_glob (v := .ref cM) rfl X.mM rfl) pa_nil))) pa_nil))))))
      (pss_cons (ps_expr (pe_bm PySem.F.plainAttrs_list PySem.F.slot_list_append PySem.F.type_list_append mt_append (pv 1) (pa_cons (pe_callB (call_isiX hl lk) rfl T.isinstance PyProof.Rows.boot_isinstance (pa_cons (pv 0) (pa_cons (pe_glob (v := .ref cN) rfl X.mN rfl) pa_nil))) pa_nil)))
      (pss_cons (ps_if (PW.pt (pw_or (pt_not (pt_val (pe_callB (call_isiX hl lk) rfl T.isinstance PyProof.Rows.boot_isinstance (pa_cons (pv 0) (pa_cons (pe_bltn (v := .ty "ValueError") rfl T.valueError boot_VE rfl) pa_nil)))))
        (pw_or1 (pt_cmpR op_ne (pe_bm PySem.F.plainAttrs_list PySem.F.slot_list_count PySem.F.type_list_count mt_countT (pv 1) (pa_cons pe_bl pa_nil)) pe_int (nomark _))))) (pss_one (ps_ret pe_str)) pss_nil)
      (pss_one (ps_ret (pe_ix ix_list (pe_lst (pa_cons pe_str (pa_cons pe_str (pa_cons pe_str (pa_cons pe_str (pa_cons pe_str pa_nil)))))) (pe_bm PySem.F.plainAttrs_list PySem.F.slot_list_index PySem.F.type_list_index mt_indexT (pv 1) (pa_cons pe_bl pa_nil)) (fun _ _ => rfl)))))), ?_⟩
    refine ⟨_, rfl, a, .ref cP, .ref cP, b0, rfl, rfl, ha, e0, ?_⟩
    refine ⟨_, rfl, a, .ref cS, .ref cS, b1, rfl, rfl, ha, e1, ?_⟩
    refine ⟨_, rfl, a, .ref cF, .ref cF, b2, rfl, rfl, ha, e2, ?_⟩
    refine ⟨_, rfl, a, .ref cM, .ref cM, b3, rfl, rfl, ha, e3, ?_⟩
    refine ⟨(by show 4 ≤ sizeLine; decide), fun l nl => ?_⟩
    have s1 := same_upd (o := .lst [.bl b0, .bl b1, .bl b2, .bl b3]) (Same.refl H) nl
    have h1 : (upd H l (.lst [.bl b0, .bl b1, .bl b2, .bl b3])) l = some (.lst [.bl b0, .bl b1, .bl b2, .bl b3]) := upd_same
    have a1 := s1 _ _ ha
    refine ⟨_, rfl, .inl ⟨rfl, _, SqL.of h1⟩, _, rfl, a, .ref cN, .ref cN, b4, rfl, rfl, a1, e4, l, _, _, rfl, rfl, h1, small1000 (by show 4 ≤ 1000; decide), ?_⟩
    have nla : a ≠ l := fun e => by rw [e, nl] at ha; cases ha
    rw [upd_upd]
    have s2 := same_upd (o := .lst ([b0, b1, b2, b3, b4].map V.bl)) (Same.refl H) nl
    have h2 : (upd H l (.lst ([b0, b1, b2, b3, b4].map V.bl))) l = some (.lst ([b0, b1, b2, b3, b4].map V.bl)) := upd_same
    have a2 := s2 _ _ ha
    show tSeq _ _ _ _ (upd H l (.lst ([b0, b1, b2, b3, b4].map V.bl)))
    generalize (upd H l (.lst ([b0, b1, b2, b3, b4].map V.bl))) = H2 at s2 h2 a2
    refine ⟨_, rfl, a, .ty "ValueError", .type "ValueError", true, rfl, rfl, a2, ki.ok.val, true, rfl, iteF ?_⟩
    refine ⟨_, rfl, .inl ⟨rfl, _, SqL.of h2⟩, l, [b0, b1, b2, b3, b4], rfl, rfl, SqL.of h2, rfl, false, (by rw [hc]; rfl), iteF ?_⟩
    refine ⟨(by show 5 ≤ sizeLine; decide), fun l2 nl2 => ?_⟩
    have s3 := same_upd (o := .lst (kindNames.map V.str)) (Same.refl H2) nl2
    have h3 := s3 _ _ h2
    refine ⟨_, rfl, .inl ⟨rfl, _, SqL.of h3⟩, l, [b0, b1, b2, b3, b4], j, rfl, rfl, SqL.of h3, hj, hn, (by show 5 ≤ 1000; decide), l2, kindNames.map V.str, _, .str (kindNames.getD j ""), rfl, rfl, SqL.of upd_same, ?_, k _ (s2.trans s3)⟩
    refine atI_nat ?_
    rw [List.getElem?_map, List.getElem?_eq_getElem (show j < kindNames.length from ki.lt)]
    simp [List.getD, List.getElem?_eq_getElem (show j < kindNames.length from ki.lt)]
end
end Toy
set_option maxRecDepth 100000
namespace Geo
open PySem PySem.Builtin PySem.Builtin.Str PySem.StrLaws
def bodyT (z : Str) : Str := if Txt.startswith z ⟨#[45]⟩ then Txt.slice z (some 1) none else z
structure NoPlace (z : Str) : Prop where
  asc : (bodyT z).cps.all (· < 128) = true
  len : z.length ≤ 40
  why : bodyT z = ⟨#[]⟩ ∨ (∃ c ∈ (bodyT z).cps.toList, isD c = false) ∨ ∃ n : Int, PySem.intText? z = some n ∧ n.natAbs.log2 < 1920 ∧ dec n ≠ z
def isPl (p : Str) : Prop := ∃ i : Int, p = dec i ∧ Dec i
structure NoWord (z : Str) : Prop where
  asc : ∀ c ∈ z.cps.toList, c < 128
  len : z.length ≤ 100
  why : (Txt.split z ⟨#[44]⟩).length ≠ 2 ∨ ∃ p q, Txt.split z ⟨#[44]⟩ = [p, q] ∧ (NoPlace p ∨ (isPl p ∧ NoPlace q))
theorem bodyT_len (z : Str) : (bodyT z).length ≤ z.length := by
  unfold bodyT
  split
  · exact Txt.slice_le z (some 1) none
  · exact Nat.le_refl _
theorem dig_in (c : Nat) : (!(!(occurrences (Str.ofString "0123456789") ⟨#[c]⟩ 0 (Str.ofString "0123456789").length 1).isEmpty)) = !isD c := by
  rw [found_one]
  have e : (Str.ofString "0123456789").cps.toList = [48, 49, 50, 51, 52, 53, 54, 55, 56, 57] := by decide +kernel
  rw [e]
  congr 1
  unfold isD
  rw [Bool.eq_iff_iff, decide_eq_true_eq, Bool.and_eq_true, decide_eq_true_eq, decide_eq_true_eq]
  simp only [List.mem_cons, List.not_mem_nil, or_false]
  omega
end Geo
set_option maxRecDepth 100000
namespace Toy
open PySem L2 Geo
section
variable {P : Program} {w : World} {K : PySem.W.Frag} {mg : Str → Option Value} {base : Heap} {cH cP cS cF cM cN : Addr}
def spNoPlace : Sp := fun vs H Q _ => ∃ z, vs = [.str z] ∧ NoPlace z ∧ ∀ H', Same H H' → Q (.bl false) H'
theorem ok_placeN {f : Addr} {fd : FuncData} (F : Fun K "is_place" "is_place" sPlace f fd) (T : Txt mg) : FnOk P w K mg base CX0 1 f fd ["word"] spNoPlace := by
  refine F.ok scPlace (fun vs H Q E h => ?_) (fun cdv A outer s H vs Q E hr h => ?_)
  · obtain ⟨z, rfl, _⟩ := h; rfl
  · obtain ⟨z, rfl, no, k⟩ := h
    obtain ⟨td, hd⟩ := T.digits
    have zl : z.length ≤ sizeLine := fits no.len (by decide)
    have bl := bodyT_len z
    have REST : ∃ t, PSs (cxOf CX0 P w K mg base n_sPlace "is_place" (defScope sPlace) f cdv A outer s H E).nox (List.drop 1 (defBody sPlace)) t ∧
        t { nx := fun _ H' => Q .non H', rt := Q } [some (.str z), some (.str (bodyT z))] H := by
      refine ⟨_, pss_cons (ps_if (PW.pt (pw_or (pt_cmpR op_eq (pv 1) pe_str (nomark _))
          (pw_or1 (pt_val (pe_callB (call_anyL hr.hd) rfl T.any PyProof.Rows.boot_any (pa_cons (pe_comp cs_isp rfl (pi_str (pv 1)) (fun _ _ _ _ _ => pg_name (i := 0) nd_isp rfl (Or.inl rfl)) (fun _ _ _ _ _ => pif_nil)
            (fun _ _ _ _ _ => pe_cmpR op_notIn_str (pv 0) (pe_glob (v := .str "0123456789") rfl hd ⟨td, rfl⟩) rfl)) pa_nil)))))) (pss_one (ps_ret pe_bl)) pss_nil)
        (pss_one (ps_ret (pe_cmpR op_eq (pe_callTy call_str_int rfl T.str PyProof.Rows.boot_str (pa_cons (pe_callTy call_int_text rfl T.int PyProof.Rows.boot_int (pa_cons (pv 0) pa_nil)) pa_nil)) (pv 0) (nomark _)))), ?_⟩
      by_cases e0 : bodyT z = ⟨#[]⟩
      · refine ⟨_, rfl, rfl, true, (by show V.bl (decide (V.str (bodyT z) = V.str (Str.ofString ""))) = V.bl true; rw [no_text, e0, decide_eq_true rfl]), iteT ?_⟩
        exact k H (Same.refl H)
      · refine ⟨_, rfl, rfl, false, (by show V.bl (decide (V.str (bodyT z) = V.str (Str.ofString ""))) = V.bl false; rw [decide_eq_false (fun e => by have := V.str.inj e; rw [no_text] at this; exact e0 this)]), iteF ?_⟩
        refine ⟨_, rfl, bodyT z, rfl, no.asc, fun D hD => ?_⟩
        refine comp_str (z := bodyT z) (fun j σ' H' => ∃ v, σ' = [v] ∧ Same H H' ∧ H' D = some (.lst ((((bodyT z).cps.toList.take j).map fun c => !isD c).map V.bl)))
          ⟨none, rfl, same_upd (Same.refl H) hD, upd_same⟩ ?_ ?_
        · rintro j c σ' H' hj ⟨v, rfl, s4, h4⟩
          have hj' : (bodyT z).cps.toList[j]? = some c := by rw [Array.getElem?_toList]; exact hj
          have nl := no.len
          dsimp only [gName, tYes]
          refine iteT ⟨_, rfl, _, _, rfl, rfl, _, h4, small1000 (by rw [List.length_map, List.length_map, List.length_take, Array.length_toList]; unfold Str.length at *; omega), _, rfl, same_upd s4 hD, ?_⟩
          rw [dig_in, upd_same, take_snoc hj', List.map_append, List.map_append]; rfl
        · rintro σ' H' ⟨v, rfl, s4, h4⟩
          have h4' : H' D = some (.lst (((bodyT z).cps.toList.map fun c => !isD c).map V.bl)) := by
            rw [List.take_of_length_le (by rw [Array.length_toList]; exact Nat.le_refl _)] at h4; exact h4
          refine ⟨D, _, rfl, SqL.of h4', ?_⟩
          by_cases an : ((bodyT z).cps.toList.map fun c => !isD c).any id = true
          · rw [an]
            exact ⟨true, rfl, iteT (k H' s4)⟩
          · have an : ((bodyT z).cps.toList.map fun c => !isD c).any id = false := by simpa using an
            rw [an]
            refine ⟨false, rfl, iteF ?_⟩
            obtain ⟨n, r1, r2, r3⟩ : ∃ n : Int, PySem.intText? z = some n ∧ n.natAbs.log2 < 1920 ∧ dec n ≠ z := by
              rcases no.why with q | ⟨c, hc, hq⟩ | q
              · exact absurd q e0
              · exfalso
                have := List.any_eq_false.mp an (!isD c) (List.mem_map.mpr ⟨c, hc, rfl⟩)
                rw [hq] at this; simp at this
              · exact q
            refine ⟨_, rfl, z, n, rfl, r1, Nat.le_trans no.len (by decide), n, rfl, r2, _, rfl, rfl, ?_⟩
            have : Q (.bl (decide (V.str (dec n) = V.str z))) H' := by rw [decide_eq_false (fun e => r3 (V.str.inj e))]; exact k H' s4
            exact this
    obtain ⟨tR, hR, rest⟩ := REST
    refine ⟨_, pss_cons (ps_set (i := 1) scPlace.nd rfl (Or.inl rfl) (pe_ifExp (pt_val (pe_bm PySem.F.plainAttrs_str PySem.F.slot_str_startswith PySem.F.type_str_startswith mt_starts (pv 0) (pa_cons pe_str pa_nil)))
        (pe_slice sl_strFrom (pv 0) (po_some pe_int) po_none) (pv 0))) hR, ?_⟩
    refine ⟨_, rfl, rfl, z, _, rfl, rfl, Txt.startswith z ⟨#[45]⟩, (by show V.bl (Txt.startswith z (Str.ofString "-")) = _; rw [minus_sign]), ?_⟩
    by_cases hn : Txt.startswith z ⟨#[45]⟩ = true
    · have e : Txt.slice z (some 1) none = bodyT z := by unfold bodyT; rw [if_pos hn]
      rw [hn]
      refine iteT ⟨_, rfl, _, rfl, z, 1, rfl, rfl, rfl, zl, ?_⟩
      rw [e]
      exact rest
    · have e : z = bodyT z := by unfold bodyT; rw [if_neg hn]
      rw [Bool.eq_false_iff.mpr hn]
      refine iteF ⟨_, rfl, ?_⟩
      rw [← e] at rest
      exact rest
end
end Toy
set_option maxRecDepth 100000
namespace Toy
open PySem L2 Geo
section
variable {P : Program} {w : World} {K : PySem.W.Frag} {mg : Str → Option Value} {base : Heap} {cH cP cS cF cM cN : Addr}
def spRPtX (cN : Addr) : Sp := fun vs H Q E => ∃ z, vs = [.str z] ∧ ((∃ p : Pt, z = wordOf p ∧ Dec p.1 ∧ Dec p.2 ∧ ∀ u H', H u = none → Same H H' → IsPt H' (.ref u) p → Q (.ref u) H') ∨ (NoWord z ∧ ∀ H', Same H H' → E (.ref cN) none H'))
theorem ok_rptX {f g : Addr} {fd gd : FuncData} (F : Fun K "read_point" "read_point" sRPt f fd) (T : Txt mg) (X : Excs K mg cH cP cS cF cM cN)
    (I : FnOk P w K mg base CX0 1 g gd ["word"] spPlace) (b1 : Binds K gd ["word"] []) (k1 : PySem.W.keepIn K (.ref g) = true) (m1 : mg "is_place" = some (.ref g))
    (I' : FnOk P w K mg base CX0 1 g gd ["word"] spNoPlace) (_ : Binds K gd ["word"] []) (_ : PySem.W.keepIn K (.ref g) = true) (_ : mg "is_place" = some (.ref g)) : FnOk P w K mg base (CXR AnyF P w) 2 f fd ["word"] (spRPtX cN) := by
  have I2 := FnOk.or I I'
  refine Fun.okR F scRPt (fun vs H Q E h => ?_) (fun cdv A outer s H vs Q E hr h => ?_)
  · obtain ⟨z, rfl, _⟩ := h; rfl
  · obtain ⟨z, rfl, h⟩ := h
    refine ⟨_, pss_cons (ps_set (i := 1) scRPt.nd rfl (Or.inl rfl) (pe_bm PySem.F.plainAttrs_str PySem.F.slot_str_split PySem.F.type_str_split mt_split (pv 0) (pa_cons pe_str pa_nil)))
      (pss_cons (ps_if (PW.pt (pw_or (pt_cmpR op_ne (pe_callB call_len_seq rfl T.len PySem.boot_len (pa_cons (pv 1) pa_nil)) pe_int (nomark _))
        (pw_or (pt_not (pt_val (pe_call I2 hr rfl m1 k1 b1 .nil pass0 (pa_cons (pe_ix ix_list (pv 1) pe_int (fun _ _ => rfl)) pa_nil))))
        (pw_or1 (pt_not (pt_val (pe_call I2 hr rfl m1 k1 b1 .nil pass0 (pa_cons (pe_ix ix_list (pv 1) pe_int (fun _ _ => rfl)) pa_nil))))))))
        (pss_one (ps_raiseE X.mN X.oN (raisesR field_any fun _ => trivial) rfl rfl (pa_cons (pe_joined (pf_cons pe_str (pf_cons (pe_fmtR (pv 0)) pf_nil))) pa_nil))) pss_nil)
      (pss_one (ps_ret (pe_tup (pa_cons (pe_callTy call_int_text rfl T.int PyProof.Rows.boot_int (pa_cons (pe_ix ix_list (pv 1) pe_int (fun _ _ => rfl)) pa_nil)) (pa_cons (pe_callTy call_int_text rfl T.int PyProof.Rows.boot_int (pa_cons (pe_ix ix_list (pv 1) pe_int (fun _ _ => rfl)) pa_nil)) pa_nil)))))), ?_⟩
    have zl : z.length ≤ 100 := by
      rcases h with ⟨p, rfl, d1, d2, _⟩ | ⟨no, _⟩
      · have := word_len d1 d2; omega
      · exact no.len
    have pl := PySem.StrLaws.occ_length_le z (Str.ofString ",") 0 z.length (z.length + 1)
    have sl : (Txt.split z (Str.ofString ",")).length ≤ 1000 := by
      unfold Txt.split
      split
      · show 1 ≤ 1000; decide
      · split
        · show 1 ≤ 1000; decide
        · rw [length_partsBetween]; omega
    refine ⟨_, rfl, rfl, z, _, rfl, rfl, rfl, fits zl (by decide), ?_, Nat.le_of_lt (small1000 sl), fun l nl => ?_⟩
    · rw [length_partsBetween]
      exact Nat.le_of_lt (small1000 (by omega))
    rw [comma_sign] at sl ⊢
    have s1 := same_upd (o := .lst ((Txt.split z ⟨#[44]⟩).map V.str)) (Same.refl H) nl
    have hl : (upd H l (.lst ((Txt.split z ⟨#[44]⟩).map V.str))) l = some (.lst ((Txt.split z ⟨#[44]⟩).map V.str)) := upd_same
    generalize (upd H l (.lst ((Txt.split z ⟨#[44]⟩).map V.str))) = H1 at s1 hl
    rcases h with ⟨p, rfl, d1, d2, k⟩ | ⟨no, k⟩
    · rw [word_split d1 d2] at hl
      refine ⟨_, rfl, l, _, rfl, .inl (SqL.of hl), rfl, false, rfl, iteF ?_⟩
      refine ⟨_, rfl, l, _, _, _, rfl, rfl, SqL.of hl, atI_nat (j := 0) rfl, .inl ⟨p.1, rfl, d1, fun H2 s2 => ⟨true, rfl, iteF ?_⟩⟩⟩
      have hl2 := s2 _ _ hl
      refine ⟨_, rfl, l, _, _, _, rfl, rfl, SqL.of hl2, atI_nat (j := 1) rfl, .inl ⟨p.2, rfl, d2, fun H3 s3 => ⟨true, rfl, iteF ?_⟩⟩⟩
      have hl3 := s3 _ _ hl2
      refine ⟨_, rfl, l, _, _, _, rfl, rfl, SqL.of hl3, atI_nat (j := 0) rfl, dec p.1, p.1, rfl, d1.reads, Nat.le_trans d1.len (by decide), _, rfl, l, _, _, _, rfl, rfl, SqL.of hl3, atI_nat (j := 1) rfl, dec p.2, p.2, rfl, d2.reads, Nat.le_trans d2.len (by decide), (by show 2 ≤ sizeLine; decide), fun u nu => ?_⟩
      have s13 := s1.trans (s2.trans s3)
      exact k u _ (s13.free nu) (s13.trans (same_upd (Same.refl _) nu)) ⟨u, rfl, upd_same⟩
    · have l0 : (PySem.Str.empty ++ (Str.ofString "no point is written ")).length = 20 := by decide +kernel
      have big : ∀ n : Nat, n ≤ 20000 → n ≤ sizeLine := fun n h => Nat.le_trans h (by decide)
      have fin : ∀ H2, Same H H2 → (tRaise (.ref cN) (tCons (fun σ H Q => fCons (tC (.str "no point is written ")) (fCons (tFmtR (tVar 0)) fNil) σ H PySem.Str.empty Q) tNil) E : TS) { nx := fun _ H' => Q .non H', rt := Q } [some (.str z), some (.ref l)] H2 := fun H2 s2 => by
        refine ⟨_, rfl, big _ (by omega), _, rfl, z, rfl, no.asc, by omega, fun y ly => ⟨y, rfl, ?_, ?_, (by show 1 ≤ 100; decide), k H2 s2⟩⟩
        · rw [strLen_append]; exact big _ (by omega)
        · rw [strLen_append]; exact big _ (by omega)
      rcases no.why with ne | ⟨p, q, e, np⟩
      · refine ⟨_, rfl, l, _, rfl, .inl (SqL.of hl), rfl, true, (by show V.bl (!decide (V.int (((Txt.split z ⟨#[44]⟩).map V.str).length : Int) = V.int 2)) = V.bl true; rw [List.length_map, decide_eq_false (fun e => by have := V.int.inj e; omega)]; rfl), iteT (fin H1 s1)⟩
      · rw [e] at hl
        refine ⟨_, rfl, l, _, rfl, .inl (SqL.of hl), rfl, false, rfl, iteF ?_⟩
        rcases np with np | ⟨⟨i, rfl, di⟩, nq⟩
        · exact ⟨_, rfl, l, _, _, _, rfl, rfl, SqL.of hl, atI_nat (j := 0) rfl, .inr ⟨p, rfl, np, fun H2 s2 => ⟨false, rfl, iteT (fin H2 (s1.trans s2))⟩⟩⟩
        · refine ⟨_, rfl, l, _, _, _, rfl, rfl, SqL.of hl, atI_nat (j := 0) rfl, .inl ⟨i, rfl, di, fun H2 s2 => ⟨true, rfl, iteF ?_⟩⟩⟩
          have hl2 := s2 _ _ hl
          exact ⟨_, rfl, l, _, _, _, rfl, rfl, SqL.of hl2, atI_nat (j := 1) rfl, .inr ⟨q, rfl, nq, fun H3 s3 => ⟨false, rfl, iteT (fin H3 (s1.trans (s2.trans s3)))⟩⟩⟩
def BadPs (ps : List Pt) : Prop := 12 < ps.length ∨ ∃ (j : Nat) (p : Pt), ps[j]? = some p ∧ ¬ Bd p ∧ SmP p ∧ ∀ (i : Nat) (q : Pt), i < j → ps[i]? = some q → Bd q
def Unread (ws : List Str) : Prop := ∃ (ps : List Pt) (tl : List Str), ws = ps.map wordOf ++ tl ∧ (∀ p ∈ ps, Dec p.1 ∧ Dec p.2) ∧ ((∃ x rest, tl = x :: rest ∧ NoWord x) ∨ (tl = [] ∧ BadPs ps))
end
end Toy
set_option maxRecDepth 100000
namespace Toy
open PySem L2 Geo
section
variable {P : Program} {w : World} {K : PySem.W.Frag} {mg : Str → Option Value} {base : Heap} {cH cP cS cF cM cN : Addr}
def spReadX (K : PySem.W.Frag) (cN : Addr) : Sp := fun vs H Q E => ∃ z, vs = [.str z] ∧ z.length ≤ 400 ∧
  ((∃ ps : List Pt, z = textOf ps ∧ ps ≠ [] ∧ ps.length ≤ 12 ∧ (∀ q ∈ ps, Bd q) ∧ ∀ v H', Same H H' → Q v H') ∨ (z ≠ ⟨#[]⟩ ∧ Unread (Txt.split z ⟨#[32]⟩) ∧ ∀ H', Same H H' → E (.ref cN) none H'))
theorem ok_readX {f g1 g2 : Addr} {fd d1 d2 : FuncData} (F : Fun K "read" "read" sRead f fd) (T : Txt mg) (X : Excs K mg cH cP cS cF cM cN)
    (R : FnOk P w K mg base (CXR AnyF P w) 2 g1 d1 ["word"] (spRPtX cN)) (b1 : Binds K d1 ["word"] []) (k1 : PySem.W.keepIn K (.ref g1) = true) (m1 : mg "read_point" = some (.ref g1))
    (C : FnOk P w K mg base CX0 2 g2 d2 ["points"] (spChks K)) (b2 : Binds K d2 ["points"] []) (k2 : PySem.W.keepIn K (.ref g2) = true) (m2 : mg "check_points" = some (.ref g2))
    (C' : FnOk P w K mg base (CXR Ctx0 P w) 2 g2 d2 ["points"] (spBad1 K cP)) (_ : Binds K d2 ["points"] []) (_ : PySem.W.keepIn K (.ref g2) = true) (_ : mg "check_points" = some (.ref g2)) : FnOk P w K mg base (CXR AnyF P w) 3 f fd ["text"] (spReadX K cN) := by
  have C2 := FnOk.or (FnOk.lift (CX := CXR Ctx0 P w) C) C'
  refine Fun.okR F scRead (fun vs H Q E h => ?_) (fun cdv A outer s H vs Q E hr h => ?_)
  · obtain ⟨z, rfl, _⟩ := h; rfl
  · obtain ⟨z, rfl, zl, h⟩ := h
    have cs : CompScope (cxOf (CXR AnyF P w) P w K mg base n_sRead "read" (defScope sRead) f cdv A outer s H E) c_rdp ["word"] [none] :=
      let c := cs_rdp (P := P) (w := w) (K := K) (mg := mg) (base := base) (cdv := cdv) (A := A) (outer := outer) (s := s) (H := H) (E := E) (f := f)
      ⟨c.kind, c.nocell, c.names, c.frees, c.nd, c.len, c.cap⟩
    have REST : ∃ t, PSs (cxOf (CXR AnyF P w) P w K mg base n_sRead "read" (defScope sRead) f cdv A outer s H E) (List.drop 1 (defBody sRead)) t ∧
        ∀ (l : Addr) (H1 : Hp) (ps : List Pt) (tl : List Str), Same H H1 → H1 l = some (.lst ((ps.map wordOf ++ tl).map V.str)) → (∀ p ∈ ps, Dec p.1 ∧ Dec p.2) → ps.length ≤ 402 →
          ((tl = [] ∧ ps.length ≤ 12 ∧ (∀ q ∈ ps, Bd q) ∧ ∀ v H', Same H H' → Q v H') ∨ (((∃ x rest, tl = x :: rest ∧ NoWord x) ∨ (tl = [] ∧ BadPs ps)) ∧ ∀ H', Same H H' → E (.ref cN) none H')) →
          t { nx := fun _ H' => Q .non H', rt := Q } [some (.str z), some (.ref l), none, none] H1 := by
      refine ⟨_, pss_cons (ps_setCE (R := AnyF) (EE := E) (i := 2) scRead.nd rfl rfl cs rfl rfl rfl rfl field_any (letsR field_any) (pi_list (pv 1)) (fun _ _ _ _ _ => pg_name (i := 0) nd_rdp rfl (Or.inl rfl)) (fun _ _ _ _ _ => pif_nil)
          (fun _ _ _ _ _ _ hp => pe_call R hr rfl m1 k1 b1 .nil hp (pa_cons (pv 0) pa_nil)) rfl)
        (pss_cons (ps_tryF (R := AnyF) (E := E) (i := 3) (CH := cP) (CD := cN) (CC := cH) (Mt := fun c => c = cP) (fun c e => by rw [e]; exact X.oP.self) rfl rfl rfl field_any (fun _ _ => trivial) (letsR field_any)
          (fun E' pn' xe' hp => pss_one (ps_expr (pe_call C2 hr rfl m2 k2 b2 .nil hp (pa_cons (pv 2) pa_nil)))) rfl X.mP rfl X.mN X.oN scRead.nd rfl rfl (fun a xe' => pa_cons pe_str pa_nil))
        (pss_one (ps_ret (pv 2)))), ?_⟩
      intro l H1 ps tl s1 hl dc lp hk
      refine ⟨_, rfl, l, rfl, ⟨_, SqL.of hl⟩, fun D hD => ?_⟩
      refine comp_list (K := K) (a := l) (xs := (ps.map wordOf ++ tl).map V.str) (fun j σ' H' => j ≤ ps.length ∧ ∃ v us, σ' = [v] ∧ Same H1 H' ∧ H' D = some (.lst us) ∧ ArePts H' us (ps.take j))
        ⟨Nat.zero_le _, none, [], rfl, same_upd (Same.refl H1) hD, upd_same, .nil⟩ (fun j σ' H' _ ⟨_, _, _, _, s4, _⟩ => SqL.of (s4 _ _ hl)) ?_ ?_
      · rintro j x σ' H' hj ⟨jl, v, us, rfl, s4, h4, w4⟩
        have lw := w4.length
        rw [List.length_take] at lw
        rw [List.getElem?_map] at hj
        obtain ⟨y, hy, rfl⟩ := Option.map_eq_some_iff.mp hj
        dsimp only [gName, tYes]
        rcases Nat.lt_or_ge j ps.length with c | c
        · rw [List.getElem?_append_left (by rw [List.length_map]; exact c), List.getElem?_map] at hy
          obtain ⟨p, hp, rfl⟩ := Option.map_eq_some_iff.mp hy
          have dp := dc p (List.mem_of_getElem? hp)
          refine iteT ⟨_, rfl, _, rfl, .inl ⟨p, rfl, dp.1, dp.2, fun u H5 nu s5 i5 => ?_⟩⟩
          have hDD := s5 _ _ h4
          refine ⟨us, hDD, small1000 (by omega), c, _, _, rfl, same_upd (s4.trans s5) hD, upd_same, ?_⟩
          rw [take_snoc hp]
          exact Pair.append (ArePts.keep w4 ((Same.keep s5).trans (Keep.lst hDD _))) (.cons (i5.keep (Keep.lst hDD _)) .nil)
        · have ej : j = ps.length := by omega
          rw [List.getElem?_append_right (by rw [List.length_map]; omega), List.length_map, ej, Nat.sub_self] at hy
          rcases hk with ⟨e, _⟩ | ⟨(⟨x0, rest, e, nx⟩ | ⟨e, _⟩), kE⟩
          · rw [e] at hy; cases hy
          · rw [e] at hy
            cases hy
            exact iteT ⟨_, rfl, _, rfl, .inr ⟨nx, fun H' s' => kE H' (s1.trans (s4.trans s'))⟩⟩
          · rw [e] at hy; cases hy
      · rintro σ' H' ⟨jl, v, us, rfl, s4, h4, w4⟩
        have s14 := s1.trans s4
        rw [List.length_map, List.length_append, List.length_map] at jl
        have t0 : tl = [] := List.length_eq_zero_iff.mp (by omega)
        rw [List.take_of_length_le (by rw [List.length_map, List.length_append, List.length_map]; omega)] at w4
        rcases hk with ⟨_, lp, bd, kq⟩ | ⟨hb, kE⟩
        · refine ⟨_, rfl, .inl ⟨D, us, ps, rfl, SqL.of h4, w4, lp, bd, ?_⟩⟩
          exact ⟨_, rfl, kq _ H' s14⟩
        · rcases hb with ⟨x0, rest, e, _⟩ | ⟨_, bad⟩
          · rw [t0] at e; cases e
          · refine ⟨_, rfl, .inr ⟨D, us, ps, rfl, ⟨SqL.of h4, w4, bad⟩, fun H5 s5 => ⟨cP, rfl, rfl, fun σ5 a ls na => ?_⟩⟩⟩
            have ls' : σ5.length = 4 := ls
            exact ⟨by decide, List.getElem?_set_self (by omega), upd_same, rfl, kE _ (s14.trans (s5.trans (same_upd (Same.refl H5) na)))⟩
    obtain ⟨tR, hR, rest⟩ := REST
    refine ⟨_, pss_cons (ps_set (i := 1) scRead.nd rfl (Or.inl rfl) (pe_ifExp (pt_cmpR op_eq (pv 0) pe_str (nomark _)) (pe_lst pa_nil) (pe_bm PySem.F.plainAttrs_str PySem.F.slot_str_split PySem.F.type_str_split mt_split (pv 0) (pa_cons pe_str pa_nil)))) hR, ?_⟩
    have zne : z ≠ ⟨#[]⟩ := by
      rcases h with ⟨ps, rfl, ne, _⟩ | ⟨ne, _⟩
      · exact text_ne ne
      · exact ne
    refine ⟨_, rfl, rfl, false, (by show V.bl (decide (V.str z = V.str (Str.ofString ""))) = V.bl false; rw [no_text, decide_eq_false (fun e => zne (V.str.inj e))]), iteF ?_⟩
    have pl := PySem.StrLaws.occ_length_le z (Str.ofString " ") 0 z.length (z.length + 1)
    have sl : (Txt.split z (Str.ofString " ")).length ≤ 402 := by
      unfold Txt.split
      split
      · show 1 ≤ 402; decide
      · split
        · show 1 ≤ 402; decide
        · rw [length_partsBetween]; omega
    refine ⟨_, rfl, rfl, z, _, rfl, rfl, rfl, fits zl (by decide), ?_, Nat.le_of_lt (small1000 (by omega)), fun l nl => ?_⟩
    · rw [length_partsBetween]
      exact Nat.le_of_lt (small1000 (by omega))
    rw [blank_sign] at sl ⊢
    rcases h with ⟨ps, rfl, ne, lp, bd, kq⟩ | ⟨_, ⟨ps, tl, ew, dc, hb⟩, kE⟩
    · have dc : ∀ p ∈ ps, Dec p.1 ∧ Dec p.2 := fun p hp => bd_dec (bd p hp)
      rw [text_split ne dc]
      exact rest l _ ps [] (same_upd (Same.refl H) nl) (by rw [upd_same, List.append_nil]) dc (by omega) (.inl ⟨rfl, lp, bd, kq⟩)
    · rw [ew] at sl ⊢
      rw [List.length_append, List.length_map] at sl
      exact rest l _ ps tl (same_upd (Same.refl H) nl) upd_same dc (by omega) (.inr ⟨hb, kE⟩)
end
end Toy
set_option maxRecDepth 100000
namespace Toy
open PySem L2 Geo
section
variable {P : Program} {w : World} {K : PySem.W.Frag} {mg : Str → Option Value} {base : Heap}
abbrev n_sText : List Str := ["points"]
def spText (K : PySem.W.Frag) : Sp := fun vs H Q _ => ∃ a xs ps, vs = [.ref a] ∧ SqL K H a xs ∧ ArePts H xs ps ∧ ps.length ≤ 12 ∧ (∀ p ∈ ps, Bd p) ∧ ∀ H', Same H H' → Q (.str (textOf ps)) H'
theorem scText : FnScope n_sText ["points"] (defScope sText) := ⟨rfl, rfl, rfl, by decide +kernel, rfl, by decide +kernel, by decide +kernel⟩
abbrev c_ltx : Scope := { kind := .function, names := [(".0", .local), ("point", .local), ("str", .globalImplicit)], isGenerator := false, isCoroutine := false }
theorem cs_ltx {cdv : Value} {A : Around} {outer : List Env} {s : Shared} {H : Hp} {E : XK} {f : Addr} : CompScope (cxOf CX0 P w K mg base n_sText "_law_text" (defScope sText) f cdv A outer s H E).nox c_ltx ["point"] [none] where
  kind := rfl
  nocell := by decide +kernel
  names := by decide +kernel
  frees := by show ∀ z ∈ c_ltx.names, z.2 = .free → (defScope sText).names.lookup z.1 = some .cell; decide +kernel
  nd := by decide +kernel
  len := rfl
  cap := fun i j h => match i, h with
    | 0, h => by simp at h
    | n + 1, h => by simp at h
theorem nd_ltx : (["point"] : List Str).Nodup := by decide +kernel
theorem ok_text {f : Addr} {fd : FuncData} (F : Fun K "_law_text" "_law_text" sText f fd) (T : Txt mg) : FnOk P w K mg base CX0 1 f fd ["points"] (spText K) := by
  refine F.ok scText (fun vs H Q E h => ?_) (fun cdv A outer s H vs Q E hr h => ?_)
  · obtain ⟨a, xs, ps, rfl, _⟩ := h; rfl
  · obtain ⟨a, xs, ps, rfl, ha, hx, lp, bd, k⟩ := h
    have lx := hx.length
    refine ⟨_, pss_one (ps_ret (pe_bm PySem.F.plainAttrs_str PySem.F.slot_str_join PySem.F.type_str_join mt_join pe_str (pa_cons (pe_comp cs_ltx rfl (pi_list (pv 0)) (fun _ _ _ _ _ => pg_name (i := 0) nd_ltx rfl (Or.inl rfl)) (fun _ _ _ _ _ => pif_nil)
      (fun _ _ _ _ _ => pe_op op_add_str (pe_op op_add_str (pe_callTy call_str_int rfl T.str PyProof.Rows.boot_str (pa_cons (pe_ix (ixt (K' := K) rfl) (pv 0) pe_int (fun _ _ => rfl)) pa_nil)) pe_str) (pe_callTy call_str_int rfl T.str PyProof.Rows.boot_str (pa_cons (pe_ix (ixt (K' := K) rfl) (pv 0) pe_int (fun _ _ => rfl)) pa_nil)))) pa_nil))), ?_⟩
    refine ⟨rfl, _, rfl, a, rfl, ⟨_, ha⟩, fun D hD => ?_⟩
    refine comp_list (K := K) (a := a) (xs := xs) (fun j σ' H' => ∃ v, σ' = [v] ∧ Same H H' ∧ H' D = some (.lst (((ps.take j).map wordOf).map V.str)))
      ⟨none, rfl, same_upd (Same.refl H) hD, upd_same⟩ (fun j σ' H' _ ⟨_, _, s4, _⟩ => s4.seq ha) ?_ ?_
    · rintro j x σ' H' hj ⟨v, rfl, s4, h4⟩
      obtain ⟨p, p1, p2⟩ := Pair.get hx hj
      have hjl := (List.getElem?_eq_some_iff.mp p1).1
      obtain ⟨d1, d2⟩ := bd_dec (bd p (List.mem_of_getElem? p1))
      have la := d1.len
      have lb := d2.len
      obtain ⟨ax, rfl, hax⟩ := p2.same s4
      dsimp only [gName, tYes]
      refine iteT ⟨_, rfl, ax, _, _, _, rfl, rfl, SqT.of hax, atI_nat (j := 0) rfl, p.1, rfl, d1.log, dec p.1, _, rfl, rfl, ?_, ?_⟩
      · exact Nat.le_of_lt (small1000 (by rw [comma_sign]; show _ + 1 ≤ 1000; omega))
      refine ⟨_, rfl, ax, _, _, _, rfl, rfl, SqT.of hax, atI_nat (j := 1) rfl, p.2, rfl, d2.log, _, dec p.2, rfl, rfl, ?_, ?_⟩
      · exact Nat.le_of_lt (small1000 (by rw [comma_sign, strLen_append]; show _ + 1 + _ ≤ 1000; omega))
      rw [comma_sign, word_app]
      refine ⟨_, h4, small1000 (by rw [List.length_map, List.length_map, List.length_take]; omega), _, rfl, same_upd s4 hD, ?_⟩
      rw [upd_same, take_snoc p1, List.map_append, List.map_append]; rfl
    · rintro σ' H' ⟨v, rfl, s4, h4⟩
      rw [List.take_of_length_le (by omega)] at h4
      have to := text_ok (fun p hp => bd_dec (bd p hp)) lp
      refine ⟨_, D, ps.map wordOf, rfl, rfl, SqL.of h4, ?_, ?_⟩
      · rw [blank_sign]; exact to.1
      · rw [blank_sign, text_join]; exact k H' s4
end
end Toy
set_option maxRecDepth 100000
namespace Geo
open PySem PySem.Builtin PySem.Builtin.Str PySem.StrLaws
theorem jn_snoc (c : Nat) (x : List Nat) : ∀ (A : List (List Nat)) (a : List Nat), jn c (A ++ [a]) ++ x = jn c (A ++ [a ++ x])
  | [], a => rfl
  | [b], a => by simp [jn]
  | b :: d :: r, a => by
    have := jn_snoc c x (d :: r) a
    show (b ++ c :: jn c ((d :: r) ++ [a])) ++ x = b ++ c :: jn c ((d :: r) ++ [a ++ x])
    rw [← this]; simp
theorem jn_front (c : Nat) (x a : List Nat) : ∀ A : List (List Nat), x ++ jn c (a :: A) = jn c ((x ++ a) :: A)
  | [] => rfl
  | b :: r => by show x ++ (a ++ c :: jn c (b :: r)) = (x ++ a) ++ c :: jn c (b :: r); simp
theorem jn_mid (c : Nat) (a b : List Nat) : ∀ (A B : List (List Nat)), jn c (A ++ (a ++ c :: b) :: B) = jn c (A ++ a :: b :: B)
  | [], [] => rfl
  | [], d :: r => by show (a ++ c :: b) ++ c :: jn c (d :: r) = a ++ c :: (b ++ c :: jn c (d :: r)); simp
  | [e], B => by
    have := jn_mid c a b [] B
    show e ++ c :: jn c ([] ++ (a ++ c :: b) :: B) = e ++ c :: jn c ([] ++ a :: b :: B)
    rw [this]
  | e :: f :: r, B => by
    have := jn_mid c a b (f :: r) B
    show e ++ c :: jn c ((f :: r) ++ (a ++ c :: b) :: B) = e ++ c :: jn c ((f :: r) ++ a :: b :: B)
    rw [this]
theorem tj_list (c : Nat) (ws : List Str) : (Txt.join ⟨#[c]⟩ ws).cps.toList = jn c (ws.map (·.cps.toList)) := by
  rw [show Txt.join ⟨#[c]⟩ ws = Str.join ⟨#[c]⟩ ws from glued_eq_join _ _, join_jn]
theorem app_cps (a b : Str) : (a ++ b).cps.toList = a.cps.toList ++ b.cps.toList := PySem.W.KT.app_list a b
theorem tj_snoc (c : Nat) (A : List Str) (a x : Str) : Txt.join ⟨#[c]⟩ (A ++ [a]) ++ x = Txt.join ⟨#[c]⟩ (A ++ [a ++ x]) := by
  refine str_eq ?_
  rw [app_cps, tj_list, tj_list]
  simp only [List.map_append, List.map_cons, List.map_nil, app_cps]
  exact jn_snoc c _ _ _
theorem tj_front (c : Nat) (A : List Str) (a x : Str) : x ++ Txt.join ⟨#[c]⟩ (a :: A) = Txt.join ⟨#[c]⟩ ((x ++ a) :: A) := by
  refine str_eq ?_
  rw [app_cps, tj_list, tj_list]
  simp only [List.map_cons, app_cps]
  exact jn_front c _ _ _
theorem tj_mid (c : Nat) (A B : List Str) (a b : Str) : Txt.join ⟨#[c]⟩ (A ++ (a ++ ⟨#[c]⟩ ++ b) :: B) = Txt.join ⟨#[c]⟩ (A ++ a :: b :: B) := by
  refine str_eq ?_
  rw [tj_list, tj_list]
  simp only [List.map_append, List.map_cons, app_cps]
  have := jn_mid c a.cps.toList b.cps.toList (A.map (·.cps.toList)) (B.map (·.cps.toList))
  simpa using this
theorem tj_len (c : Nat) (ws : List Str) : (Txt.join ⟨#[c]⟩ ws).length = (ws.map (·.length)).sum + (ws.length - 1) := by
  show (glued ⟨#[c]⟩ ws).length = _
  rw [size_glued]
  show _ + _ * 1 = _
  omega
theorem starts_iff (z : Str) (c : Nat) : Txt.startswith z ⟨#[c]⟩ = true ↔ z.cps.toList[0]? = some c := by
  unfold Txt.startswith
  rw [Bool.and_eq_true, decide_eq_true_eq, subAt_one]
theorem slice_tail {z : Str} {c : Nat} {r : List Nat} (h : z.cps.toList = c :: r) : (Txt.slice z (some 1) none).cps.toList = r := by
  have l1 : 1 ≤ z.length := by unfold Str.length; rw [← Array.length_toList, h]; simp
  show (sliceText z (some 1) none).cps.toList = _
  unfold sliceText
  rw [sliceIdx_none_hi]
  have e := sliceText_nat z (a := 1) (b := z.length) l1 (Nat.le_refl _)
  unfold sliceText at e
  refine (congrArg (fun z : Str => z.cps.toList) e).trans ?_
  show ((z.cps.toList.drop 1).take (z.length - 1)) = _
  rw [List.take_of_length_le (by rw [List.length_drop, Array.length_toList]; exact Nat.le_refl _), h]; rfl
theorem body_mem {z : Str} {c : Nat} (h : c ∈ z.cps.toList) (hc : c ≠ 45) : c ∈ (bodyT z).cps.toList := by
  unfold bodyT
  split
  · rename_i hs
    have h0 := (starts_iff z 45).mp hs
    match e : z.cps.toList with
    | [] => rw [e] at h; cases h
    | d :: r =>
      rw [e] at h0 h
      simp at h0
      subst h0
      rw [slice_tail e]
      rcases List.mem_cons.mp h with z | z
      · exact absurd z hc
      · exact z
  · exact h
theorem body_sub {z : Str} {c : Nat} (h : c ∈ (bodyT z).cps.toList) : c ∈ z.cps.toList := by
  unfold bodyT at h
  split at h
  · rename_i hs
    have h0 := (starts_iff z 45).mp hs
    match e : z.cps.toList with
    | [] => rw [e] at h0; cases h0
    | d :: r => rw [slice_tail e] at h; exact List.mem_cons_of_mem _ h
  · exact h
def Asc (z : Str) : Prop := ∀ c ∈ z.cps.toList, c < 128
theorem body_asc {z : Str} (h : Asc z) : (bodyT z).cps.all (· < 128) = true := by
  rw [← Array.all_toList, List.all_eq_true]
  intro c hc
  have := h c (body_sub hc)
  simpa using this
theorem np_sign {z : Str} (ha : Asc z) (hl : z.length ≤ 40) {c : Nat} (h : c ∈ z.cps.toList) (h1 : c ≠ 45) (h2 : isD c = false) : NoPlace z := ⟨body_asc ha, hl, .inr (.inl ⟨c, body_mem h h1, h2⟩)⟩
def noPlB (z : Str) : Bool := z.cps.toList.all (· < 128) && decide (z.length ≤ 40) && (decide (bodyT z = ⟨#[]⟩) || (bodyT z).cps.toList.any (fun c => !isD c) || (match PySem.intText? z with | some n => decide (n.natAbs.log2 < 1920) && decide (dec n ≠ z) | none => false))
theorem noPl_of {z : Str} (h : noPlB z = true) : NoPlace z := by
  unfold noPlB at h
  simp only [Bool.and_eq_true, Bool.or_eq_true, decide_eq_true_eq, List.all_eq_true, List.any_eq_true] at h
  obtain ⟨⟨ha, hl⟩, hw⟩ := h
  refine ⟨body_asc ha, hl, ?_⟩
  rcases hw with (hw | ⟨c, hc, hq⟩) | hw
  · exact .inl hw
  · exact .inr (.inl ⟨c, hc, by simpa using hq⟩)
  · split at hw
    · rename_i n hn
      simp only [Bool.and_eq_true, decide_eq_true_eq] at hw
      exact .inr (.inr ⟨n, hn, hw.1, hw.2⟩)
    · cases hw
theorem np_empty : NoPlace ⟨#[]⟩ := noPl_of (by decide +kernel)
theorem nw_join {ps : List Str} (ne : ps ≠ []) (hc : ∀ p ∈ ps, 44 ∉ p.cps.toList) (ha : ∀ p ∈ ps, Asc p) (hl : (ps.map (·.length)).sum + ps.length ≤ 100) (why : ps.length ≠ 2 ∨ ∃ p q, ps = [p, q] ∧ (NoPlace p ∨ (isPl p ∧ NoPlace q))) : NoWord (Txt.join ⟨#[44]⟩ ps) := by
  refine ⟨fun c h => ?_, ?_, ?_⟩
  · rw [tj_list] at h
    have : ∀ (A : List (List Nat)), (∀ a ∈ A, ∀ c ∈ a, c < 128) → ∀ c ∈ jn 44 A, c < 128 := fun A => by
      induction A with
      | nil => intro _ c h; cases h
      | cons a A ih =>
        intro hA c h
        match A, h with
        | [], h => exact hA a (by simp) c h
        | b :: r, h =>
          have h : c ∈ a ++ 44 :: jn 44 (b :: r) := h
          rcases List.mem_append.mp h with h | h
          · exact hA a (by simp) c h
          · rcases List.mem_cons.mp h with h | h
            · rw [h]; decide
            · exact ih (fun x hx => hA x (List.mem_cons_of_mem _ hx)) c h
    refine this _ (fun a hA c hc => ?_) c h
    obtain ⟨p, hp, rfl⟩ := List.mem_map.mp hA
    exact ha p hp c hc
  · rw [tj_len]; omega
  · rw [split_join (by decide) ne hc]
    exact why
theorem dec_asc {i : Int} (h : Dec i) : Asc (dec i) := fun c hc => by have := h.signs c hc; omega
theorem dec_no {i : Int} (h : Dec i) {c : Nat} (h1 : c ≠ 45) (h2 : c < 48 ∨ 57 < c) : c ∉ (dec i).cps.toList := fun hc => by have := h.signs c hc; omega
theorem word_tj (p : Int × Int) : wordOf p = Txt.join ⟨#[44]⟩ [dec p.1, dec p.2] := (glued_eq_join _ _).symm
def noWdB (x : Str) : Bool := x.cps.toList.all (· < 128) && decide (x.length ≤ 100) && (match Txt.split x ⟨#[44]⟩ with | [p, _] => noPlB p | l => decide (l.length ≠ 2))
theorem noWd_of {x : Str} (h : noWdB x = true) : NoWord x := by
  unfold noWdB at h
  simp only [Bool.and_eq_true, decide_eq_true_eq, List.all_eq_true] at h
  obtain ⟨⟨ha, hl⟩, hw⟩ := h
  refine ⟨ha, hl, ?_⟩
  split at hw
  · rename_i p q e
    exact .inr ⟨p, q, e, .inl (noPl_of hw)⟩
  · exact .inl (by simpa using hw)
end Geo
set_option maxRecDepth 100000
namespace Toy
open PySem L2 Geo
structure BadText (z : Str) : Prop where
  len : z.length ≤ 400
  ne : z ≠ ⟨#[]⟩
  un : Unread (Txt.split z ⟨#[32]⟩)
theorem sum_le {k : Nat} : ∀ {ws : List Str}, (∀ x ∈ ws, x.length ≤ k) → (ws.map (·.length)).sum ≤ k * ws.length
  | [], _ => by simp
  | x :: r, h => by
    have := sum_le (k := k) (ws := r) fun y hy => h y (List.mem_cons_of_mem _ hy)
    have := h x (by simp)
    simp only [List.map_cons, List.sum_cons, List.length_cons]
    have e : k * (r.length + 1) = k * r.length + k := by rw [Nat.mul_add, Nat.mul_one]
    omega
theorem bad_join {ws : List Str} (ne : ws ≠ []) (hb : ∀ x ∈ ws, 32 ∉ x.cps.toList) (hl : ∀ x ∈ ws, x.length ≤ 20) (ln : ws.length ≤ 16) (nz : 0 < (ws.map (·.length)).sum + (ws.length - 1)) (un : Unread ws) : BadText (Txt.join ⟨#[32]⟩ ws) := by
  have l := tj_len 32 ws
  have s := sum_le hl
  refine ⟨by omega, fun e => ?_, ?_⟩
  · rw [e] at l
    have : (⟨#[]⟩ : Str).length = 0 := rfl
    omega
  · rw [split_join (by decide) ne hb]; exact un
theorem word_no {p : Pt} (d : Dec p.1 ∧ Dec p.2) : 32 ∉ (wordOf p).cps.toList := fun h => by have := word_signs d.1 d.2 _ h; omega
theorem bad_word {A : List Pt} {x : Str} {rest : List Str} (dA : ∀ p ∈ A, Dec p.1 ∧ Dec p.2) (nx : NoWord x) (bx : 32 ∉ x.cps.toList) (lx : x.length ≤ 20) (hr : ∀ y ∈ rest, 32 ∉ y.cps.toList ∧ y.length ≤ 20) (ln : A.length + rest.length ≤ 15) (nz : 0 < x.length ∨ 0 < A.length ∨ 0 < rest.length) :
    BadText (Txt.join ⟨#[32]⟩ (A.map wordOf ++ x :: rest)) := by
  refine bad_join (by simp) (fun y hy => ?_) (fun y hy => ?_) (by simp; omega) ?_ ⟨A, x :: rest, rfl, dA, .inl ⟨x, rest, rfl, nx⟩⟩
  · rcases List.mem_append.mp hy with h | h
    · obtain ⟨p, hp, rfl⟩ := List.mem_map.mp h
      exact word_no (dA p hp)
    · rcases List.mem_cons.mp h with h | h
      · rw [h]; exact bx
      · exact (hr y h).1
  · rcases List.mem_append.mp hy with h | h
    · obtain ⟨p, hp, rfl⟩ := List.mem_map.mp h
      have := word_len (dA p hp).1 (dA p hp).2
      omega
    · rcases List.mem_cons.mp h with h | h
      · rw [h]; exact lx
      · exact (hr y h).2
  · simp only [List.map_append, List.map_cons, List.sum_append, List.sum_cons, List.length_append, List.length_cons, List.length_map]
    omega
theorem bad_all {qs : List Pt} (dq : ∀ p ∈ qs, Dec p.1 ∧ Dec p.2) (ne : qs ≠ []) (ln : qs.length ≤ 16) (bad : BadPs qs) : BadText (Txt.join ⟨#[32]⟩ (qs.map wordOf)) := by
  refine bad_join (by simpa using ne) (fun y hy => ?_) (fun y hy => ?_) (by simp; omega) ?_ ⟨qs, [], by simp, dq, .inr ⟨rfl, bad⟩⟩
  · obtain ⟨p, hp, rfl⟩ := List.mem_map.mp hy
    exact word_no (dq p hp)
  · obtain ⟨p, hp, rfl⟩ := List.mem_map.mp hy
    have := word_len (dq p hp).1 (dq p hp).2
    omega
  · match qs, ne with
    | p :: r, _ =>
      have : 0 < (wordOf p).length := by
        rw [word_tj, tj_len]; simp
      simp only [List.map_cons, List.sum_cons]
      omega
theorem words_ok {ps : List Pt} (d : ∀ p ∈ ps, Dec p.1 ∧ Dec p.2) : ∀ y ∈ ps.map wordOf, 32 ∉ y.cps.toList ∧ y.length ≤ 20 := fun y hy => by
  obtain ⟨p, hp, rfl⟩ := List.mem_map.mp hy
  have := word_len (d p hp).1 (d p hp).2
  exact ⟨word_no (d p hp), by omega⟩
def pieces : List Str := ["1001", "-1001", "99999", "00", "01", "-0", "-01", "+1", "--1", "", "-", "x", "1_0", "1.0", "1\t", "1e1"].map Str.ofString
def pieceB (b : Str) : Bool := !b.cps.toList.contains 32 && !b.cps.toList.contains 44 && b.cps.toList.all (· < 128) && decide (b.length ≤ 5) && (noPlB b || decide (b = dec 1001) || decide (b = dec (-1001)) || decide (b = dec 99999))
theorem pieces_ok : pieces.all pieceB = true := by decide +kernel
theorem dec_of {i : Int} (h : good i = true) : Dec i := by
  unfold good at h
  simp only [Bool.and_eq_true, decide_eq_true_eq] at h
  obtain ⟨⟨⟨⟨a, b⟩, c⟩, d⟩, e⟩ := h
  have e1 : (⟨(decL i).toArray⟩ : Str) = dec i := str_eq (by rw [dec_list])
  rw [e1] at a
  refine ⟨a, ?_, fun z => by rw [z] at c; simp at c, fun x hx => ?_, e⟩
  · unfold Str.length; rw [← Array.length_toList, dec_list]; exact b
  · have := List.all_eq_true.mp d x hx
    unfold isD at this
    simpa using this
structure Piece (b : Str) : Prop where
  blank : 32 ∉ b.cps.toList
  comma : 44 ∉ b.cps.toList
  asc : Asc b
  len : b.length ≤ 5
  how : NoPlace b ∨ ∃ i : Int, b = dec i ∧ Dec i ∧ (i < -1000 ∨ 1000 < i) ∧ i.natAbs < 2 ^ 81
theorem piece_of {b : Str} (h : b ∈ pieces) : Piece b := by
  have := List.all_eq_true.mp pieces_ok b h
  unfold pieceB at this
  simp only [Bool.and_eq_true, Bool.or_eq_true, decide_eq_true_eq, Bool.not_eq_true', List.all_eq_true] at this
  obtain ⟨⟨⟨⟨h1, h2⟩, h3⟩, h4⟩, h5⟩ := this
  refine ⟨fun z => ?_, fun z => ?_, h3, h4, ?_⟩
  · rw [List.contains_iff_mem.mpr z] at h1; cases h1
  · rw [List.contains_iff_mem.mpr z] at h2; cases h2
  · rcases h5 with ((h5 | h5) | h5) | h5
    · exact .inl (noPl_of h5)
    · exact .inr ⟨1001, h5, dec_of (by decide +kernel), by omega, by decide⟩
    · exact .inr ⟨-1001, h5, dec_of (by decide +kernel), by omega, by decide⟩
    · exact .inr ⟨99999, h5, dec_of (by decide +kernel), by omega, by decide⟩
theorem take_words (ps : List Pt) (n : Nat) : (ps.map wordOf).take n = (ps.take n).map wordOf := List.map_take.symm
theorem drop_words (ps : List Pt) (n : Nat) : (ps.map wordOf).drop n = (ps.drop n).map wordOf := List.map_drop.symm
section
variable {ps : List Pt} {n : Nat} {p : Pt}
theorem swapped (bd : ∀ q ∈ ps, Bd q) (lp : ps.length ≤ 12) (hp : ps[n]? = some p) {q : Pt} (dq : Dec q.1 ∧ Dec q.2) (no : ¬ Bd q) (sm : SmP q) : BadText (Txt.join ⟨#[32]⟩ ((ps.map wordOf).take n ++ wordOf q :: (ps.map wordOf).drop (n + 1))) := by
  have hn := (List.getElem?_eq_some_iff.mp hp).1
  rw [take_words, drop_words, ← List.map_cons, ← List.map_append]
  refine bad_all (fun y hy => ?_) (by simp) (by simp; omega) (.inr ⟨n, q, ?_, no, sm, fun i y hi hy => ?_⟩)
  · rcases List.mem_append.mp hy with h | h
    · exact bd_dec (bd y (List.mem_of_mem_take h))
    · rcases List.mem_cons.mp h with h | h
      · rw [h]; exact dq
      · exact bd_dec (bd y (List.mem_of_mem_drop h))
  · rw [List.getElem?_append_right (by rw [List.length_take]; omega), List.length_take, Nat.min_eq_left (by omega), Nat.sub_self]; rfl
  · rw [List.getElem?_append_left (by rw [List.length_take]; omega)] at hy
    exact bd y (List.mem_of_mem_take (List.mem_of_getElem? hy))
theorem spoiled (bd : ∀ q ∈ ps, Bd q) (lp : ps.length ≤ 12) {x : Str} {m : Nat} (nx : NoWord x) (bx : 32 ∉ x.cps.toList) (lx : x.length ≤ 20) (hnm : n ≤ m) (nz : 0 < x.length ∨ (0 < ps.length ∧ m = n)) : BadText (Txt.join ⟨#[32]⟩ ((ps.map wordOf).take n ++ x :: (ps.map wordOf).drop m)) := by
  rw [take_words, drop_words]
  refine bad_word (fun y hy => bd_dec (bd y (List.mem_of_mem_take hy))) nx bx lx (words_ok fun y hy => bd_dec (bd y (List.mem_of_mem_drop hy))) ?_ ?_
  · rw [List.length_map, List.length_drop, List.length_take]; omega
  · rcases nz with h | ⟨h1, h2⟩
    · exact .inl h
    · rw [List.length_map, List.length_drop, List.length_take]; omega
theorem pl_of {i : Int} (h : Dec i) : isPl (dec i) := ⟨i, rfl, h⟩
theorem nw2 {a b : Str} (ca : 44 ∉ a.cps.toList) (cb : 44 ∉ b.cps.toList) (aa : Asc a) (ab : Asc b) (la : a.length ≤ 10) (lb : b.length ≤ 10) (why : NoPlace a ∨ (isPl a ∧ NoPlace b)) : NoWord (Txt.join ⟨#[44]⟩ [a, b]) :=
  nw_join (by simp) (fun y hy => by simp at hy; rcases hy with h | h <;> rw [h] <;> assumption) (fun y hy => by simp at hy; rcases hy with h | h <;> rw [h] <;> assumption) (by simp; omega) (.inr ⟨a, b, rfl, why⟩)
theorem two_no {a b : Str} {c : Nat} (hc : c ≠ 44) (ca : c ∉ a.cps.toList) (cb : c ∉ b.cps.toList) : c ∉ (Txt.join ⟨#[44]⟩ [a, b]).cps.toList := by
  rw [tj_list]
  simp only [List.map_cons, List.map_nil, jn, List.mem_append, List.mem_cons]
  rintro (h | h | h)
  · exact ca h
  · exact hc h
  · exact cb h
theorem two_len (a b : Str) : (Txt.join ⟨#[44]⟩ [a, b]).length = a.length + b.length + 1 := by rw [tj_len]; simp
theorem dec_pos {i : Int} (h : Dec i) : 0 < (dec i).length := by
  unfold Str.length
  rw [← Array.length_toList, dec_list]
  unfold decL
  have := List.length_pos_iff.mpr h.ne
  split
  · simp
  · exact this
theorem w0a (bd : ∀ q ∈ ps, Bd q) (lp : ps.length ≤ 12) (hp : ps[n]? = some p) {b : Str} (hb : b ∈ pieces) : BadText (Txt.join ⟨#[32]⟩ ((ps.map wordOf).take n ++ Txt.join ⟨#[44]⟩ [b, dec p.2] :: (ps.map wordOf).drop (n + 1))) := by
  have P := piece_of hb
  obtain ⟨d1, d2⟩ := bd_dec (bd p (List.mem_of_getElem? hp))
  have l2 := d2.len
  have lb := P.len
  rcases P.how with np | ⟨i, rfl, di, far, sm⟩
  · exact spoiled bd lp (nw2 P.comma (dec_no d2 (by decide) (by omega)) P.asc (dec_asc d2) (by omega) (by omega) (.inl np)) (two_no (by decide) P.blank (dec_no d2 (by decide) (by omega))) (by rw [two_len]; omega) (by omega) (.inl (by rw [two_len]; omega))
  · rw [show Txt.join ⟨#[44]⟩ [dec i, dec p.2] = wordOf (i, p.2) from (word_tj (i, p.2)).symm]
    refine swapped bd lp hp (q := (i, p.2)) ⟨di, d2⟩ (fun z => ?_) ⟨sm, ?_⟩
    · have h1 := z.1; have h2 := z.2.1; dsimp only at h1 h2; omega
    · have := bd p (List.mem_of_getElem? hp); have h1 := this.2.2.1; have h2 := this.2.2.2; dsimp only; omega
theorem w0b (bd : ∀ q ∈ ps, Bd q) (lp : ps.length ≤ 12) (hp : ps[n]? = some p) {b : Str} (hb : b ∈ pieces) : BadText (Txt.join ⟨#[32]⟩ ((ps.map wordOf).take n ++ Txt.join ⟨#[44]⟩ [dec p.1, b] :: (ps.map wordOf).drop (n + 1))) := by
  have P := piece_of hb
  obtain ⟨d1, d2⟩ := bd_dec (bd p (List.mem_of_getElem? hp))
  have l1 := d1.len
  have lb := P.len
  rcases P.how with np | ⟨i, rfl, di, far, sm⟩
  · exact spoiled bd lp (nw2 (dec_no d1 (by decide) (by omega)) P.comma (dec_asc d1) P.asc (by omega) (by omega) (.inr ⟨pl_of d1, np⟩)) (two_no (by decide) (dec_no d1 (by decide) (by omega)) P.blank) (by rw [two_len]; omega) (by omega) (.inl (by rw [two_len]; omega))
  · rw [show Txt.join ⟨#[44]⟩ [dec p.1, dec i] = wordOf (p.1, i) from (word_tj (p.1, i)).symm]
    refine swapped bd lp hp (q := (p.1, i)) ⟨d1, di⟩ (fun z => ?_) ⟨?_, sm⟩
    · have h1 := z.2.2.1; have h2 := z.2.2.2; dsimp only at h1 h2; omega
    · have := bd p (List.mem_of_getElem? hp); have h1 := this.1; have h2 := this.2.1; dsimp only; omega
theorem one_list (a : Str) : Txt.join ⟨#[44]⟩ [a] = a := str_eq (by rw [tj_list]; rfl)
theorem w1_0 (bd : ∀ q ∈ ps, Bd q) (lp : ps.length ≤ 12) (hp : ps[n]? = some p) : BadText (Txt.join ⟨#[32]⟩ ((ps.map wordOf).take n ++ dec p.1 :: (ps.map wordOf).drop (n + 1))) := by
  obtain ⟨d1, d2⟩ := bd_dec (bd p (List.mem_of_getElem? hp))
  have l1 := d1.len
  have := nw_join (ps := [dec p.1]) (by simp) (fun y hy => by simp at hy; rw [hy]; exact dec_no d1 (by decide) (by omega)) (fun y hy => by simp at hy; rw [hy]; exact dec_asc d1) (by simp; omega) (.inl (by simp))
  rw [one_list] at this
  exact spoiled bd lp this (dec_no d1 (by decide) (by omega)) (by omega) (by omega) (.inl (dec_pos d1))
theorem w1_1 (bd : ∀ q ∈ ps, Bd q) (lp : ps.length ≤ 12) (hp : ps[n]? = some p) : BadText (Txt.join ⟨#[32]⟩ ((ps.map wordOf).take n ++ (wordOf p ++ Str.ofString ",0") :: (ps.map wordOf).drop (n + 1))) := by
  obtain ⟨d1, d2⟩ := bd_dec (bd p (List.mem_of_getElem? hp))
  have l1 := d1.len
  have l2 := d2.len
  have e : wordOf p ++ Str.ofString ",0" = Txt.join ⟨#[44]⟩ [dec p.1, dec p.2, Str.ofString "0"] := str_eq (by
    rw [app_cps, word_tj, tj_list, tj_list, show (Str.ofString ",0").cps.toList = [44, 48] by decide +kernel, show (Str.ofString "0" : Str) = ⟨#[48]⟩ by decide +kernel]
    simp [jn])
  have z0 : (Str.ofString "0" : Str) = ⟨#[48]⟩ := by decide +kernel
  rw [e]
  refine spoiled bd lp (nw_join (by simp) (fun y hy => ?_) (fun y hy => ?_) ?_ (.inl (by simp))) ?_ ?_ (by omega) (.inl ?_)
  · simp only [List.mem_cons, List.not_mem_nil, or_false] at hy
    rcases hy with h | h | h
    · rw [h]; exact dec_no d1 (by decide) (by omega)
    · rw [h]; exact dec_no d2 (by decide) (by omega)
    · rw [h, z0]; decide
  · simp only [List.mem_cons, List.not_mem_nil, or_false] at hy
    rcases hy with h | h | h
    · rw [h]; exact dec_asc d1
    · rw [h]; exact dec_asc d2
    · rw [h, z0]; intro c hc; simp at hc; omega
  · rw [z0]; simp only [List.map_cons, List.map_nil, List.sum_cons, List.sum_nil, List.length_cons, List.length_nil]; show _ + (_ + (1 + 0)) + _ ≤ 100; omega
  · rw [tj_list, z0]
    simp only [List.map_cons, List.map_nil, jn, List.mem_append, List.mem_cons]
    rintro (h | h | h | h | h)
    · exact dec_no d1 (by decide) (by omega) h
    · omega
    · exact dec_no d2 (by decide) (by omega) h
    · omega
    · simp at h
  · rw [tj_len, z0]; simp only [List.map_cons, List.map_nil, List.sum_cons, List.sum_nil, List.length_cons, List.length_nil]; show _ + (_ + (1 + 0)) + _ ≤ 20; omega
  · rw [tj_len]; simp
theorem w1_2 (bd : ∀ q ∈ ps, Bd q) (lp : ps.length ≤ 12) (hp : ps[n]? = some p) : BadText (Txt.join ⟨#[32]⟩ ((ps.map wordOf).take n ++ (dec p.1 ++ Str.ofString ";" ++ dec p.2) :: (ps.map wordOf).drop (n + 1))) := by
  obtain ⟨d1, d2⟩ := bd_dec (bd p (List.mem_of_getElem? hp))
  have l1 := d1.len
  have l2 := d2.len
  have z0 : (Str.ofString ";" : Str).cps.toList = [59] := by decide +kernel
  have zl : (Str.ofString ";" : Str).length = 1 := by decide +kernel
  have mem : ∀ c, c ∈ (dec p.1 ++ Str.ofString ";" ++ dec p.2).cps.toList → c = 45 ∨ (48 ≤ c ∧ c ≤ 57) ∨ c = 59 := fun c hc => by
    rw [app_cps, app_cps, z0] at hc
    rcases List.mem_append.mp hc with h | h
    · rcases List.mem_append.mp h with h | h
      · have := d1.signs c h; omega
      · simp at h; omega
    · have := d2.signs c h; omega
  have ln : (dec p.1 ++ Str.ofString ";" ++ dec p.2).length ≤ 11 := by rw [strLen_append, strLen_append, zl]; omega
  have ln0 : 0 < (dec p.1 ++ Str.ofString ";" ++ dec p.2).length := by rw [strLen_append, strLen_append, zl]; omega
  generalize (dec p.1 ++ Str.ofString ";" ++ dec p.2) = x at mem ln ln0
  have nw := nw_join (ps := [x]) (by simp) (fun y hy => by simp at hy; rw [hy]; intro z; have := mem _ z; omega) (fun y hy => by simp at hy; rw [hy]; intro c hc; have := mem c hc; omega) (by simp; omega) (.inl (by simp))
  rw [one_list] at nw
  exact spoiled bd lp nw (fun z => by have := mem _ z; omega) (by omega) (by omega) (.inl ln0)
theorem comma_end {i : Int} (d : Dec i) : NoWord (dec i ++ ⟨#[44]⟩) := by
  have l := d.len
  have e : dec i ++ ⟨#[44]⟩ = Txt.join ⟨#[44]⟩ [dec i, ⟨#[]⟩] := str_eq (by rw [app_cps, tj_list]; simp [jn])
  rw [e]
  exact nw2 (dec_no d (by decide) (by omega)) (by simp) (dec_asc d) (fun c hc => by simp at hc) (by omega) (by show 0 ≤ 10; decide) (.inr ⟨pl_of d, np_empty⟩)
theorem w1_3 (bd : ∀ q ∈ ps, Bd q) (lp : ps.length ≤ 12) (hp : ps[n]? = some p) : BadText (Txt.join ⟨#[32]⟩ ((ps.map wordOf).take n ++ (dec p.1 ++ Str.ofString ", " ++ dec p.2) :: (ps.map wordOf).drop (n + 1))) := by
  obtain ⟨d1, d2⟩ := bd_dec (bd p (List.mem_of_getElem? hp))
  have l1 := d1.len
  have l2 := d2.len
  have e : dec p.1 ++ Str.ofString ", " ++ dec p.2 = (dec p.1 ++ ⟨#[44]⟩) ++ ⟨#[32]⟩ ++ dec p.2 := str_eq (by
    simp only [app_cps, show (Str.ofString ", ").cps.toList = [44, 32] by decide +kernel]; simp)
  rw [e, tj_mid, take_words, drop_words]
  have hn := (List.getElem?_eq_some_iff.mp hp).1
  refine bad_word (fun y hy => bd_dec (bd y (List.mem_of_mem_take hy))) (comma_end d1) (fun z => ?_) (by rw [strLen_append]; show _ + 1 ≤ 20; omega) (fun y hy => ?_) ?_ (.inl (by rw [strLen_append]; show 0 < _ + 1; omega))
  · rw [app_cps] at z
    rcases List.mem_append.mp z with h | h
    · exact dec_no d1 (by decide) (by omega) h
    · simp at h
  · rcases List.mem_cons.mp hy with h | h
    · rw [h]; exact ⟨dec_no d2 (by decide) (by omega), by omega⟩
    · exact words_ok (fun q hq => bd_dec (bd q (List.mem_of_mem_drop hq))) y h
  · rw [List.length_cons, List.length_map, List.length_drop, List.length_take]; omega
theorem w1_4 (bd : ∀ q ∈ ps, Bd q) (lp : ps.length ≤ 12) : BadText (Txt.join ⟨#[32]⟩ ((ps.map wordOf).take n ++ Str.ofString "," :: (ps.map wordOf).drop (n + 1))) :=
  spoiled bd lp (noWd_of (by decide +kernel)) (by decide +kernel) (by decide +kernel) (by omega) (.inl (by decide +kernel))
theorem w3 (bd : ∀ q ∈ ps, Bd q) (lp : ps.length ≤ 12) (l0 : 0 < ps.length) : BadText (Txt.join ⟨#[32]⟩ ((ps.map wordOf).take n ++ Str.ofString "" :: (ps.map wordOf).drop n)) :=
  spoiled bd lp (noWd_of (by decide +kernel)) (by decide +kernel) (by decide +kernel) (by omega) (.inr ⟨l0, rfl⟩)
end
end Toy
set_option maxRecDepth 100000
namespace Toy
open PySem L2 Geo
abbrev txt (ps : List Pt) : Str := Txt.join ⟨#[32]⟩ (ps.map wordOf)
section
variable {ps : List Pt}
theorem dec_all (bd : ∀ q ∈ ps, Bd q) : ∀ q ∈ ps, Dec q.1 ∧ Dec q.2 := fun q hq => bd_dec (bd q hq)
theorem nw0 : NoWord ⟨#[]⟩ := noWd_of (by decide +kernel)
theorem w2a (bd : ∀ q ∈ ps, Bd q) (lp : ps.length ≤ 12) (l0 : 0 < ps.length) : BadText (⟨#[32]⟩ ++ txt ps) := by
  have e : (⟨#[32]⟩ : Str) ++ txt ps = Txt.join ⟨#[32]⟩ (([] : List Pt).map wordOf ++ ⟨#[]⟩ :: ps.map wordOf) := by
    match ps, l0 with
    | p :: r, _ => exact str_eq (by rw [app_cps, tj_list, tj_list]; simp [jn])
  rw [e]
  exact bad_word (fun q h => by cases h) nw0 (by simp) (by show 0 ≤ 20; decide) (words_ok (dec_all bd)) (by simp; omega) (.inr (.inr (by simpa using l0)))
theorem jn_end (c : Nat) : ∀ A : List (List Nat), A ≠ [] → jn c A ++ [c] = jn c (A ++ [[]])
  | [], h => absurd rfl h
  | [a], _ => by simp [jn]
  | a :: b :: r, _ => by
    have := jn_end c (b :: r) (by simp)
    show (a ++ c :: jn c (b :: r)) ++ [c] = a ++ c :: jn c ((b :: r) ++ [[]])
    rw [← this]; simp
theorem w2b (bd : ∀ q ∈ ps, Bd q) (lp : ps.length ≤ 12) (l0 : 0 < ps.length) : BadText (txt ps ++ ⟨#[32]⟩) := by
  have e : txt ps ++ (⟨#[32]⟩ : Str) = Txt.join ⟨#[32]⟩ (ps.map wordOf ++ ⟨#[]⟩ :: []) := str_eq (by
    rw [app_cps, tj_list, tj_list, List.map_append]
    exact jn_end 32 _ (by simpa using List.length_pos_iff.mp l0))
  rw [e]
  exact bad_word (dec_all bd) nw0 (by simp) (by show 0 ≤ 20; decide) (fun y hy => by cases hy) (by simp; omega) (.inr (.inl l0))
theorem front_word {p : Pt} (d : Dec p.1 ∧ Dec p.2) {c : Nat} (h1 : c ≠ 45) (h2 : isD c = false) (h3 : c < 128) (h4 : c ≠ 44) : NoWord (⟨#[c]⟩ ++ wordOf p) := by
  have l1 := d.1.len
  have l2 := d.2.len
  have e : (⟨#[c]⟩ : Str) ++ wordOf p = Txt.join ⟨#[44]⟩ [⟨#[c]⟩ ++ dec p.1, dec p.2] := by rw [word_tj]; exact tj_front 44 [dec p.2] (dec p.1) ⟨#[c]⟩
  have as : Asc (⟨#[c]⟩ ++ dec p.1) := fun x hx => by
    rw [app_cps] at hx
    rcases List.mem_append.mp hx with h | h
    · simp at h; omega
    · exact dec_asc d.1 x h
  have ln : ((⟨#[c]⟩ : Str) ++ dec p.1).length ≤ 6 := by rw [strLen_append]; show 1 + _ ≤ 6; omega
  rw [e]
  refine nw2 (fun z => ?_) (dec_no d.2 (by decide) (by omega)) as (dec_asc d.2) (by omega) (by omega) (.inl (np_sign (c := c) as (by omega) (by rw [app_cps]; simp) h1 h2))
  rw [app_cps] at z
  rcases List.mem_append.mp z with h | h
  · simp at h; omega
  · exact dec_no d.1 (by decide) (by omega) h
theorem front_no {p : Pt} (d : Dec p.1 ∧ Dec p.2) {c : Nat} (h : c ≠ 32) : 32 ∉ ((⟨#[c]⟩ : Str) ++ wordOf p).cps.toList := fun z => by
  rw [app_cps] at z
  rcases List.mem_append.mp z with q | q
  · simp at q; omega
  · exact word_no d q
theorem front_len {p : Pt} (d : Dec p.1 ∧ Dec p.2) {c : Nat} : ((⟨#[c]⟩ : Str) ++ wordOf p).length ≤ 12 ∧ 0 < ((⟨#[c]⟩ : Str) ++ wordOf p).length := by
  have := word_len d.1 d.2
  rw [strLen_append]
  exact ⟨by show 1 + _ ≤ 12; omega, by show 0 < 1 + _; omega⟩
theorem w2d (bd : ∀ q ∈ ps, Bd q) (lp : ps.length ≤ 12) (l0 : 0 < ps.length) {c : Nat} (h1 : c ≠ 45) (h2 : isD c = false) (h3 : c < 128) (h4 : c ≠ 44) (h5 : c ≠ 32) : BadText (⟨#[c]⟩ ++ txt ps) := by
  match ps, l0, bd, lp with
  | p :: r, _, bd, lp =>
    have d := bd_dec (bd p (by simp))
    have fl := front_len (c := c) d
    show BadText (⟨#[c]⟩ ++ Txt.join ⟨#[32]⟩ (wordOf p :: r.map wordOf))
    rw [tj_front]
    exact bad_word (A := []) (fun q h => by cases h) (front_word d h1 h2 h3 h4) (front_no d h5) (by omega) (words_ok fun q hq => bd_dec (bd q (List.mem_cons_of_mem _ hq))) (by simp at lp ⊢; omega) (.inl fl.2)
theorem snoc_pts (l0 : 0 < ps.length) : ∃ A p, ps = A ++ [p] := ⟨ps.dropLast, ps.getLast (List.length_pos_iff.mp l0), (List.dropLast_concat_getLast _).symm⟩
theorem behind (bd : ∀ q ∈ ps, Bd q) (lp : ps.length ≤ 12) (l0 : 0 < ps.length) {x : Str} (lx : x.length ≤ 5) (bx : 32 ∉ x.cps.toList) (nw : ∀ p : Pt, Dec p.1 ∧ Dec p.2 → NoWord (wordOf p ++ x)) : BadText (txt ps ++ x) := by
  obtain ⟨A, p, rfl⟩ := snoc_pts l0
  have d := bd_dec (bd p (by simp))
  have wl := word_len d.1 d.2
  have e : txt (A ++ [p]) ++ x = Txt.join ⟨#[32]⟩ (A.map wordOf ++ [wordOf p ++ x]) := by
    unfold txt
    rw [List.map_append]
    exact tj_snoc 32 (A.map wordOf) (wordOf p) x
  rw [e]
  refine bad_word (fun q hq => bd_dec (bd q (by simp [hq]))) (nw p d) (fun z => ?_) (by rw [strLen_append]; omega) (fun y hy => by cases hy) (by simp at lp ⊢; omega) (.inl ?_)
  · rw [app_cps] at z
    rcases List.mem_append.mp z with q | q
    · exact word_no d q
    · exact bx q
  · rw [strLen_append, word_tj, two_len]; omega
theorem w2c (bd : ∀ q ∈ ps, Bd q) (lp : ps.length ≤ 12) (l0 : 0 < ps.length) : BadText (txt ps ++ ⟨#[10]⟩) := by
  refine behind bd lp l0 (by show 1 ≤ 5; decide) (by simp) fun p d => ?_
  have l1 := d.1.len
  have l2 := d.2.len
  have e : wordOf p ++ (⟨#[10]⟩ : Str) = Txt.join ⟨#[44]⟩ [dec p.1, dec p.2 ++ ⟨#[10]⟩] := by rw [word_tj]; exact tj_snoc 44 [dec p.1] (dec p.2) ⟨#[10]⟩
  have as : Asc (dec p.2 ++ ⟨#[10]⟩) := fun x hx => by
    rw [app_cps] at hx
    rcases List.mem_append.mp hx with h | h
    · exact dec_asc d.2 x h
    · simp at h; omega
  have ln : (dec p.2 ++ (⟨#[10]⟩ : Str)).length ≤ 6 := by rw [strLen_append]; show _ + 1 ≤ 6; omega
  rw [e]
  refine nw2 (dec_no d.1 (by decide) (by omega)) (fun z => ?_) (dec_asc d.1) as (by omega) (by omega) (.inr ⟨pl_of d.1, np_sign (c := 10) as (by omega) (by rw [app_cps]; simp) (by decide) (by decide)⟩)
  rw [app_cps] at z
  rcases List.mem_append.mp z with h | h
  · exact dec_no d.2 (by decide) (by omega) h
  · simp at h
theorem w2f (bd : ∀ q ∈ ps, Bd q) (lp : ps.length ≤ 12) (l0 : 0 < ps.length) : BadText (txt ps ++ ⟨#[44]⟩) := by
  refine behind bd lp l0 (by show 1 ≤ 5; decide) (by simp) fun p d => ?_
  have l1 := d.1.len
  have l2 := d.2.len
  have e : wordOf p ++ (⟨#[44]⟩ : Str) = Txt.join ⟨#[44]⟩ [dec p.1, dec p.2, ⟨#[]⟩] := str_eq (by rw [app_cps, word_tj, tj_list, tj_list]; simp [jn])
  rw [e]
  refine nw_join (by simp) (fun y hy => ?_) (fun y hy => ?_) ?_ (.inl (by simp))
  · simp only [List.mem_cons, List.not_mem_nil, or_false] at hy
    rcases hy with h | h | h
    · rw [h]; exact dec_no d.1 (by decide) (by omega)
    · rw [h]; exact dec_no d.2 (by decide) (by omega)
    · rw [h]; simp
  · simp only [List.mem_cons, List.not_mem_nil, or_false] at hy
    rcases hy with h | h | h
    · rw [h]; exact dec_asc d.1
    · rw [h]; exact dec_asc d.2
    · rw [h]; intro c hc; simp at hc
  · simp only [List.map_cons, List.map_nil, List.sum_cons, List.sum_nil, List.length_cons, List.length_nil]; show _ + (_ + (0 + 0)) + _ ≤ 100; omega
set_option maxHeartbeats 0 in
theorem w4 (bd : ∀ q ∈ ps, Bd q) (lp : ps.length ≤ 12) (l0 : 0 < ps.length) : BadText (⟨#[40]⟩ ++ txt ps ++ ⟨#[41]⟩) := by
  match ps, l0, bd, lp with
  | [p], _, bd, lp =>
    have d := bd_dec (bd p (by simp))
    have l1 := d.1.len
    have l2 := d.2.len
    have e : (⟨#[40]⟩ : Str) ++ txt [p] ++ ⟨#[41]⟩ = Txt.join ⟨#[32]⟩ (([] : List Pt).map wordOf ++ Txt.join ⟨#[44]⟩ [⟨#[40]⟩ ++ dec p.1, dec p.2 ++ ⟨#[41]⟩] :: []) := str_eq (by
      rw [app_cps, app_cps, tj_list, tj_list]
      simp only [List.map_cons, List.map_nil, List.nil_append, jn, word_tj, tj_list, app_cps]
      simp)
    have as1 : Asc (⟨#[40]⟩ ++ dec p.1) := fun x hx => by
      rw [app_cps] at hx
      rcases List.mem_append.mp hx with h | h
      · simp at h; omega
      · exact dec_asc d.1 x h
    have as2 : Asc (dec p.2 ++ ⟨#[41]⟩) := fun x hx => by
      rw [app_cps] at hx
      rcases List.mem_append.mp hx with h | h
      · exact dec_asc d.2 x h
      · simp at h; omega
    have ln1 : ((⟨#[40]⟩ : Str) ++ dec p.1).length ≤ 6 := by rw [strLen_append]; show 1 + _ ≤ 6; omega
    have ln2 : (dec p.2 ++ (⟨#[41]⟩ : Str)).length ≤ 6 := by rw [strLen_append]; show _ + 1 ≤ 6; omega
    have no : ∀ c, c ≠ 40 → c ≠ 41 → c ≠ 45 → (c < 48 ∨ 57 < c) → c ∉ ((⟨#[40]⟩ : Str) ++ dec p.1).cps.toList ∧ c ∉ (dec p.2 ++ (⟨#[41]⟩ : Str)).cps.toList := fun c h1 h2 h3 h4 => by
      refine ⟨fun z => ?_, fun z => ?_⟩
      · rw [app_cps] at z
        rcases List.mem_append.mp z with h | h
        · simp at h; omega
        · exact dec_no d.1 h3 h4 h
      · rw [app_cps] at z
        rcases List.mem_append.mp z with h | h
        · exact dec_no d.2 h3 h4 h
        · simp at h; omega
    rw [e]
    have c44 := no 44 (by decide) (by decide) (by decide) (by omega)
    have c32 := no 32 (by decide) (by decide) (by decide) (by omega)
    exact bad_word (A := []) (fun q h => by cases h) (nw2 c44.1 c44.2 as1 as2 (by omega) (by omega) (.inl (np_sign (c := 40) as1 (by omega) (by rw [app_cps]; simp) (by decide) (by decide)))) (two_no (by decide) c32.1 c32.2) (by rw [two_len]; omega) (fun y hy => by cases hy) (by simp) (.inl (by rw [two_len]; omega))
  | p :: q :: r, _, bd, lp =>
    have d := bd_dec (bd p (by simp))
    have fl := front_len (c := 40) d
    obtain ⟨A, y, e⟩ := snoc_pts (ps := q :: r) (by simp)
    have dy := bd_dec (bd y (by have : y ∈ q :: r := by rw [e]; simp
                                exact List.mem_cons_of_mem _ this))
    have wl := word_len dy.1 dy.2
    have e2 : (⟨#[40]⟩ : Str) ++ txt (p :: q :: r) ++ ⟨#[41]⟩ = Txt.join ⟨#[32]⟩ (([] : List Pt).map wordOf ++ (⟨#[40]⟩ ++ wordOf p) :: (A.map wordOf ++ [wordOf y ++ ⟨#[41]⟩])) := by
      show ((⟨#[40]⟩ : Str) ++ Txt.join ⟨#[32]⟩ (wordOf p :: (q :: r).map wordOf)) ++ ⟨#[41]⟩ = _
      rw [tj_front, e, List.map_append]
      exact tj_snoc 32 ((⟨#[40]⟩ ++ wordOf p) :: A.map wordOf) (wordOf y) ⟨#[41]⟩
    rw [e2]
    have lA : A.length + 1 = r.length + 1 := by have := congrArg List.length e; simpa using this.symm
    refine bad_word (A := []) (fun q h => by cases h) (front_word (c := 40) d (by decide) (by decide) (by decide) (by decide)) (front_no (c := 40) d (by decide)) (by omega) (fun z hz => ?_) (by simp at lp ⊢; omega) (.inl fl.2)
    rcases List.mem_append.mp hz with h | h
    · exact words_ok (ps := A) (fun x hx => bd_dec (bd x (by have : x ∈ q :: r := by rw [e]; simp [hx]
                                                             exact List.mem_cons_of_mem _ this))) z h
    · rw [List.mem_singleton] at h
      rw [h]
      refine ⟨fun m => ?_, by rw [strLen_append]; show _ + 1 ≤ 20; omega⟩
      rw [app_cps] at m
      rcases List.mem_append.mp m with k | k
      · exact word_no dy k
      · simp at k
theorem zero_word : (Str.ofString "0,0" : Str) = wordOf (0, 0) := by decide +kernel
theorem w5 (bd : ∀ q ∈ ps, Bd q) {k : Nat} (h1 : 13 ≤ ps.length + k) (h2 : ps.length + k ≤ 15) : BadText (Txt.join ⟨#[32]⟩ (ps.map wordOf ++ List.replicate k (Str.ofString "0,0"))) := by
  have e : ps.map wordOf ++ List.replicate k (Str.ofString "0,0") = (ps ++ List.replicate k (0, 0)).map wordOf := by rw [List.map_append, List.map_replicate, zero_word]
  have dz : Dec 0 := dec_ok (by decide) (by decide)
  rw [e]
  refine bad_all (fun q hq => ?_) (fun z => ?_) (by simp; omega) (.inl (by simp; omega))
  · rcases List.mem_append.mp hq with h | h
    · exact bd_dec (bd q h)
    · rw [(List.mem_replicate.mp h).2]; exact ⟨dz, dz⟩
  · have := congrArg List.length z
    rw [List.length_append, List.length_replicate] at this
    have z0 : ([] : List Pt).length = 0 := rfl
    omega
end
def nones : List Str := [" ", "\n", "\t", "  ", " \n", "\n\n", "\t ", ",", "-", ",\n", " , ", "0"].map Str.ofString
def badB (z : Str) : Bool := decide (z.length ≤ 400) && decide (z ≠ ⟨#[]⟩) && (match Txt.split z ⟨#[32]⟩ with | x :: _ => noWdB x | [] => false)
theorem nones_ok : nones.all badB = true := by decide +kernel
theorem bad_none {z : Str} (h : z ∈ nones) : BadText z := by
  have := List.all_eq_true.mp nones_ok z h
  unfold badB at this
  simp only [Bool.and_eq_true, decide_eq_true_eq] at this
  obtain ⟨⟨h1, h2⟩, h3⟩ := this
  refine ⟨h1, h2, ?_⟩
  split at h3
  · rename_i x r e
    rw [e]
    exact ⟨[], x :: r, rfl, (fun q h => by cases h), .inl ⟨x, r, rfl, noWd_of h3⟩⟩
  · cases h3
end Toy
set_option maxRecDepth 100000
namespace Toy
open PySem L2 Geo
section
variable {P : Program} {w : World} {K : PySem.W.Frag} {mg : Str → Option Value} {base : Heap}
abbrev n_sSpoil : List Str := ["words", "way", "cell", "at", "parts", "text", "some", "word"]
theorem scSpoil : FnScope n_sSpoil ["words", "way", "cell"] (defScope sSpoil) := ⟨rfl, rfl, rfl, by decide +kernel, rfl, by decide +kernel, by decide +kernel⟩
abbrev c_zrs : Scope := { kind := .function, names := [(".0", .local), ("k", .local)], isGenerator := false, isCoroutine := false }
theorem cs_zrs {cdv : Value} {A : Around} {outer : List Env} {s : Shared} {H : Hp} {E : XK} {f : Addr} : CompScope (cxOf CX0 P w K mg base n_sSpoil "_law_spoiled" (defScope sSpoil) f cdv A outer s H E).nox c_zrs ["k"] [none] where
  kind := rfl
  nocell := by decide +kernel
  names := by decide +kernel
  frees := by show ∀ z ∈ c_zrs.names, z.2 = .free → (defScope sSpoil).names.lookup z.1 = some .cell; decide +kernel
  nd := by decide +kernel
  len := rfl
  cap := fun i j h => match i, h with
    | 0, h => by simp at h
    | n + 1, h => by simp at h
theorem nd_zrs : (["k"] : List Str).Nodup := by decide +kernel
def spSpoil (K : PySem.W.Frag) : Sp := fun vs H Q _ => ∃ (l : Addr) (ps : List Pt) (way cell : Int), vs = [.ref l, .int way, .int cell] ∧ H l = some (.lst ((ps.map wordOf).map V.str)) ∧ 0 < ps.length ∧ ps.length ≤ 12 ∧ (∀ q ∈ ps, Bd q) ∧ 0 ≤ way ∧ way < 6 ∧ 0 ≤ cell ∧ ∀ z H', Same H H' → BadText z → Q (.str z) H'
theorem join_ok {c : Nat} {ws : List Str} (h : (ws.map (·.length)).sum + ws.length ≤ 1000) : JoinOk ⟨#[c]⟩ ws = true := PyProof.Rows.joinOk_of (by show _ + _ * 1 ≤ _; have := small1000 h; omega)
theorem cut_toN (xs : List V) (i : Nat) : cutV xs none (some (i : Int)) = xs.take i := by
  unfold cutV
  rw [HT.sIx_nat, show HT.sIx xs.length 0 none = 0 from rfl, List.drop_zero, Nat.sub_zero]
  rcases Nat.le_total i xs.length with h | h
  · rw [Nat.min_eq_left h]
  · rw [Nat.min_eq_right h, List.take_of_length_le (Nat.le_refl _), List.take_of_length_le h]
theorem cut_offN (xs : List V) (i : Nat) : cutV xs (some (i : Int)) none = xs.drop i := by
  unfold cutV
  rw [HT.sIx_nat, show HT.sIx xs.length xs.length none = xs.length from rfl]
  rcases Nat.le_total i xs.length with h | h
  · rw [Nat.min_eq_left h, List.take_of_length_le (by rw [List.length_drop]; exact Nat.le_refl _)]
  · rw [Nat.min_eq_right h, List.drop_of_length_le (Nat.le_refl _), List.drop_of_length_le h]; simp
theorem no_kN {k j : Int} (h : k ≠ j) : V.bl (decide (V.int k = V.int j)) = V.bl false := by rw [decide_eq_false fun e => h (V.int.inj e)]
theorem is_kN {j : Int} : V.bl (decide (V.int j = V.int j)) = V.bl true := by rw [decide_eq_true rfl]
theorem mem_at {xs : List Str} {i : Int} {n : Nat} (hn : xs.length = n) (h0 : 0 ≤ i) (h1 : i < n) : ∃ z ∈ xs, atI (xs.map V.str) i = some (.str z) := by
  have hk : i.toNat < xs.length := by omega
  refine ⟨xs[i.toNat], List.getElem_mem hk, ?_⟩
  have := atI_nat (xs := xs.map V.str) (j := i.toNat) (v := .str xs[i.toNat]) (by simp [hk])
  rw [show ((i.toNat : Nat) : Int) = i by omega] at this
  exact this
theorem three_len {ps : List Pt} {n m : Nat} {x : Str} (dc : ∀ q ∈ ps, Dec q.1 ∧ Dec q.2) (lp : ps.length ≤ 12) (lx : x.length ≤ 100) : (((ps.map wordOf).take n ++ x :: (ps.map wordOf).drop m).map (·.length)).sum + ((ps.map wordOf).take n ++ x :: (ps.map wordOf).drop m).length ≤ 1000 := by
  rw [take_words, drop_words]
  have a := word_sum (ps := ps.take n) fun p hp => dc p (List.mem_of_mem_take hp)
  have b := word_sum (ps := ps.drop m) fun p hp => dc p (List.mem_of_mem_drop hp)
  rw [List.length_take] at a
  rw [List.length_drop] at b
  simp only [List.map_append, List.map_cons, List.sum_append, List.sum_cons, List.length_append, List.length_cons, List.length_map, List.length_take, List.length_drop]
  simp only [List.map_map] at a b ⊢
  omega
set_option maxHeartbeats 0 in
theorem ok_spoil {f : Addr} {fd : FuncData} (F : Fun K "_law_spoiled" "_law_spoiled" sSpoil f fd) (T : Txt mg) : FnOk P w K mg base CX0 1 f fd ["words", "way", "cell"] (spSpoil K) := by
  refine F.ok scSpoil (fun vs H Q E h => ?_) (fun cdv A outer s H vs Q E hr h => ?_)
  · obtain ⟨l, ps, way, cell, rfl, _⟩ := h; rfl
  · obtain ⟨l, ps, way, cell, rfl, hl, l0, lp, bd, y0, y1, c0, k⟩ := h
    have dc : ∀ q ∈ ps, Dec q.1 ∧ Dec q.2 := fun q hq => bd_dec (bd q hq)
    have R8 : ∃ t, PSs (cxOf CX0 P w K mg base n_sSpoil "_law_spoiled" (defScope sSpoil) f cdv A outer s H E).nox (List.drop 8 (defBody sSpoil)) t ∧
        ∀ (H1 : Hp) (v1 v3 v4 v5 v6 v7 : Option V), Same H H1 → t { nx := fun _ H' => Q .non H', rt := Q } [some (.ref l), v1, some (.int cell), v3, v4, v5, v6, v7] H1 := by
      refine ⟨_, pss_one (ps_ret (pe_bm PySem.F.plainAttrs_str PySem.F.slot_str_join PySem.F.type_str_join mt_join pe_str (pa_cons (pe_op op_cat (pv 0) (pe_comp cs_zrs rfl (pi_range1 rfl T.range (pa_cons (pe_op op_add (pe_op op_sub pe_int (pe_callB call_len_seq rfl T.len PySem.boot_len (pa_cons (pv 0) pa_nil))) (pe_op op_mod (pe_op op_fdiv (pv 2) pe_int) pe_int)) pa_nil)) (fun _ _ _ _ _ => pg_name (i := 0) nd_zrs rfl (Or.inl rfl)) (fun _ _ _ _ _ => pif_nil) (fun _ _ _ _ _ => pe_str))) pa_nil))), ?_⟩
      intro H1 v1 v3 v4 v5 v6 v7 s1
      have h1 := s1 _ _ hl
      have ll : ((ps.map wordOf).map V.str).length = ps.length := by simp
      have m0 := Int.emod_nonneg (cell / 12) (show (3 : Int) ≠ 0 by decide)
      have m1 := Int.emod_lt_of_pos (cell / 12) (show (0 : Int) < 3 by decide)
      refine ⟨rfl, _, rfl, _, rfl, l, _, rfl, .inl (SqL.of h1), _, _, rfl, rfl, _, rfl, _, _, rfl, rfl, ⟨by decide, by decide⟩, _, _, rfl, rfl, (by show (0 : Int) < 3; decide), _, _, rfl, rfl, (13 - (((ps.map wordOf).map V.str).length : Int) + cell / 12 % 3), rfl, by omega, by omega, fun D hD => ?_⟩
      refine comp_range (lo := 0) (n := (13 - (((ps.map wordOf).map V.str).length : Int) + cell / 12 % 3).toNat) (fun j σ' H' => ∃ v, σ' = [v] ∧ Same H1 H' ∧ H' D = some (.lst ((List.replicate j (Str.ofString "0,0")).map V.str)))
        ⟨none, rfl, same_upd (Same.refl H1) hD, upd_same⟩ ?_ ?_
      · rintro j σ' H' hj ⟨v, rfl, s4, h4⟩
        dsimp only [gName, tYes]
        refine iteT ⟨_, h4, small1000 (by rw [List.length_map, List.length_replicate]; omega), _, rfl, same_upd s4 hD, ?_⟩
        rw [upd_same, List.replicate_succ', List.map_append]; rfl
      · rintro σ' H' ⟨v, rfl, s4, h4⟩
        refine ⟨l, D, _, _, rfl, rfl, (s1.trans s4) _ _ hl, h4, Nat.le_of_lt (small1000 (by rw [List.length_map, List.length_map, List.length_map, List.length_replicate]; omega)), fun e ne => ?_⟩
        rw [← List.map_append]
        have b := w5 (ps := ps) (k := (13 - (((ps.map wordOf).map V.str).length : Int) + cell / 12 % 3).toNat) bd (by omega) (by omega)
        have s5 := same_upd (o := .lst ((ps.map wordOf ++ List.replicate (13 - (((ps.map wordOf).map V.str).length : Int) + cell / 12 % 3).toNat (Str.ofString "0,0")).map V.str)) (Same.refl H') ne
        refine ⟨_, e, ps.map wordOf ++ List.replicate (13 - (((ps.map wordOf).map V.str).length : Int) + cell / 12 % 3).toNat (Str.ofString "0,0"), rfl, rfl, SqL.of upd_same, ?_, ?_⟩
        · rw [blank_sign]
          refine join_ok ?_
          have := word_sum dc
          have e0 : (Str.ofString "0,0").length = 3 := by decide +kernel
          rw [List.map_append, List.sum_append, List.map_replicate, List.sum_replicate_nat, e0]
          simp only [List.length_append, List.length_map, List.length_replicate] at *
          omega
        · rw [blank_sign]; exact k _ _ (s1.trans (s4.trans s5)) b
    obtain ⟨t8, hR8, rest8⟩ := R8
    have R7 : ∃ t, PSs (cxOf CX0 P w K mg base n_sSpoil "_law_spoiled" (defScope sSpoil) f cdv A outer s H E).nox (List.drop 7 (defBody sSpoil)) t ∧
        ∀ (H1 : Hp) (n : Nat) (p : Pt) (q : Addr) (v6 v7 : Option V), Same H H1 → H q = none → ps[n]? = some p → H1 q = some (.lst [.str (dec p.1), .str (dec p.2)]) → (True) →
          t { nx := fun _ H' => Q .non H', rt := Q } [some (.ref l), some (.int way), some (.int cell), some (.int (n : Int)), some (.ref q), some (.str (txt ps)), v6, v7] H1 := by
      refine ⟨_, pss_cons (ps_if (pt_cmpR op_eq (pv 1) pe_int (nomark _)) (pss_one (ps_ret (pe_op op_add_str (pe_op op_add_str pe_str (pv 5)) pe_str))) pss_nil)
        hR8, ?_⟩
      intro H1 n p q v6 v7 s1 nq hp hq hw
      have tl : (txt ps).length ≤ 200 := by
        have := word_sum dc
        rw [show (txt ps).length = _ from tj_len 32 _]
        simp only [List.length_map]
        omega
      by_cases c : way = 4
      · subst c
        refine ⟨_, rfl, rfl, true, is_kN, iteT ⟨_, rfl, _, _, rfl, rfl, ?_, _, _, rfl, rfl, ?_, ?_⟩⟩
        · exact Nat.le_of_lt (small1000 (by show 1 + _ ≤ 1000; omega))
        · exact Nat.le_of_lt (small1000 (by rw [strLen_append]; show 1 + _ + 1 ≤ 1000; omega))
        · rw [show (Str.ofString "(" : Str) = ⟨#[40]⟩ by decide +kernel, show (Str.ofString ")" : Str) = ⟨#[41]⟩ by decide +kernel]
          exact k _ H1 s1 (w4 bd lp l0)
      · exact ⟨_, rfl, rfl, false, no_kN c, iteF (rest8 H1 _ _ _ _ _ _ s1)⟩
    obtain ⟨t7, hR7, rest7⟩ := R7
    have R6 : ∃ t, PSs (cxOf CX0 P w K mg base n_sSpoil "_law_spoiled" (defScope sSpoil) f cdv A outer s H E).nox (List.drop 6 (defBody sSpoil)) t ∧
        ∀ (H1 : Hp) (n : Nat) (p : Pt) (q : Addr) (v6 v7 : Option V), Same H H1 → H q = none → ps[n]? = some p → H1 q = some (.lst [.str (dec p.1), .str (dec p.2)]) → (True) →
          t { nx := fun _ H' => Q .non H', rt := Q } [some (.ref l), some (.int way), some (.int cell), some (.int (n : Int)), some (.ref q), some (.str (txt ps)), v6, v7] H1 := by
      refine ⟨_, pss_cons (ps_if (pt_cmpR op_eq (pv 1) pe_int (nomark _)) (pss_one (ps_ret (pe_bm PySem.F.plainAttrs_str PySem.F.slot_str_join PySem.F.type_str_join mt_join pe_str (pa_cons (pe_op op_cat (pe_op op_cat (pe_slice sl_list (pv 0) po_none (po_some (pv 3))) (pe_lst (pa_cons (pe_str) pa_nil))) (pe_slice sl_list (pv 0) (po_some (pv 3)) po_none)) pa_nil)))) pss_nil)
        hR7, ?_⟩
      intro H1 n p q v6 v7 s1 nq hp hq hw
      by_cases c : way = 3
      · subst c
        have hl1 := s1 _ _ hl
        refine ⟨_, rfl, rfl, true, is_kN, iteT ⟨rfl, _, rfl, _, rfl, _, rfl, l, _, rfl, SqL.of hl1, fun a1 n1 => ?_⟩⟩
        rw [cut_toN, ← List.map_take]
        have t1 := same_upd (o := .lst (((ps.map wordOf).take n).map V.str)) (Same.refl H1) n1
        have g1 : (upd H1 a1 (.lst (((ps.map wordOf).take n).map V.str))) a1 = some (.lst (((ps.map wordOf).take n).map V.str)) := upd_same
        have hl2 := t1 _ _ hl1
        have ql2 := t1 _ _ hq
        have u1 := s1.trans t1
        generalize (upd H1 a1 (.lst (((ps.map wordOf).take n).map V.str))) = J1 at *
        refine ⟨(by show 1 ≤ sizeLine; decide), fun a2 n2 => ?_⟩
        have t2 := same_upd (o := .lst [.str (Str.ofString "")]) (Same.refl J1) n2
        have g2 : (upd J1 a2 (.lst [.str (Str.ofString "")])) a2 = some (.lst [.str (Str.ofString "")]) := upd_same
        have g12 := t2 _ _ g1
        have u2 := u1.trans t2
        generalize (upd J1 a2 (.lst [.str (Str.ofString "")])) = J2 at *
        have lt : (((ps.map wordOf).take n).map V.str).length ≤ 12 := by rw [List.length_map, List.length_take, List.length_map]; omega
        refine ⟨a1, a2, _, _, rfl, rfl, g12, g2, Nat.le_of_lt (small1000 (by show _ + 1 ≤ 1000; omega)), fun a3 n3 => ?_⟩
        have t3 := same_upd (o := .lst (((ps.map wordOf).take n).map V.str ++ [.str (Str.ofString "")])) (Same.refl J2) n3
        have g3 : (upd J2 a3 (.lst (((ps.map wordOf).take n).map V.str ++ [.str (Str.ofString "")]))) a3 = some (.lst (((ps.map wordOf).take n).map V.str ++ [.str (Str.ofString "")])) := upd_same
        have u3 := u2.trans t3
        generalize (upd J2 a3 (.lst (((ps.map wordOf).take n).map V.str ++ [.str (Str.ofString "")]))) = J3 at *
        refine ⟨_, rfl, _, rfl, _, rfl, l, _, rfl, SqL.of (u3 _ _ hl), fun a4 n4 => ?_⟩
        rw [cut_offN, ← List.map_drop]
        have t4 := same_upd (o := .lst (((ps.map wordOf).drop n).map V.str)) (Same.refl J3) n4
        have g4 : (upd J3 a4 (.lst (((ps.map wordOf).drop n).map V.str))) a4 = some (.lst (((ps.map wordOf).drop n).map V.str)) := upd_same
        have g34 := t4 _ _ g3
        have u4 := u3.trans t4
        generalize (upd J3 a4 (.lst (((ps.map wordOf).drop n).map V.str))) = J4 at *
        have ld : (((ps.map wordOf).drop n).map V.str).length ≤ 12 := by rw [List.length_map, List.length_drop, List.length_map]; omega
        have ee : (((ps.map wordOf).take n).map V.str ++ [.str (Str.ofString "")]) ++ ((ps.map wordOf).drop n).map V.str = ((ps.map wordOf).take n ++ (Str.ofString "") :: (ps.map wordOf).drop n).map V.str := by simp
        refine ⟨a3, a4, _, _, rfl, rfl, g34, g4, Nat.le_of_lt (small1000 (by rw [List.length_append]; show _ + 1 + _ ≤ 1000; omega)), fun a5 n5 => ?_⟩
        rw [ee]
        have t5 := same_upd (o := .lst (((ps.map wordOf).take n ++ (Str.ofString "") :: (ps.map wordOf).drop n).map V.str)) (Same.refl J4) n5
        have jo : (((ps.map wordOf).take n ++ (Str.ofString "") :: (ps.map wordOf).drop n).map (·.length)).sum + ((ps.map wordOf).take n ++ (Str.ofString "") :: (ps.map wordOf).drop n).length ≤ 1000 := three_len dc lp (by decide +kernel)
        refine ⟨_, a5, _, rfl, rfl, SqL.of upd_same, (by rw [blank_sign]; exact join_ok jo), ?_⟩
        rw [blank_sign]
        exact k _ _ (u4.trans t5) (w3 bd lp l0)
      · exact ⟨_, rfl, rfl, false, no_kN c, iteF (rest7 H1 n p q v6 v7 s1 nq hp hq trivial)⟩
    obtain ⟨t6, hR6, rest6⟩ := R6
    have R5 : ∃ t, PSs (cxOf CX0 P w K mg base n_sSpoil "_law_spoiled" (defScope sSpoil) f cdv A outer s H E).nox (List.drop 5 (defBody sSpoil)) t ∧
        ∀ (H1 : Hp) (n : Nat) (p : Pt) (q : Addr) (v6 v7 : Option V), Same H H1 → H q = none → ps[n]? = some p → H1 q = some (.lst [.str (dec p.1), .str (dec p.2)]) → (True) →
          t { nx := fun _ H' => Q .non H', rt := Q } [some (.ref l), some (.int way), some (.int cell), some (.int (n : Int)), some (.ref q), some (.str (txt ps)), v6, v7] H1 := by
      refine ⟨_, pss_cons (ps_if (pt_cmpR op_eq (pv 1) pe_int (nomark _)) (pss_one (ps_ret (pe_ix ix_list (pe_lst (pa_cons (pe_op op_add_str pe_str (pv 5)) (pa_cons (pe_op op_add_str (pv 5) pe_str) (pa_cons (pe_op op_add_str (pv 5) pe_str) (pa_cons (pe_op op_add_str pe_str (pv 5)) (pa_cons (pe_op op_add_str pe_str (pv 5)) (pa_cons (pe_op op_add_str (pv 5) pe_str) pa_nil))))))) (pe_op op_mod (pe_op op_fdiv (pv 2) pe_int) pe_int) (fun _ _ => rfl)))) pss_nil)
        hR6, ?_⟩
      intro H1 n p q v6 v7 s1 nq hp hq hw
      have tl : (txt ps).length ≤ 200 := by
        have := word_sum dc
        rw [show (txt ps).length = _ from tj_len 32 _]
        simp only [List.length_map]
        omega
      have i0 := Int.emod_nonneg (cell / 12) (show (6 : Int) ≠ 0 by decide)
      have i1 := Int.emod_lt_of_pos (cell / 12) (show (0 : Int) < 6 by decide)
      by_cases c : way = 2
      · subst c
        obtain ⟨z, hz, az⟩ := mem_at (xs := [Str.ofString " " ++ txt ps, txt ps ++ Str.ofString " ", txt ps ++ Str.ofString "\n", Str.ofString "\t" ++ txt ps, Str.ofString "\n" ++ txt ps, txt ps ++ Str.ofString ","]) (n := 6) rfl i0 i1
        refine ⟨_, rfl, rfl, true, is_kN, iteT ⟨_, rfl, _, _, rfl, rfl, Nat.le_of_lt (small1000 (by first | (show 1 + _ ≤ 1000; omega) | (show _ + 1 ≤ 1000; omega))), _, rfl, _, _, rfl, rfl, Nat.le_of_lt (small1000 (by first | (show 1 + _ ≤ 1000; omega) | (show _ + 1 ≤ 1000; omega))), _, rfl, _, _, rfl, rfl, Nat.le_of_lt (small1000 (by first | (show 1 + _ ≤ 1000; omega) | (show _ + 1 ≤ 1000; omega))), _, rfl, _, _, rfl, rfl, Nat.le_of_lt (small1000 (by first | (show 1 + _ ≤ 1000; omega) | (show _ + 1 ≤ 1000; omega))), _, rfl, _, _, rfl, rfl, Nat.le_of_lt (small1000 (by first | (show 1 + _ ≤ 1000; omega) | (show _ + 1 ≤ 1000; omega))), _, rfl, _, _, rfl, rfl, Nat.le_of_lt (small1000 (by first | (show 1 + _ ≤ 1000; omega) | (show _ + 1 ≤ 1000; omega))), (by show 6 ≤ sizeLine; decide), fun a6 n6 => ⟨_, rfl, _, _, rfl, rfl, ⟨by decide, by decide⟩, _, _, rfl, rfl, (by show (0 : Int) < 6; decide), a6, _, _, _, rfl, rfl, SqL.of upd_same, az, ?_⟩⟩⟩
        refine k z _ (s1.trans (same_upd (Same.refl H1) n6)) ?_
        simp only [List.mem_cons, List.not_mem_nil, or_false] at hz
        rcases hz with h | h | h | h | h | h
        · rw [h, blank_sign]; exact w2a bd lp l0
        · rw [h, blank_sign]; exact w2b bd lp l0
        · rw [h, show (Str.ofString "\n" : Str) = ⟨#[10]⟩ by decide +kernel]; exact w2c bd lp l0
        · rw [h, show (Str.ofString "\t" : Str) = ⟨#[9]⟩ by decide +kernel]; exact w2d bd lp l0 (by decide) (by decide) (by decide) (by decide) (by decide)
        · rw [h, show (Str.ofString "\n" : Str) = ⟨#[10]⟩ by decide +kernel]; exact w2d bd lp l0 (by decide) (by decide) (by decide) (by decide) (by decide)
        · rw [h, comma_sign]; exact w2f bd lp l0
      · exact ⟨_, rfl, rfl, false, no_kN c, iteF (rest6 H1 n p q v6 v7 s1 nq hp hq trivial)⟩
    obtain ⟨t5, hR5, rest5⟩ := R5
    have R4 : ∃ t, PSs (cxOf CX0 P w K mg base n_sSpoil "_law_spoiled" (defScope sSpoil) f cdv A outer s H E).nox (List.drop 4 (defBody sSpoil)) t ∧
        ∀ (H1 : Hp) (n : Nat) (p : Pt) (q : Addr) (v6 v7 : Option V), Same H H1 → H q = none → ps[n]? = some p → H1 q = some (.lst [.str (dec p.1), .str (dec p.2)]) → (True) →
          t { nx := fun _ H' => Q .non H', rt := Q } [some (.ref l), some (.int way), some (.int cell), some (.int (n : Int)), some (.ref q), some (.str (txt ps)), v6, v7] H1 := by
      refine ⟨_, pss_cons (ps_if (pt_cmpR op_eq (pv 1) pe_int (nomark _)) (pss_cons (ps_set (i := 6) scSpoil.nd rfl (Or.inl rfl) (pe_lst (pa_cons (pe_ix ix_list (pv 4) pe_int (fun _ _ => rfl)) (pa_cons (pe_op op_add_str (pe_ix ix_list (pv 0) (pv 3) (fun _ _ => rfl)) pe_str) (pa_cons (pe_op op_add_str (pe_op op_add_str (pe_ix ix_list (pv 4) pe_int (fun _ _ => rfl)) pe_str) (pe_ix ix_list (pv 4) pe_int (fun _ _ => rfl))) (pa_cons (pe_op op_add_str (pe_op op_add_str (pe_ix ix_list (pv 4) pe_int (fun _ _ => rfl)) pe_str) (pe_ix ix_list (pv 4) pe_int (fun _ _ => rfl))) (pa_cons pe_str pa_nil))))))) (pss_cons (ps_set (i := 7) scSpoil.nd rfl (Or.inl rfl) (pe_ix ix_list (pv 6) (pe_op op_mod (pe_op op_fdiv (pv 2) pe_int) pe_int) (fun _ _ => rfl))) (pss_one (ps_ret (pe_bm PySem.F.plainAttrs_str PySem.F.slot_str_join PySem.F.type_str_join mt_join pe_str (pa_cons (pe_op op_cat (pe_op op_cat (pe_slice sl_list (pv 0) po_none (po_some (pv 3))) (pe_lst (pa_cons (pv 7) pa_nil))) (pe_slice sl_list (pv 0) (po_some (pe_op op_add (pv 3) pe_int)) po_none)) pa_nil)))))) pss_nil)
        hR5, ?_⟩
      intro H1 n p q v6 v7 s1 nq hp hq hw
      have i0 := Int.emod_nonneg (cell / 12) (show (5 : Int) ≠ 0 by decide)
      have i1 := Int.emod_lt_of_pos (cell / 12) (show (0 : Int) < 5 by decide)
      obtain ⟨d1, d2⟩ := dc p (List.mem_of_getElem? hp)
      have e1 := d1.len
      have e2 := d2.len
      have ew := word_len d1 d2
      have lA : (Str.ofString ",0").length = 2 := by decide +kernel
      have lB : (Str.ofString ";").length = 1 := by decide +kernel
      have lC : (Str.ofString ", ").length = 2 := by decide +kernel
      have lD : (Str.ofString ",").length = 1 := by decide +kernel
      have aw : atI ((ps.map wordOf).map V.str) (n : Int) = some (.str (wordOf p)) := atI_nat (by rw [List.getElem?_map, List.getElem?_map, hp]; rfl)
      by_cases c : way = 1
      · subst c
        have hl0 := s1 _ _ hl
        obtain ⟨z, hz, az⟩ := mem_at (xs := [dec p.1, wordOf p ++ Str.ofString ",0", dec p.1 ++ Str.ofString ";" ++ dec p.2, dec p.1 ++ Str.ofString ", " ++ dec p.2, Str.ofString ","]) (n := 5) rfl i0 i1
        have lz : z.length ≤ 100 := by
          simp only [List.mem_cons, List.not_mem_nil, or_false] at hz
          rcases hz with h | h | h | h | h
          · rw [h]; omega
          · rw [h, strLen_append]; omega
          · rw [h, strLen_append, strLen_append]; omega
          · rw [h, strLen_append, strLen_append]; omega
          · rw [h]; omega
        have bz : BadText (Txt.join ⟨#[32]⟩ ((ps.map wordOf).take n ++ z :: (ps.map wordOf).drop (n + 1))) := by
          simp only [List.mem_cons, List.not_mem_nil, or_false] at hz
          rcases hz with h | h | h | h | h
          · rw [h]; exact w1_0 bd lp hp
          · rw [h]; exact w1_1 bd lp hp
          · rw [h]; exact w1_2 bd lp hp
          · rw [h]; exact w1_3 bd lp hp
          · rw [h]; exact w1_4 bd lp
        refine ⟨_, rfl, rfl, true, is_kN, iteT ⟨_, rfl, q, _, _, _, rfl, rfl, SqL.of hq, atI_nat (j := 0) rfl, _, rfl, _, rfl, l, _, _, _, rfl, rfl, SqL.of hl0, aw, _, _, rfl, rfl, Nat.le_of_lt (small1000 (by omega)), _, rfl, q, _, _, _, rfl, rfl, SqL.of hq, atI_nat (j := 0) rfl, _, _, rfl, rfl, Nat.le_of_lt (small1000 (by omega)), _, rfl, q, _, _, _, rfl, rfl, SqL.of hq, atI_nat (j := 1) rfl, _, _, rfl, rfl, Nat.le_of_lt (small1000 (by rw [strLen_append]; omega)), _, rfl, q, _, _, _, rfl, rfl, SqL.of hq, atI_nat (j := 0) rfl, _, _, rfl, rfl, Nat.le_of_lt (small1000 (by omega)), _, rfl, q, _, _, _, rfl, rfl, SqL.of hq, atI_nat (j := 1) rfl, _, _, rfl, rfl, Nat.le_of_lt (small1000 (by rw [strLen_append]; omega)), (by show 5 ≤ sizeLine; decide), fun a6 n6 => ?_⟩⟩
        have t6 := same_upd (o := .lst [.str (dec p.1), .str (wordOf p ++ Str.ofString ",0"), .str (dec p.1 ++ Str.ofString ";" ++ dec p.2), .str (dec p.1 ++ Str.ofString ", " ++ dec p.2), .str (Str.ofString ",")]) (Same.refl H1) n6
        have g6 : (upd H1 a6 (.lst [.str (dec p.1), .str (wordOf p ++ Str.ofString ",0"), .str (dec p.1 ++ Str.ofString ";" ++ dec p.2), .str (dec p.1 ++ Str.ofString ", " ++ dec p.2), .str (Str.ofString ",")])) a6 = some (.lst [.str (dec p.1), .str (wordOf p ++ Str.ofString ",0"), .str (dec p.1 ++ Str.ofString ";" ++ dec p.2), .str (dec p.1 ++ Str.ofString ", " ++ dec p.2), .str (Str.ofString ",")]) := upd_same
        refine ⟨_, rfl, _, rfl, _, _, rfl, rfl, ⟨by decide, by decide⟩, _, _, rfl, rfl, (by show (0 : Int) < 5; decide), a6, _, _, _, rfl, rfl, SqL.of g6, az, ?_⟩
        have s6 := s1.trans t6
        have hq6 := t6 _ _ hq
        generalize (upd H1 a6 (.lst [.str (dec p.1), .str (wordOf p ++ Str.ofString ",0"), .str (dec p.1 ++ Str.ofString ";" ++ dec p.2), .str (dec p.1 ++ Str.ofString ", " ++ dec p.2), .str (Str.ofString ",")])) = H6 at *
        have hl1 := s6 _ _ hl
        refine ⟨rfl, _, rfl, _, rfl, _, rfl, l, _, rfl, SqL.of hl1, fun a1 n1 => ?_⟩
        rw [cut_toN, ← List.map_take]
        have t1 := same_upd (o := .lst (((ps.map wordOf).take n).map V.str)) (Same.refl H6) n1
        have g1 : (upd H6 a1 (.lst (((ps.map wordOf).take n).map V.str))) a1 = some (.lst (((ps.map wordOf).take n).map V.str)) := upd_same
        have hl2 := t1 _ _ hl1
        have ql2 := t1 _ _ hq6
        have u1 := s6.trans t1
        generalize (upd H6 a1 (.lst (((ps.map wordOf).take n).map V.str))) = J1 at *
        refine ⟨_, rfl, (by show 1 ≤ sizeLine; decide), fun a2 n2 => ?_⟩
        have t2 := same_upd (o := .lst [.str z]) (Same.refl J1) n2
        have g2 : (upd J1 a2 (.lst [.str z])) a2 = some (.lst [.str z]) := upd_same
        have g12 := t2 _ _ g1
        have u2 := u1.trans t2
        generalize (upd J1 a2 (.lst [.str z])) = J2 at *
        have lt : (((ps.map wordOf).take n).map V.str).length ≤ 12 := by rw [List.length_map, List.length_take, List.length_map]; omega
        refine ⟨a1, a2, _, _, rfl, rfl, g12, g2, Nat.le_of_lt (small1000 (by show _ + 1 ≤ 1000; omega)), fun a3 n3 => ?_⟩
        have t3 := same_upd (o := .lst (((ps.map wordOf).take n).map V.str ++ [.str z])) (Same.refl J2) n3
        have g3 : (upd J2 a3 (.lst (((ps.map wordOf).take n).map V.str ++ [.str z]))) a3 = some (.lst (((ps.map wordOf).take n).map V.str ++ [.str z])) := upd_same
        have u3 := u2.trans t3
        generalize (upd J2 a3 (.lst (((ps.map wordOf).take n).map V.str ++ [.str z]))) = J3 at *
        refine ⟨_, rfl, _, rfl, _, _, rfl, rfl, _, rfl, l, _, rfl, SqL.of (u3 _ _ hl), fun a4 n4 => ?_⟩
        rw [show ((n : Int) + 1) = ((n + 1 : Nat) : Int) by omega]
        rw [cut_offN, ← List.map_drop]
        have t4 := same_upd (o := .lst (((ps.map wordOf).drop (n + 1)).map V.str)) (Same.refl J3) n4
        have g4 : (upd J3 a4 (.lst (((ps.map wordOf).drop (n + 1)).map V.str))) a4 = some (.lst (((ps.map wordOf).drop (n + 1)).map V.str)) := upd_same
        have g34 := t4 _ _ g3
        have u4 := u3.trans t4
        generalize (upd J3 a4 (.lst (((ps.map wordOf).drop (n + 1)).map V.str))) = J4 at *
        have ld : (((ps.map wordOf).drop (n + 1)).map V.str).length ≤ 12 := by rw [List.length_map, List.length_drop, List.length_map]; omega
        have ee : (((ps.map wordOf).take n).map V.str ++ [.str z]) ++ ((ps.map wordOf).drop (n + 1)).map V.str = ((ps.map wordOf).take n ++ z :: (ps.map wordOf).drop (n + 1)).map V.str := by simp
        refine ⟨a3, a4, _, _, rfl, rfl, g34, g4, Nat.le_of_lt (small1000 (by rw [List.length_append]; show _ + 1 + _ ≤ 1000; omega)), fun a5 n5 => ?_⟩
        rw [ee]
        have t5 := same_upd (o := .lst (((ps.map wordOf).take n ++ z :: (ps.map wordOf).drop (n + 1)).map V.str)) (Same.refl J4) n5
        have jo : (((ps.map wordOf).take n ++ z :: (ps.map wordOf).drop (n + 1)).map (·.length)).sum + ((ps.map wordOf).take n ++ z :: (ps.map wordOf).drop (n + 1)).length ≤ 1000 := three_len dc lp lz
        refine ⟨_, a5, _, rfl, rfl, SqL.of upd_same, (by rw [blank_sign]; exact join_ok jo), ?_⟩
        rw [blank_sign]
        exact k _ _ (u4.trans t5) bz
      · exact ⟨_, rfl, rfl, false, no_kN c, iteF (rest5 H1 n p q v6 v7 s1 nq hp hq trivial)⟩
    obtain ⟨t4, hR4, rest4⟩ := R4
    have R3 : ∃ t, PSs (cxOf CX0 P w K mg base n_sSpoil "_law_spoiled" (defScope sSpoil) f cdv A outer s H E).nox (List.drop 3 (defBody sSpoil)) t ∧
        ∀ (H1 : Hp) (n : Nat) (p : Pt) (q : Addr) (v6 v7 : Option V), Same H H1 → H q = none → ps[n]? = some p → H1 q = some (.lst [.str (dec p.1), .str (dec p.2)]) → (True) →
          t { nx := fun _ H' => Q .non H', rt := Q } [some (.ref l), some (.int way), some (.int cell), some (.int (n : Int)), some (.ref q), some (.str (txt ps)), v6, v7] H1 := by
      refine ⟨_, pss_cons (ps_if (pt_cmpR op_eq (pv 1) pe_int (nomark _)) (pss_cons (ps_set (i := 6) scSpoil.nd rfl (Or.inl rfl) (pe_lst (pa_cons pe_str (pa_cons pe_str (pa_cons pe_str (pa_cons pe_str (pa_cons pe_str (pa_cons pe_str (pa_cons pe_str (pa_cons pe_str pa_nil)))))))))) (pss_cons (ps_set (i := 6) scSpoil.nd rfl (Or.inl rfl) (pe_op op_cat (pv 6) (pe_lst (pa_cons pe_str (pa_cons pe_str (pa_cons pe_str (pa_cons pe_str (pa_cons pe_str (pa_cons pe_str (pa_cons pe_str (pa_cons pe_str pa_nil))))))))))) (pss_cons (ps_asg (pe_ix ix_list (pv 6) (pe_op op_mod (pe_op op_fdiv (pv 2) pe_int) pe_int) (fun _ _ => rfl)) (pg_sub (pv 4) (pe_op op_mod (pe_op op_fdiv (pv 2) pe_int) pe_int) set_list)) (pss_one (ps_ret (pe_bm PySem.F.plainAttrs_str PySem.F.slot_str_join PySem.F.type_str_join mt_join pe_str (pa_cons (pe_op op_cat (pe_op op_cat (pe_slice sl_list (pv 0) po_none (po_some (pv 3))) (pe_lst (pa_cons (pe_bm PySem.F.plainAttrs_str PySem.F.slot_str_join PySem.F.type_str_join mt_join pe_str (pa_cons (pv 4) pa_nil)) pa_nil))) (pe_slice sl_list (pv 0) (po_some (pe_op op_add (pv 3) pe_int)) po_none)) pa_nil))))))) pss_nil)
        hR4, ?_⟩
      intro H1 n p q v6 v7 s1 nq hp hq hw
      have i0 := Int.emod_nonneg (cell / 24) (show (16 : Int) ≠ 0 by decide)
      have i1 := Int.emod_lt_of_pos (cell / 24) (show (0 : Int) < 16 by decide)
      obtain ⟨d1, d2⟩ := dc p (List.mem_of_getElem? hp)
      have e1 := d1.len
      have e2 := d2.len
      by_cases c : way = 0
      · subst c
        obtain ⟨b, mb, ab⟩ := mem_at (xs := pieces) (n := 16) rfl i0 i1
        have eb := (piece_of mb).len
        refine ⟨_, rfl, rfl, true, is_kN, iteT ⟨(by show 8 ≤ sizeLine; decide), fun a6 n6 => ?_⟩⟩
        have t6 := same_upd (o := .lst [.str (Str.ofString "1001"), .str (Str.ofString "-1001"), .str (Str.ofString "99999"), .str (Str.ofString "00"), .str (Str.ofString "01"), .str (Str.ofString "-0"), .str (Str.ofString "-01"), .str (Str.ofString "+1")]) (Same.refl H1) n6
        have g6 : (upd H1 a6 (.lst [.str (Str.ofString "1001"), .str (Str.ofString "-1001"), .str (Str.ofString "99999"), .str (Str.ofString "00"), .str (Str.ofString "01"), .str (Str.ofString "-0"), .str (Str.ofString "-01"), .str (Str.ofString "+1")])) a6 = some (.lst [.str (Str.ofString "1001"), .str (Str.ofString "-1001"), .str (Str.ofString "99999"), .str (Str.ofString "00"), .str (Str.ofString "01"), .str (Str.ofString "-0"), .str (Str.ofString "-01"), .str (Str.ofString "+1")]) := upd_same
        have s6 := s1.trans t6
        have hq6 := t6 _ _ hq
        generalize (upd H1 a6 (.lst [.str (Str.ofString "1001"), .str (Str.ofString "-1001"), .str (Str.ofString "99999"), .str (Str.ofString "00"), .str (Str.ofString "01"), .str (Str.ofString "-0"), .str (Str.ofString "-01"), .str (Str.ofString "+1")])) = H6 at *
        refine ⟨_, rfl, (by show 8 ≤ sizeLine; decide), fun a7 n7 => ?_⟩
        have t7 := same_upd (o := .lst [.str (Str.ofString "--1"), .str (Str.ofString ""), .str (Str.ofString "-"), .str (Str.ofString "x"), .str (Str.ofString "1_0"), .str (Str.ofString "1.0"), .str (Str.ofString "1\t"), .str (Str.ofString "1e1")]) (Same.refl H6) n7
        have g7 : (upd H6 a7 (.lst [.str (Str.ofString "--1"), .str (Str.ofString ""), .str (Str.ofString "-"), .str (Str.ofString "x"), .str (Str.ofString "1_0"), .str (Str.ofString "1.0"), .str (Str.ofString "1\t"), .str (Str.ofString "1e1")])) a7 = some (.lst [.str (Str.ofString "--1"), .str (Str.ofString ""), .str (Str.ofString "-"), .str (Str.ofString "x"), .str (Str.ofString "1_0"), .str (Str.ofString "1.0"), .str (Str.ofString "1\t"), .str (Str.ofString "1e1")]) := upd_same
        have g67 := t7 _ _ g6
        have s7 := s6.trans t7
        have hq7 := t7 _ _ hq6
        generalize (upd H6 a7 (.lst [.str (Str.ofString "--1"), .str (Str.ofString ""), .str (Str.ofString "-"), .str (Str.ofString "x"), .str (Str.ofString "1_0"), .str (Str.ofString "1.0"), .str (Str.ofString "1\t"), .str (Str.ofString "1e1")])) = H7 at *
        refine ⟨a6, a7, _, _, rfl, rfl, g67, g7, (by show 16 ≤ sizeLine; decide), fun a8 n8 => ?_⟩
        have t8' := same_upd (o := .lst ([.str (Str.ofString "1001"), .str (Str.ofString "-1001"), .str (Str.ofString "99999"), .str (Str.ofString "00"), .str (Str.ofString "01"), .str (Str.ofString "-0"), .str (Str.ofString "-01"), .str (Str.ofString "+1")] ++ [.str (Str.ofString "--1"), .str (Str.ofString ""), .str (Str.ofString "-"), .str (Str.ofString "x"), .str (Str.ofString "1_0"), .str (Str.ofString "1.0"), .str (Str.ofString "1\t"), .str (Str.ofString "1e1")])) (Same.refl H7) n8
        have g8 : (upd H7 a8 (.lst ([.str (Str.ofString "1001"), .str (Str.ofString "-1001"), .str (Str.ofString "99999"), .str (Str.ofString "00"), .str (Str.ofString "01"), .str (Str.ofString "-0"), .str (Str.ofString "-01"), .str (Str.ofString "+1")] ++ [.str (Str.ofString "--1"), .str (Str.ofString ""), .str (Str.ofString "-"), .str (Str.ofString "x"), .str (Str.ofString "1_0"), .str (Str.ofString "1.0"), .str (Str.ofString "1\t"), .str (Str.ofString "1e1")]))) a8 = some (.lst ([.str (Str.ofString "1001"), .str (Str.ofString "-1001"), .str (Str.ofString "99999"), .str (Str.ofString "00"), .str (Str.ofString "01"), .str (Str.ofString "-0"), .str (Str.ofString "-01"), .str (Str.ofString "+1")] ++ [.str (Str.ofString "--1"), .str (Str.ofString ""), .str (Str.ofString "-"), .str (Str.ofString "x"), .str (Str.ofString "1_0"), .str (Str.ofString "1.0"), .str (Str.ofString "1\t"), .str (Str.ofString "1e1")])) := upd_same
        have s8 := s7.trans t8'
        have hq8 := t8' _ _ hq7
        generalize (upd H7 a8 (.lst ([.str (Str.ofString "1001"), .str (Str.ofString "-1001"), .str (Str.ofString "99999"), .str (Str.ofString "00"), .str (Str.ofString "01"), .str (Str.ofString "-0"), .str (Str.ofString "-01"), .str (Str.ofString "+1")] ++ [.str (Str.ofString "--1"), .str (Str.ofString ""), .str (Str.ofString "-"), .str (Str.ofString "x"), .str (Str.ofString "1_0"), .str (Str.ofString "1.0"), .str (Str.ofString "1\t"), .str (Str.ofString "1e1")]))) = H8 at *
        refine ⟨_, rfl, _, rfl, _, _, rfl, rfl, ⟨by decide, by decide⟩, _, _, rfl, rfl, (by show (0 : Int) < 16; decide), a8, _, _, _, rfl, rfl, SqL.of g8, ab, ?_⟩
        refine ⟨_, rfl, _, rfl, _, _, rfl, rfl, ⟨by decide, by decide⟩, _, _, rfl, rfl, (by show (0 : Int) < 2; decide), ?_⟩
        have par : cell / 12 % 2 = 0 ∨ cell / 12 % 2 = 1 := by omega
        rcases par with par | par
        · show rSetL (V.ref q) (V.int (cell / 12 % 2)) (V.str b) _ _
          rw [par]
          refine ⟨q, _, 0, 0, rfl, rfl, hq8, rfl, ?_⟩
          have jp : (([b, dec p.2] : List Str).map (·.length)).sum + ([b, dec p.2] : List Str).length ≤ 1000 := by simp; omega
          have lx : (Txt.join ⟨#[44]⟩ [b, dec p.2]).length ≤ 100 := by rw [two_len]; omega
          have s9 : Same H (upd H8 q (.lst (([.str (dec p.1), .str (dec p.2)] : List V).set 0 (.str b)))) := same_upd s8 nq
          have hq9 : (upd H8 q (.lst (([.str (dec p.1), .str (dec p.2)] : List V).set 0 (.str b)))) q = some (.lst [.str b, .str (dec p.2)]) := upd_same
          generalize (upd H8 q (.lst (([.str (dec p.1), .str (dec p.2)] : List V).set 0 (.str b)))) = H9 at *
          have hl1 := s9 _ _ hl
          refine ⟨rfl, _, rfl, _, rfl, _, rfl, l, _, rfl, SqL.of hl1, fun a1 n1 => ?_⟩
          rw [cut_toN, ← List.map_take]
          have t1 := same_upd (o := .lst (((ps.map wordOf).take n).map V.str)) (Same.refl H9) n1
          have g1 : (upd H9 a1 (.lst (((ps.map wordOf).take n).map V.str))) a1 = some (.lst (((ps.map wordOf).take n).map V.str)) := upd_same
          have hl2 := t1 _ _ hl1
          have ql2 := t1 _ _ hq9
          have u1 := s9.trans t1
          generalize (upd H9 a1 (.lst (((ps.map wordOf).take n).map V.str))) = J1 at *
          refine ⟨rfl, _, rfl, _, q, [b, dec p.2], rfl, rfl, SqL.of ql2, (by rw [comma_sign]; exact join_ok jp), (by show 1 ≤ sizeLine; decide), fun a2 n2 => ?_⟩
          rw [comma_sign]
          have t2 := same_upd (o := .lst [.str (Txt.join ⟨#[44]⟩ [b, dec p.2])]) (Same.refl J1) n2
          have g2 : (upd J1 a2 (.lst [.str (Txt.join ⟨#[44]⟩ [b, dec p.2])])) a2 = some (.lst [.str (Txt.join ⟨#[44]⟩ [b, dec p.2])]) := upd_same
          have g12 := t2 _ _ g1
          have u2 := u1.trans t2
          generalize (upd J1 a2 (.lst [.str (Txt.join ⟨#[44]⟩ [b, dec p.2])])) = J2 at *
          have lt : (((ps.map wordOf).take n).map V.str).length ≤ 12 := by rw [List.length_map, List.length_take, List.length_map]; omega
          refine ⟨a1, a2, _, _, rfl, rfl, g12, g2, Nat.le_of_lt (small1000 (by show _ + 1 ≤ 1000; omega)), fun a3 n3 => ?_⟩
          have t3 := same_upd (o := .lst (((ps.map wordOf).take n).map V.str ++ [.str (Txt.join ⟨#[44]⟩ [b, dec p.2])])) (Same.refl J2) n3
          have g3 : (upd J2 a3 (.lst (((ps.map wordOf).take n).map V.str ++ [.str (Txt.join ⟨#[44]⟩ [b, dec p.2])]))) a3 = some (.lst (((ps.map wordOf).take n).map V.str ++ [.str (Txt.join ⟨#[44]⟩ [b, dec p.2])])) := upd_same
          have u3 := u2.trans t3
          generalize (upd J2 a3 (.lst (((ps.map wordOf).take n).map V.str ++ [.str (Txt.join ⟨#[44]⟩ [b, dec p.2])]))) = J3 at *
          refine ⟨_, rfl, _, rfl, _, _, rfl, rfl, _, rfl, l, _, rfl, SqL.of (u3 _ _ hl), fun a4 n4 => ?_⟩
          rw [show ((n : Int) + 1) = ((n + 1 : Nat) : Int) by omega]
          rw [cut_offN, ← List.map_drop]
          have t4 := same_upd (o := .lst (((ps.map wordOf).drop (n + 1)).map V.str)) (Same.refl J3) n4
          have g4 : (upd J3 a4 (.lst (((ps.map wordOf).drop (n + 1)).map V.str))) a4 = some (.lst (((ps.map wordOf).drop (n + 1)).map V.str)) := upd_same
          have g34 := t4 _ _ g3
          have u4 := u3.trans t4
          generalize (upd J3 a4 (.lst (((ps.map wordOf).drop (n + 1)).map V.str))) = J4 at *
          have ld : (((ps.map wordOf).drop (n + 1)).map V.str).length ≤ 12 := by rw [List.length_map, List.length_drop, List.length_map]; omega
          have ee : (((ps.map wordOf).take n).map V.str ++ [.str (Txt.join ⟨#[44]⟩ [b, dec p.2])]) ++ ((ps.map wordOf).drop (n + 1)).map V.str = ((ps.map wordOf).take n ++ (Txt.join ⟨#[44]⟩ [b, dec p.2]) :: (ps.map wordOf).drop (n + 1)).map V.str := by simp
          refine ⟨a3, a4, _, _, rfl, rfl, g34, g4, Nat.le_of_lt (small1000 (by rw [List.length_append]; show _ + 1 + _ ≤ 1000; omega)), fun a5 n5 => ?_⟩
          rw [ee]
          have t5 := same_upd (o := .lst (((ps.map wordOf).take n ++ (Txt.join ⟨#[44]⟩ [b, dec p.2]) :: (ps.map wordOf).drop (n + 1)).map V.str)) (Same.refl J4) n5
          have jo : (((ps.map wordOf).take n ++ (Txt.join ⟨#[44]⟩ [b, dec p.2]) :: (ps.map wordOf).drop (n + 1)).map (·.length)).sum + ((ps.map wordOf).take n ++ (Txt.join ⟨#[44]⟩ [b, dec p.2]) :: (ps.map wordOf).drop (n + 1)).length ≤ 1000 := three_len dc lp lx
          refine ⟨_, a5, _, rfl, rfl, SqL.of upd_same, (by rw [blank_sign]; exact join_ok jo), ?_⟩
          rw [blank_sign]
          exact k _ _ (u4.trans t5) (w0a bd lp hp mb)
        · show rSetL (V.ref q) (V.int (cell / 12 % 2)) (V.str b) _ _
          rw [par]
          refine ⟨q, _, 1, 1, rfl, rfl, hq8, rfl, ?_⟩
          have jp : (([dec p.1, b] : List Str).map (·.length)).sum + ([dec p.1, b] : List Str).length ≤ 1000 := by simp; omega
          have lx : (Txt.join ⟨#[44]⟩ [dec p.1, b]).length ≤ 100 := by rw [two_len]; omega
          have s9 : Same H (upd H8 q (.lst (([.str (dec p.1), .str (dec p.2)] : List V).set 1 (.str b)))) := same_upd s8 nq
          have hq9 : (upd H8 q (.lst (([.str (dec p.1), .str (dec p.2)] : List V).set 1 (.str b)))) q = some (.lst [.str (dec p.1), .str b]) := upd_same
          generalize (upd H8 q (.lst (([.str (dec p.1), .str (dec p.2)] : List V).set 1 (.str b)))) = H9 at *
          have hl1 := s9 _ _ hl
          refine ⟨rfl, _, rfl, _, rfl, _, rfl, l, _, rfl, SqL.of hl1, fun a1 n1 => ?_⟩
          rw [cut_toN, ← List.map_take]
          have t1 := same_upd (o := .lst (((ps.map wordOf).take n).map V.str)) (Same.refl H9) n1
          have g1 : (upd H9 a1 (.lst (((ps.map wordOf).take n).map V.str))) a1 = some (.lst (((ps.map wordOf).take n).map V.str)) := upd_same
          have hl2 := t1 _ _ hl1
          have ql2 := t1 _ _ hq9
          have u1 := s9.trans t1
          generalize (upd H9 a1 (.lst (((ps.map wordOf).take n).map V.str))) = J1 at *
          refine ⟨rfl, _, rfl, _, q, [dec p.1, b], rfl, rfl, SqL.of ql2, (by rw [comma_sign]; exact join_ok jp), (by show 1 ≤ sizeLine; decide), fun a2 n2 => ?_⟩
          rw [comma_sign]
          have t2 := same_upd (o := .lst [.str (Txt.join ⟨#[44]⟩ [dec p.1, b])]) (Same.refl J1) n2
          have g2 : (upd J1 a2 (.lst [.str (Txt.join ⟨#[44]⟩ [dec p.1, b])])) a2 = some (.lst [.str (Txt.join ⟨#[44]⟩ [dec p.1, b])]) := upd_same
          have g12 := t2 _ _ g1
          have u2 := u1.trans t2
          generalize (upd J1 a2 (.lst [.str (Txt.join ⟨#[44]⟩ [dec p.1, b])])) = J2 at *
          have lt : (((ps.map wordOf).take n).map V.str).length ≤ 12 := by rw [List.length_map, List.length_take, List.length_map]; omega
          refine ⟨a1, a2, _, _, rfl, rfl, g12, g2, Nat.le_of_lt (small1000 (by show _ + 1 ≤ 1000; omega)), fun a3 n3 => ?_⟩
          have t3 := same_upd (o := .lst (((ps.map wordOf).take n).map V.str ++ [.str (Txt.join ⟨#[44]⟩ [dec p.1, b])])) (Same.refl J2) n3
          have g3 : (upd J2 a3 (.lst (((ps.map wordOf).take n).map V.str ++ [.str (Txt.join ⟨#[44]⟩ [dec p.1, b])]))) a3 = some (.lst (((ps.map wordOf).take n).map V.str ++ [.str (Txt.join ⟨#[44]⟩ [dec p.1, b])])) := upd_same
          have u3 := u2.trans t3
          generalize (upd J2 a3 (.lst (((ps.map wordOf).take n).map V.str ++ [.str (Txt.join ⟨#[44]⟩ [dec p.1, b])]))) = J3 at *
          refine ⟨_, rfl, _, rfl, _, _, rfl, rfl, _, rfl, l, _, rfl, SqL.of (u3 _ _ hl), fun a4 n4 => ?_⟩
          rw [show ((n : Int) + 1) = ((n + 1 : Nat) : Int) by omega]
          rw [cut_offN, ← List.map_drop]
          have t4 := same_upd (o := .lst (((ps.map wordOf).drop (n + 1)).map V.str)) (Same.refl J3) n4
          have g4 : (upd J3 a4 (.lst (((ps.map wordOf).drop (n + 1)).map V.str))) a4 = some (.lst (((ps.map wordOf).drop (n + 1)).map V.str)) := upd_same
          have g34 := t4 _ _ g3
          have u4 := u3.trans t4
          generalize (upd J3 a4 (.lst (((ps.map wordOf).drop (n + 1)).map V.str))) = J4 at *
          have ld : (((ps.map wordOf).drop (n + 1)).map V.str).length ≤ 12 := by rw [List.length_map, List.length_drop, List.length_map]; omega
          have ee : (((ps.map wordOf).take n).map V.str ++ [.str (Txt.join ⟨#[44]⟩ [dec p.1, b])]) ++ ((ps.map wordOf).drop (n + 1)).map V.str = ((ps.map wordOf).take n ++ (Txt.join ⟨#[44]⟩ [dec p.1, b]) :: (ps.map wordOf).drop (n + 1)).map V.str := by simp
          refine ⟨a3, a4, _, _, rfl, rfl, g34, g4, Nat.le_of_lt (small1000 (by rw [List.length_append]; show _ + 1 + _ ≤ 1000; omega)), fun a5 n5 => ?_⟩
          rw [ee]
          have t5 := same_upd (o := .lst (((ps.map wordOf).take n ++ (Txt.join ⟨#[44]⟩ [dec p.1, b]) :: (ps.map wordOf).drop (n + 1)).map V.str)) (Same.refl J4) n5
          have jo : (((ps.map wordOf).take n ++ (Txt.join ⟨#[44]⟩ [dec p.1, b]) :: (ps.map wordOf).drop (n + 1)).map (·.length)).sum + ((ps.map wordOf).take n ++ (Txt.join ⟨#[44]⟩ [dec p.1, b]) :: (ps.map wordOf).drop (n + 1)).length ≤ 1000 := three_len dc lp lx
          refine ⟨_, a5, _, rfl, rfl, SqL.of upd_same, (by rw [blank_sign]; exact join_ok jo), ?_⟩
          rw [blank_sign]
          exact k _ _ (u4.trans t5) (w0b bd lp hp mb)
      · exact ⟨_, rfl, rfl, false, no_kN c, iteF (rest4 H1 n p q v6 v7 s1 nq hp hq trivial)⟩
    obtain ⟨t3, hR3, rest3⟩ := R3
    refine ⟨_, pss_cons (ps_set (i := 3) scSpoil.nd rfl (Or.inl rfl) (pe_op op_mod (pv 2) (pe_callB call_len_seq rfl T.len PySem.boot_len (pa_cons (pv 0) pa_nil))))
      (pss_cons (ps_set (i := 4) scSpoil.nd rfl (Or.inl rfl) (pe_bm PySem.F.plainAttrs_str PySem.F.slot_str_split PySem.F.type_str_split mt_split (pe_ix ix_list (pv 0) (pv 3) (fun _ _ => rfl)) (pa_cons pe_str pa_nil)))
      (pss_cons (ps_set (i := 5) scSpoil.nd rfl (Or.inl rfl) (pe_bm PySem.F.plainAttrs_str PySem.F.slot_str_join PySem.F.type_str_join mt_join pe_str (pa_cons (pv 0) pa_nil)))
      hR3)), ?_⟩
    have ll : ((ps.map wordOf).map V.str).length = ps.length := by simp
    refine ⟨_, rfl, _, rfl, l, _, rfl, .inl (SqL.of hl), _, _, rfl, rfl, (by show (0 : Int) < (((ps.map wordOf).map V.str).length : Int); omega), ?_⟩
    show gName 3 (V.int (cell % (((ps.map wordOf).map V.str).length : Int))) _ _ _
    have n0 := Int.emod_nonneg cell (show (((ps.map wordOf).map V.str).length : Int) ≠ 0 by omega)
    have n1 := Int.emod_lt_of_pos cell (show (0 : Int) < (((ps.map wordOf).map V.str).length : Int) by omega)
    obtain ⟨n, en⟩ : ∃ n : Nat, cell % (((ps.map wordOf).map V.str).length : Int) = (n : Int) := ⟨_, (Int.toNat_of_nonneg n0).symm⟩
    rw [en]
    have hn : n < ps.length := by omega
    have hp : ps[n]? = some ps[n] := List.getElem?_eq_getElem hn
    generalize ps[n] = p at hp
    obtain ⟨d1, d2⟩ := dc p (List.mem_of_getElem? hp)
    have ew := word_len d1 d2
    have ws := word_split d1 d2
    have aw : atI ((ps.map wordOf).map V.str) (n : Int) = some (.str (wordOf p)) := atI_nat (by rw [List.getElem?_map, List.getElem?_map, hp]; rfl)
    refine ⟨_, rfl, _, rfl, l, _, _, _, rfl, rfl, SqL.of hl, aw, rfl, wordOf p, _, rfl, rfl, rfl, fits ew (by decide), ?_, ?_, fun q nq => ?_⟩
    · rw [length_partsBetween]
      have := PySem.StrLaws.occ_length_le (wordOf p) (Str.ofString ",") 0 (wordOf p).length ((wordOf p).length + 1)
      exact Nat.le_of_lt (small1000 (by omega))
    · rw [comma_sign, ws]; exact Nat.le_of_lt (small1000 (by show 2 ≤ 1000; decide))
    rw [comma_sign, ws]
    have s1 := same_upd (o := .lst ([dec p.1, dec p.2].map V.str)) (Same.refl H) nq
    have hq : (upd H q (.lst ([dec p.1, dec p.2].map V.str))) q = some (.lst [.str (dec p.1), .str (dec p.2)]) := upd_same
    generalize (upd H q (.lst ([dec p.1, dec p.2].map V.str))) = H1 at *
    refine ⟨rfl, _, rfl, _, l, ps.map wordOf, rfl, rfl, SqL.of (s1 _ _ hl), (by rw [blank_sign]; exact join_ok (by have := word_sum dc; simp only [List.length_map]; omega)), ?_⟩
    rw [blank_sign]
    exact rest3 H1 n p q none none s1 nq hp hq trivial
end
end Toy
set_option maxRecDepth 100000
namespace Toy
open PySem L2 Geo
section
variable {P : Program} {w : World} {K : PySem.W.Frag} {mg : Str → Option Value} {base : Heap} {cH cP cS cF cM cN : Addr}
def spTried (K : PySem.W.Frag) : Sp := fun vs H Q _ => ∃ z d, vs = [.str z] ∧ ((∃ ps : List Pt, z = textOf ps ∧ ps ≠ [] ∧ ps.length ≤ 12 ∧ (∀ q ∈ ps, Bd q) ∧ d = ("read" : Str)) ∨ (BadText z ∧ d = ("note" : Str))) ∧ ∀ H', Same H H' → Q (.str d) H'
abbrev n_sTried : List Str := ["text", "e"]
theorem scTried : FnScope n_sTried ["text"] (defScope sTried) := ⟨rfl, rfl, rfl, by decide +kernel, rfl, by decide +kernel, by decide +kernel⟩
theorem ok_tried {f g1 g2 : Addr} {fd d1 d2 : FuncData} (F : Fun K "_law_tried" "_law_tried" sTried f fd) (_ : Txt mg) (X : Excs K mg cH cP cS cF cM cN)
    (R0 : FnOk P w K mg base (CXR AnyF P w) 3 g1 d1 ["text"] (spReadX K cN)) (b1 : Binds K d1 ["text"] []) (k1 : PySem.W.keepIn K (.ref g1) = true) (m1 : mg "read" = some (.ref g1))
    (Kd : FnOkH P w K mg base 1 g2 d2 ["e"] (spKind K cH cP cS cF cM cN)) (b2 : Binds K d2 ["e"] []) (k2 : PySem.W.keepIn K (.ref g2) = true) (m2 : mg "_law_kind" = some (.ref g2)) :
    FnOk P w K mg base CX0 4 f fd ["text"] (spTried K) := by
  have R := FnOk.toE R0
  refine F.ok scTried (fun vs H Q E h => ?_) (fun cdv A outer s H vs Q E hr h => ?_)
  · obtain ⟨z, d, rfl, _⟩ := h; rfl
  · obtain ⟨z, d, rfl, du, kk⟩ := h
    have hr1 : Room 1 _ := hr.mono (by decide)
    refine ⟨_, pss_cons (ps_tryE (i := 1) (CH := cH) (Mt := fun c => ∃ j, KindIs K cH cP cS cF cM cN c j) (fun kin c ⟨_, o⟩ => o.ok.catches kin) rfl rfl rfl
        (fun E' pn' xe' hp => pss_one (ps_expr (pe_call R hr rfl m1 k1 b1 .nil hp (pa_cons (pv 0) pa_nil))))
        rfl X.mH scTried.nd rfl rfl (fun a => pss_one (ps_ret (pe_callH Kd (hr1.h.mark _) rfl m2 k2 b2 (pa_cons (pv 1) pa_nil)))))
      (pss_one (ps_ret pe_str)), ?_⟩
    rcases du with ⟨ps, rfl, ne, lp, bd, e⟩ | ⟨bt, e⟩
    · have to := text_ok (fun p hp => bd_dec (bd p hp)) lp
      exact ⟨_, rfl, _, rfl, by have := to.2; omega, .inl ⟨ps, rfl, ne, lp, bd, fun v H1 s1 => by rw [e] at kk; exact kk H1 s1⟩⟩
    · refine ⟨_, rfl, z, rfl, bt.len, .inr ⟨bt.ne, bt.un, fun H1 s1 => ⟨⟨cN, rfl, 4, X.isN⟩, fun σ' y ly ny => ?_⟩⟩⟩
      have ly' : σ'.length = 2 := ly
      refine ⟨_, List.getElem?_set_self (by omega), y, cN, 4, rfl, upd_same, X.isN, fun H2 s2 => ?_⟩
      rw [e] at kk
      exact kk H2 (s1.trans ((same_upd (Same.refl H1) ny).trans s2))
def ifTest : Stmt → Expr
  | .If c _ _ _ => c
  | _ => .Constant .none 0 ⟨0, 0, 0, 0⟩
def ifPos : Stmt → Pos
  | .If _ _ _ p => p
  | _ => ⟨0, 0, 0, 0⟩
def spLaw (K : PySem.W.Frag) : Sp := fun vs H Q _ => ∃ (a : Addr) (ns : List Int), vs = [.ref a] ∧ SqL K H a (ns.map V.int) ∧ ns.length ≤ 63 ∧ ∀ H', Q (.bl true) H'
abbrev n_sLaw : List Str := ["script", "points", "words", "bad", "some"]
theorem scL : FnScope n_sLaw ["script"] (defScope sLaw) := ⟨rfl, rfl, rfl, by decide +kernel, rfl, by decide +kernel, by decide +kernel⟩
abbrev c_lwd : Scope := { kind := .function, names := [(".0", .local), ("point", .local), ("str", .globalImplicit)], isGenerator := false, isCoroutine := false }
theorem cs_lwd {cdv : Value} {A : Around} {outer : List Env} {s : Shared} {H : Hp} {E : XK} {f : Addr} : CompScope (cxOf CX0 P w K mg base n_sLaw "law" (defScope sLaw) f cdv A outer s H E).nox c_lwd ["point"] [none] where
  kind := rfl
  nocell := by decide +kernel
  names := by decide +kernel
  frees := by show ∀ z ∈ c_lwd.names, z.2 = .free → (defScope sLaw).names.lookup z.1 = some .cell; decide +kernel
  nd := by decide +kernel
  len := rfl
  cap := fun i j h => match i, h with
    | 0, h => by simp at h
    | n + 1, h => by simp at h
theorem nd_lwd : (["point"] : List Str).Nodup := by decide +kernel
def tStrs : List Str → TA
  | [] => tNil
  | z :: l => tCons (tC (.str z)) (tStrs l)
theorem pa_strs {X : Cx} : ∀ l : List (Str × Nat × Pos), PA X (l.map fun z => .Constant (.str z.1) z.2.1 z.2.2) (tStrs (l.map (·.1)))
  | [] => pa_nil
  | _ :: l => pa_cons pe_str (pa_strs l)
theorem tStrs_mk : ∀ (l : List Str) {σ : St} {H : Hp} {Q : List V → Hp → Prop}, Q (l.map V.str) H → tStrs l σ H Q
  | [], _, _, _, h => h
  | z :: l, _, _, _, h => tStrs_mk l (Q := fun vs H1 => _) h
theorem pss_strs {X : Cx} {i : Nat} {x : Str} {p1 p2 p3 : Pos} {es : List Expr} {s2 : Stmt} {t2 : TS} {body : List Stmt} (l : List (Str × Nat × Pos)) (hb : body = [.Assign [.Name x p1] (.List es p2) p3, s2]) (he : es = l.map fun z => .Constant (.str z.1) z.2.1 z.2.2)
    (hN : X.N.Nodup) (hi : X.N[i]? = some x) (hx : Loc X.env.scope x) (hf : X.fn x = true) (h2 : PS X s2 t2) : PSs X body (tSeq (tAsg (tLst (tStrs (l.map (·.1)))) (gName i)) t2) := by
  subst he
  subst hb
  exact pss_cons (ps_set hN hi hx (pe_lst (pa_strs l)) rfl (.inl hf)) (pss_one h2)
theorem str_ne (d : Str) : V.bl (!decide (V.str d = V.str d)) = V.bl false := by rw [decide_eq_true rfl]; rfl
set_option maxHeartbeats 0 in
theorem ok_law {f g1 g2 g3 g4 g5 : Addr} {fd d1 d2 d3 d4 d5 : FuncData} (F : Fun K "law" "law" sLaw f fd) (T : Txt mg)
    (N : FnOk P w K mg base CX0 2 g1 d1 ["script", "at", "most"] (spPts K)) (b1 : Binds K d1 ["script", "at", "most"] []) (k1 : PySem.W.keepIn K (.ref g1) = true) (m1 : mg "_law_points" = some (.ref g1))
    (C : FnOk P w K mg base CX0 1 g2 d2 ["script", "k"] (spCell K)) (b2 : Binds K d2 ["script", "k"] []) (k2 : PySem.W.keepIn K (.ref g2) = true) (m2 : mg "_law_cell_at" = some (.ref g2))
    (B : FnOk P w K mg base CX0 1 g3 d3 ["words", "way", "cell"] (spSpoil K)) (b3 : Binds K d3 ["words", "way", "cell"] []) (k3 : PySem.W.keepIn K (.ref g3) = true) (m3 : mg "_law_spoiled" = some (.ref g3))
    (R : FnOk P w K mg base CX0 4 g4 d4 ["text"] (spTried K)) (b4 : Binds K d4 ["text"] []) (k4 : PySem.W.keepIn K (.ref g4) = true) (m4 : mg "_law_tried" = some (.ref g4))
    (X : FnOk P w K mg base CX0 1 g5 d5 ["points"] (spText K)) (b5 : Binds K d5 ["points"] []) (k5 : PySem.W.keepIn K (.ref g5) = true) (m5 : mg "_law_text" = some (.ref g5)) :
    FnOk P w K mg base CX0 5 f fd ["script"] (spLaw K) := by
  refine F.ok scL (fun vs H Q E h => ?_) (fun cdv A outer s H vs Q E hr h => ?_)
  · obtain ⟨a, ns, rfl, _⟩ := h; rfl
  · obtain ⟨a, ns, rfl, hq, hl, k⟩ := h
    have hr2 : Room 2 _ := hr.mono (by decide)
    have hr1 : Room 1 _ := hr.mono (by decide)
    have REST : ∃ t, PSs (cxOf CX0 P w K mg base n_sLaw "law" (defScope sLaw) f cdv A outer s H E).nox (List.drop 4 (defBody sLaw)) t ∧
        ∀ (H1 : Hp) (r : Addr) (zs : List V) (ps : List Pt) (z : Str) (v2 v4 : Option V), H1 r = some (.lst zs) → ArePts H1 zs ps → ps ≠ [] → ps.length ≤ 12 → (∀ q ∈ ps, Bd q) → BadText z →
          t { nx := fun _ H' => Q .non H', rt := Q } [some (.ref a), some (.ref r), v2, some (.str z), v4] H1 := by
      refine ⟨_, pss_cons (ps_if (PW.pt (pw_or (pt_cmpR op_ne (pe_call R hr rfl m4 k4 b4 .nil pass0 (pa_cons (pv 3) pa_nil)) pe_str (nomark _)) (pw_or1 (pt_cmpR op_ne (pe_call R hr rfl m4 k4 b4 .nil pass0 (pa_cons (pv 3) pa_nil)) pe_str (nomark _))))) (pss_one (ps_ret pe_bl)) pss_nil)
        (pss_one (ps_ret (pe_cmpR op_eq (pe_call R hr rfl m4 k4 b4 .nil pass0 (pa_cons (pe_call X hr1 rfl m5 k5 b5 .nil pass0 (pa_cons (pv 1) pa_nil)) pa_nil)) pe_str (nomark _)))), ?_⟩
      intro H1 r zs ps z v2 v4 h1 p1 ne lp bd bt
      refine ⟨_, rfl, z, _, rfl, .inr ⟨bt, rfl⟩, fun H2 s2 => ⟨rfl, false, str_ne _, iteF ?_⟩⟩
      refine ⟨_, rfl, z, _, rfl, .inr ⟨bt, rfl⟩, fun H3 s3 => ⟨rfl, false, str_ne _, iteF ?_⟩⟩
      have s13 := s2.trans s3
      refine ⟨_, rfl, r, zs, ps, rfl, SqL.of (s13 _ _ h1), p1.same s13, lp, bd, fun H4 s4 => ?_⟩
      refine ⟨textOf ps, _, rfl, .inl ⟨ps, rfl, ne, lp, bd, rfl⟩, fun H5 s5 => ⟨rfl, ?_⟩⟩
      rw [decide_eq_true rfl]
      exact k H5
    obtain ⟨tR, hR, rest⟩ := REST
    obtain ⟨body, hbody⟩ : ∃ b, b = ifBody (nth (defBody sLaw) 3) := ⟨_, rfl⟩
    have REST3 : ∃ t, PSs (cxOf CX0 P w K mg base n_sLaw "law" (defScope sLaw) f cdv A outer s H E).nox (List.drop 3 (defBody sLaw)) t ∧
        ∀ (H5 : Hp) (r : Addr) (zs : List V) (ps : List Pt) (bz : Str) (v2 v4 : Option V), SqL K H5 a (ns.map V.int) → H5 r = some (.lst zs) → ArePts H5 zs ps → ps ≠ [] → ps.length ≤ 12 → (∀ q ∈ ps, Bd q) → BadText bz →
          t { nx := fun _ H' => Q .non H', rt := Q } [some (.ref a), some (.ref r), v2, some (.str bz), v4] H5 := by
      have E3 : List.drop 3 (defBody sLaw) = .If (ifTest (nth (defBody sLaw) 3)) body [] (ifPos (nth (defBody sLaw) 3)) :: List.drop 4 (defBody sLaw) := by rw [hbody]; rfl
      rw [E3]
      refine ⟨_, pss_cons (ps_if (pt_cmpR op_eq (pe_op op_mod (pe_call C hr1 rfl m2 k2 b2 .nil pass0 (pa_cons (pv 0) (pa_cons pe_int pa_nil))) pe_int) pe_int (nomark _)) (pss_strs (i := 4) [(_, _, _), (_, _, _), (_, _, _), (_, _, _), (_, _, _), (_, _, _), (_, _, _), (_, _, _), (_, _, _), (_, _, _), (_, _, _), (_, _, _)] (hbody.trans rfl) rfl scL.nd rfl (Or.inl rfl) rfl (ps_set (i := 3) scL.nd rfl (Or.inl rfl) (pe_ix ix_list (pv 4) (pe_op op_mod (pe_call C hr1 rfl m2 k2 b2 .nil pass0 (pa_cons (pv 0) (pa_cons pe_int pa_nil))) pe_int) (fun _ _ => rfl)))) pss_nil) hR, ?_⟩
      intro H5 r zs ps bz v2 v4 hq5 h5 p5 ne lp bd bt
      refine ⟨_, rfl, a, ns, 13, rfl, hq5, by decide, fun z3 _ => ⟨_, _, rfl, rfl, (by show (0 : Int) < 8; decide), rfl, decide (z3 % 8 = 1), (by show V.bl (decide (V.int (z3 % 8) = V.int 1)) = _; by_cases z : z3 % 8 = 1 <;> simp [z]), ?_⟩⟩
      by_cases c : z3 % 8 = 1
      · rw [decide_eq_true c]
        refine iteT (tStrs_mk _ ⟨(by show 12 ≤ sizeLine; decide), fun a6 n6 => ?_⟩)
        have t6 := same_upd (o := .lst [.str (Str.ofString " "), .str (Str.ofString "\n"), .str (Str.ofString "\t"), .str (Str.ofString "  "), .str (Str.ofString " \n"), .str (Str.ofString "\n\n"), .str (Str.ofString "\t "), .str (Str.ofString ","), .str (Str.ofString "-"), .str (Str.ofString ",\n"), .str (Str.ofString " , "), .str (Str.ofString "0")]) (Same.refl H5) n6
        have g6 : (upd H5 a6 (.lst [.str (Str.ofString " "), .str (Str.ofString "\n"), .str (Str.ofString "\t"), .str (Str.ofString "  "), .str (Str.ofString " \n"), .str (Str.ofString "\n\n"), .str (Str.ofString "\t "), .str (Str.ofString ","), .str (Str.ofString "-"), .str (Str.ofString ",\n"), .str (Str.ofString " , "), .str (Str.ofString "0")])) a6 = some (.lst [.str (Str.ofString " "), .str (Str.ofString "\n"), .str (Str.ofString "\t"), .str (Str.ofString "  "), .str (Str.ofString " \n"), .str (Str.ofString "\n\n"), .str (Str.ofString "\t "), .str (Str.ofString ","), .str (Str.ofString "-"), .str (Str.ofString ",\n"), .str (Str.ofString " , "), .str (Str.ofString "0")]) := upd_same
        refine ⟨_, rfl, _, rfl, a, ns, 12, rfl, t6.seq hq5, by decide, fun z4 _ => ⟨_, _, rfl, rfl, (by show (0 : Int) < 12; decide), ?_⟩⟩
        obtain ⟨w0, mw, aw⟩ := mem_at (xs := nones) (n := 12) rfl (Int.emod_nonneg z4 (show (12 : Int) ≠ 0 by decide)) (Int.emod_lt_of_pos z4 (show (0 : Int) < 12 by decide))
        refine ⟨a6, _, _, _, rfl, rfl, SqL.of g6, aw, ?_⟩
        exact rest _ r zs ps w0 _ _ (t6 _ _ h5) (p5.same t6) ne lp bd (bad_none mw)
      · rw [decide_eq_false c]
        exact iteF (rest H5 r zs ps bz _ _ h5 p5 ne lp bd bt)
    obtain ⟨tR3, hR3, rest3⟩ := REST3
    refine ⟨_, pss_cons (ps_set (i := 1) scL.nd rfl (Or.inl rfl) (pe_call N hr2 rfl m1 k1 b1 .nil pass0 (pa_cons (pe_op op_cat (pe_lst (pa_cons (pe_op op_add pe_int (pe_op op_mod (pe_call C hr1 rfl m2 k2 b2 .nil pass0 (pa_cons (pv 0) (pa_cons pe_int pa_nil))) pe_int)) pa_nil)) (pe_slice sl_list (pv 0) (po_some pe_int) po_none)) (pa_cons pe_int (pa_cons pe_int pa_nil)))))
      (pss_cons (ps_setC (i := 2) scL.nd rfl rfl cs_lwd rfl (pi_list (pv 1)) (fun _ _ _ _ _ => pg_name (i := 0) nd_lwd rfl (Or.inl rfl)) (fun _ _ _ _ _ => pif_nil)
        (fun _ _ _ _ _ => pe_op op_add_str (pe_op op_add_str (pe_callTy call_str_int rfl T.str PyProof.Rows.boot_str (pa_cons (pe_ix (ixt (K' := K) rfl) (pv 0) pe_int (fun _ _ => rfl)) pa_nil)) pe_str) (pe_callTy call_str_int rfl T.str PyProof.Rows.boot_str (pa_cons (pe_ix (ixt (K' := K) rfl) (pv 0) pe_int (fun _ _ => rfl)) pa_nil))) rfl)
      (pss_cons (ps_set (i := 3) scL.nd rfl (Or.inl rfl) (pe_call B hr1 rfl m3 k3 b3 .nil pass0 (pa_cons (pv 2) (pa_cons (pe_op op_mod (pe_call C hr1 rfl m2 k2 b2 .nil pass0 (pa_cons (pv 0) (pa_cons pe_int pa_nil))) pe_int) (pa_cons (pe_op op_mod (pe_call C hr1 rfl m2 k2 b2 .nil pass0 (pa_cons (pv 0) (pa_cons pe_int pa_nil))) pe_int) pa_nil)))))
      hR3)), ?_⟩
    refine ⟨_, rfl, a, ns, 0, rfl, hq, by decide, fun z _ => ⟨_, _, rfl, rfl, (by show (0 : Int) < 12; decide), _, _, rfl, rfl, (by show 1 ≤ sizeLine; decide), fun l nl => ?_⟩⟩
    have s1 := same_upd (o := .lst [.int (1 + z % 12)]) (Same.refl H) nl
    refine ⟨_, rfl, _, rfl, a, _, rfl, s1.seq hq, fun l2 nl2 => ?_⟩
    rw [cut_tail]
    have s2 := same_upd (o := .lst ((ns.map V.int).drop 1)) (Same.refl (upd H l (.lst [.int (1 + z % 12)]))) nl2
    refine ⟨l, l2, _, _, rfl, rfl, s2 _ _ upd_same, upd_same, Nat.le_of_lt (small1000 (by simp; omega)), fun l3 nl3 => ?_⟩
    have s3 := same_upd (o := .lst ([.int (1 + z % 12)] ++ (ns.map V.int).drop 1)) (Same.refl (upd (upd H l (.lst [.int (1 + z % 12)])) l2 (.lst ((ns.map V.int).drop 1)))) nl3
    refine ⟨l3, (1 + z % 12) :: ns.drop 1, 0, 12, rfl, SqL.of (by rw [upd_same, List.map_cons, List.map_drop]; rfl), by decide, by decide, by decide, fun r zs ps H1 n1 t1 h1 p1 len _ bd => ?_⟩
    have ln : ps.length = ((1 + z % 12) % 13).toNat := len
    have l16 : 1 ≤ ps.length ∧ ps.length ≤ 12 := by omega
    have ne : ps ≠ [] := fun e => by rw [e] at l16; simp at l16
    have hq1 := (s1.trans (s2.trans (s3.trans t1))).seq hq
    clear len t1 n1 s1 s2 s3 nl nl2 nl3
    have lz := p1.length
    refine ⟨_, rfl, r, rfl, ⟨_, SqL.of h1⟩, fun D hD => ?_⟩
    refine comp_list (K := K) (a := r) (xs := zs) (fun j σ' H' => ∃ v, σ' = [v] ∧ Same H1 H' ∧ H' D = some (.lst (((ps.take j).map wordOf).map V.str)))
      ⟨none, rfl, same_upd (Same.refl H1) hD, upd_same⟩ (fun j σ' H' _ ⟨_, _, s4, _⟩ => s4.seq (SqL.of h1)) ?_ ?_
    · rintro j x σ' H' hj ⟨v, rfl, s4, h4⟩
      obtain ⟨p, p1', p2⟩ := Pair.get p1 hj
      have hjl := (List.getElem?_eq_some_iff.mp p1').1
      obtain ⟨d1, d2⟩ := bd_dec (bd p (List.mem_of_getElem? p1'))
      have la := d1.len
      have lb := d2.len
      obtain ⟨ax, rfl, hax⟩ := p2.same s4
      dsimp only [gName, tYes]
      refine iteT ⟨_, rfl, ax, _, _, _, rfl, rfl, SqT.of hax, atI_nat (j := 0) rfl, p.1, rfl, d1.log, dec p.1, _, rfl, rfl, ?_, ?_⟩
      · exact Nat.le_of_lt (small1000 (by rw [comma_sign]; show _ + 1 ≤ 1000; omega))
      refine ⟨_, rfl, ax, _, _, _, rfl, rfl, SqT.of hax, atI_nat (j := 1) rfl, p.2, rfl, d2.log, _, dec p.2, rfl, rfl, ?_, ?_⟩
      · exact Nat.le_of_lt (small1000 (by rw [comma_sign, strLen_append]; show _ + 1 + _ ≤ 1000; omega))
      rw [comma_sign, word_app]
      refine ⟨_, h4, small1000 (by rw [List.length_map, List.length_map, List.length_take]; omega), _, rfl, same_upd s4 hD, ?_⟩
      rw [upd_same, take_snoc p1', List.map_append, List.map_append]; rfl
    · rintro σ' H' ⟨v, rfl, s4, h4⟩
      rw [List.take_of_length_le (by omega)] at h4
      have hq4 := s4.seq hq1
      refine ⟨_, rfl, _, rfl, a, ns, 11, rfl, hq4, by decide, fun z1 _ => ⟨_, _, rfl, rfl, (by show (0 : Int) < 6; decide), ?_⟩⟩
      refine ⟨_, rfl, a, ns, 12, rfl, hq4, by decide, fun z2 _ => ⟨_, _, rfl, rfl, (by show (0 : Int) < 1000003; decide), ?_⟩⟩
      have y0 := Int.emod_nonneg z1 (show (6 : Int) ≠ 0 by decide)
      have y1 := Int.emod_lt_of_pos z1 (show (0 : Int) < 6 by decide)
      have y2 := Int.emod_nonneg z2 (show (1000003 : Int) ≠ 0 by decide)
      refine ⟨D, ps, _, _, rfl, h4, by omega, l16.2, bd, y0, y1, y2, fun bz H5 s5 bt => ?_⟩
      have s15 := s4.trans s5
      have hq5 := s5.seq hq4
      exact rest3 H5 r zs ps bz _ _ hq5 (s15 _ _ h1) (p1.same s15) ne l16.2 bd bt
end
end Toy
set_option Elab.async false
set_option maxRecDepth 100000
namespace Toy
open PySem L2 Geo
set_option maxHeartbeats 0 in
theorem all_mk {l : PySem.W.OpenLaw} {w : World} {K : PySem.W.Frag} {h : Heap} {mg : Str → Option Value} {fa f1 f2 f3 f4 f5 f6 f7 f8 f9 f10 f11 f12 f13 : Addr} (X : K.In h) (G : h.Ns mainGlobals mg) (hfa : mg "law" = some (.ref fa))
    {od1 an1 od2 an2 od3 an3 od4 an4 od5 an5 od6 an6 od7 an7 od8 an8 od9 an9 od10 an10 od11 an11 od12 an12 od13 an13 : Option Addr} {sl1 sl2 sl3 sl4 sl5 sl6 sl7 sl8 sl9 sl10 sl11 sl12 sl13 : Array (Option Value)} {oc1 kV1 dc1 pm1 cd1 ct1 oc2 kV2 dc2 pm2 cd2 ct2 oc3 kV3 dc3 pm3 cd3 ct3 oc4 kV4 dc4 pm4 cd4 ct4 oc5 kV5 dc5 pm5 cd5 ct5 oc6 kV6 dc6 pm6 cd6 ct6 oc7 kV7 dc7 pm7 cd7 ct7 oc8 kV8 dc8 pm8 cd8 ct8 oc9 kV9 dc9 pm9 cd9 ct9 oc10 kV10 dc10 pm10 cd10 ct10 oc11 kV11 dc11 pm11 cd11 ct11 oc12 kV12 dc12 pm12 cd12 ct12 oc13 kV13 dc13 pm13 cd13 ct13 : Value} {tk1 tk2 : Tok}
    (a1 : PySem.W.nsIn K mainGlobals "check_point" = some (some (.ref f1))) (l1 : K.lookup f1 = some ⟨oc1, od1, .func (PySem.W.fnOf "check_point" "check_point" (defArgs sChk) (defBody sChk) (defScope sChk) .none kV1 dc1 pm1 an1 cd1 ct1), sl1⟩) (c1 : PySem.W.codeIn K cd1 "check_point" = true) (k1 : PySem.W.keepIn K (.ref f1) = true)
    (a2 : PySem.W.nsIn K mainGlobals "check_points" = some (some (.ref f2))) (l2 : K.lookup f2 = some ⟨oc2, od2, .func (PySem.W.fnOf "check_points" "check_points" (defArgs sChks) (defBody sChks) (defScope sChks) .none kV2 dc2 pm2 an2 cd2 ct2), sl2⟩) (c2 : PySem.W.codeIn K cd2 "check_points" = true) (k2 : PySem.W.keepIn K (.ref f2) = true)
    (a3 : PySem.W.nsIn K mainGlobals "read" = some (some (.ref f3))) (l3 : K.lookup f3 = some ⟨oc3, od3, .func (PySem.W.fnOf "read" "read" (defArgs sRead) (defBody sRead) (defScope sRead) .none kV3 dc3 pm3 an3 cd3 ct3), sl3⟩) (c3 : PySem.W.codeIn K cd3 "read" = true) (k3 : PySem.W.keepIn K (.ref f3) = true)
    (a4 : PySem.W.nsIn K mainGlobals "read_point" = some (some (.ref f4))) (l4 : K.lookup f4 = some ⟨oc4, od4, .func (PySem.W.fnOf "read_point" "read_point" (defArgs sRPt) (defBody sRPt) (defScope sRPt) .none kV4 dc4 pm4 an4 cd4 ct4), sl4⟩) (c4 : PySem.W.codeIn K cd4 "read_point" = true) (k4 : PySem.W.keepIn K (.ref f4) = true)
    (a5 : PySem.W.nsIn K mainGlobals "is_place" = some (some (.ref f5))) (l5 : K.lookup f5 = some ⟨oc5, od5, .func (PySem.W.fnOf "is_place" "is_place" (defArgs sPlace) (defBody sPlace) (defScope sPlace) .none kV5 dc5 pm5 an5 cd5 ct5), sl5⟩) (c5 : PySem.W.codeIn K cd5 "is_place" = true) (k5 : PySem.W.keepIn K (.ref f5) = true)
    (a6 : PySem.W.nsIn K mainGlobals "_law_cell_at" = some (some (.ref f6))) (l6 : K.lookup f6 = some ⟨oc6, od6, .func (PySem.W.fnOf "_law_cell_at" "_law_cell_at" (defArgs sCell) (defBody sCell) (defScope sCell) .none kV6 dc6 pm6 an6 cd6 ct6), sl6⟩) (c6 : PySem.W.codeIn K cd6 "_law_cell_at" = true) (k6 : PySem.W.keepIn K (.ref f6) = true)
    (a7 : PySem.W.nsIn K mainGlobals "_law_next" = some (some (.ref f7))) (l7 : K.lookup f7 = some ⟨oc7, od7, .func (PySem.W.fnOf "_law_next" "_law_next" (defArgs sNext) (defBody sNext) (defScope sNext) .none kV7 dc7 pm7 an7 cd7 ct7), sl7⟩) (c7 : PySem.W.codeIn K cd7 "_law_next" = true) (k7 : PySem.W.keepIn K (.ref f7) = true)
    (a8 : PySem.W.nsIn K mainGlobals "_law_points" = some (some (.ref f8))) (l8 : K.lookup f8 = some ⟨oc8, od8, .func (PySem.W.fnOf "_law_points" "_law_points" (defArgs sPts) (defBody sPts) (defScope sPts) .none kV8 dc8 pm8 an8 cd8 ct8), sl8⟩) (c8 : PySem.W.codeIn K cd8 "_law_points" = true) (k8 : PySem.W.keepIn K (.ref f8) = true)
    (a9 : PySem.W.nsIn K mainGlobals "_law_text" = some (some (.ref f9))) (l9 : K.lookup f9 = some ⟨oc9, od9, .func (PySem.W.fnOf "_law_text" "_law_text" (defArgs sText) (defBody sText) (defScope sText) .none kV9 dc9 pm9 an9 cd9 ct9), sl9⟩) (c9 : PySem.W.codeIn K cd9 "_law_text" = true) (k9 : PySem.W.keepIn K (.ref f9) = true)
    (a10 : PySem.W.nsIn K mainGlobals "_law_kind" = some (some (.ref f10))) (l10 : K.lookup f10 = some ⟨oc10, od10, .func (PySem.W.fnOf "_law_kind" "_law_kind" (defArgs sKind) (defBody sKind) (defScope sKind) .none kV10 dc10 pm10 an10 cd10 ct10), sl10⟩) (c10 : PySem.W.codeIn K cd10 "_law_kind" = true) (k10 : PySem.W.keepIn K (.ref f10) = true)
    (a11 : PySem.W.nsIn K mainGlobals "_law_tried" = some (some (.ref f11))) (l11 : K.lookup f11 = some ⟨oc11, od11, .func (PySem.W.fnOf "_law_tried" "_law_tried" (defArgs sTried) (defBody sTried) (defScope sTried) .none kV11 dc11 pm11 an11 cd11 ct11), sl11⟩) (c11 : PySem.W.codeIn K cd11 "_law_tried" = true) (k11 : PySem.W.keepIn K (.ref f11) = true)
    (a12 : PySem.W.nsIn K mainGlobals "_law_spoiled" = some (some (.ref f12))) (l12 : K.lookup f12 = some ⟨oc12, od12, .func (PySem.W.fnOf "_law_spoiled" "_law_spoiled" (defArgs sSpoil) (defBody sSpoil) (defScope sSpoil) .none kV12 dc12 pm12 an12 cd12 ct12), sl12⟩) (c12 : PySem.W.codeIn K cd12 "_law_spoiled" = true) (k12 : PySem.W.keepIn K (.ref f12) = true)
    (a13 : PySem.W.nsIn K mainGlobals "law" = some (some (.ref f13))) (l13 : K.lookup f13 = some ⟨oc13, od13, .func (PySem.W.fnOf "law" "law" (defArgs sLaw) (defBody sLaw) (defScope sLaw) .none kV13 dc13 pm13 an13 cd13 ct13), sl13⟩) (c13 : PySem.W.codeIn K cd13 "law" = true) (k13 : PySem.W.keepIn K (.ref f13) = true)
    (y1 : PySem.W.nsIn K mainGlobals "FARTHEST" = some (some (.int 1000 tk1)))
    (y2 : PySem.W.nsIn K mainGlobals "MOST_POINTS" = some (some (.int 12 tk2)))
    {ts1 : Tok} (x1 : PySem.W.nsIn K mainGlobals "DIGITS" = some (some (.str "0123456789" ts1)))
    (z1 : PySem.W.nsIn K mainGlobals "len" = some none)    (z2 : PySem.W.nsIn K mainGlobals "abs" = some none)    (z3 : PySem.W.nsIn K mainGlobals "sorted" = some none)    (z4 : PySem.W.nsIn K mainGlobals "set" = some none)    (z5 : PySem.W.nsIn K mainGlobals "list" = some none)    (z6 : PySem.W.nsIn K mainGlobals "reversed" = some none)    (z7 : PySem.W.nsIn K mainGlobals "range" = some none)    (z8 : PySem.W.nsIn K mainGlobals "isinstance" = some none)    (z9 : PySem.W.nsIn K mainGlobals "int" = some none)    (z10 : PySem.W.nsIn K mainGlobals "bool" = some none)    (z11 : PySem.W.nsIn K mainGlobals "tuple" = some none)    (z12 : PySem.W.nsIn K mainGlobals "min" = some none)    (z13 : PySem.W.nsIn K mainGlobals "max" = some none)    (z14 : PySem.W.nsIn K mainGlobals "all" = some none)    (z15 : PySem.W.nsIn K mainGlobals "sum" = some none)    (z16 : PySem.W.nsIn K mainGlobals "zip" = some none)    (z17 : PySem.W.nsIn K mainGlobals "any" = some none)    (z18 : PySem.W.nsIn K mainGlobals "str" = some none)    (z19 : PySem.W.nsIn K mainGlobals "enumerate" = some none)    (z20 : PySem.W.nsIn K mainGlobals "ValueError" = some none)    {cx0 cx1 cx2 cx3 cx4 cx5 : Addr} (ex0 : PySem.W.nsIn K mainGlobals "HullError" = some (some (.ref cx0))) (ex1 : PySem.W.nsIn K mainGlobals "NoPoint" = some (some (.ref cx1))) (ex2 : PySem.W.nsIn K mainGlobals "NoSpot" = some (some (.ref cx2))) (ex3 : PySem.W.nsIn K mainGlobals "NoFour" = some (some (.ref cx3))) (ex4 : PySem.W.nsIn K mainGlobals "NoMiddle" = some (some (.ref cx4))) (ex5 : PySem.W.nsIn K mainGlobals "NoNote" = some (some (.ref cx5))) (qx1 : excSeen K cx0 cx1 = true) (sx1 : kindSeen K cx1 [cx1, cx2, cx3, cx4, cx5] [true, false, false, false, false] = true) (qx2 : excSeen K cx0 cx2 = true) (sx2 : kindSeen K cx2 [cx1, cx2, cx3, cx4, cx5] [false, true, false, false, false] = true) (qx3 : excSeen K cx0 cx3 = true) (sx3 : kindSeen K cx3 [cx1, cx2, cx3, cx4, cx5] [false, false, true, false, false] = true) (qx4 : excSeen K cx0 cx4 = true) (sx4 : kindSeen K cx4 [cx1, cx2, cx3, cx4, cx5] [false, false, false, true, false] = true) (qx5 : excSeen K cx0 cx5 = true) (sx5 : kindSeen K cx5 [cx1, cx2, cx3, cx4, cx5] [false, false, false, false, true] = true)
 :
    ∃ fd : FuncData, (∀ (s : Shared) (v : Value), BindsTo s fd ⟨[v], []⟩ [("script", v)]) ∧ ∀ base : Heap, K.In base → base.Ns mainGlobals mg → FnOk l.prog w K mg base CX0 5 fa fd ["script"] (spLaw K) := by
  have e := hfa.symm.trans (PySem.W.mg_of X G a13)
  cases e
  have T : Txt mg := { len := PySem.W.mg_none_of X G z1, abs := PySem.W.mg_none_of X G z2, sorted := PySem.W.mg_none_of X G z3, set := PySem.W.mg_none_of X G z4, list := PySem.W.mg_none_of X G z5, reversed := PySem.W.mg_none_of X G z6, range := PySem.W.mg_none_of X G z7, isinstance := PySem.W.mg_none_of X G z8, int := PySem.W.mg_none_of X G z9, bool := PySem.W.mg_none_of X G z10, tuple := PySem.W.mg_none_of X G z11, min := PySem.W.mg_none_of X G z12, max := PySem.W.mg_none_of X G z13, all := PySem.W.mg_none_of X G z14, sum := PySem.W.mg_none_of X G z15, zip := PySem.W.mg_none_of X G z16, any := PySem.W.mg_none_of X G z17, str := PySem.W.mg_none_of X G z18, enumerate := PySem.W.mg_none_of X G z19, valueError := PySem.W.mg_none_of X G z20, far := ⟨_, PySem.W.mg_of X G y1⟩, most := ⟨_, PySem.W.mg_of X G y2⟩, digits := ⟨_, PySem.W.mg_of X G x1⟩ }
  have hE : Excs K mg cx0 cx1 cx2 cx3 cx4 cx5 := ⟨PySem.W.mg_of X G ex0, PySem.W.mg_of X G ex1, PySem.W.mg_of X G ex2, PySem.W.mg_of X G ex3, PySem.W.mg_of X G ex4, PySem.W.mg_of X G ex5, ExcOk.of qx1, kinds_of sx1, ExcOk.of qx2, kinds_of sx2, ExcOk.of qx3, kinds_of sx3, ExcOk.of qx4, kinds_of sx4, ExcOk.of qx5, kinds_of sx5⟩
  have F1 := fun_mk (st := sChk) l1 c1 k1
  have b1 := F1.binds (ps := ["point"]) fun _ _ _ _ _ _ us hl => match us, hl with | [_], _ => rfl
  have m1 := PySem.W.mg_of X G a1
  have F2 := fun_mk (st := sChks) l2 c2 k2
  have b2 := F2.binds (ps := ["points"]) fun _ _ _ _ _ _ us hl => match us, hl with | [_], _ => rfl
  have m2 := PySem.W.mg_of X G a2
  have F3 := fun_mk (st := sRead) l3 c3 k3
  have b3 := F3.binds (ps := ["text"]) fun _ _ _ _ _ _ us hl => match us, hl with | [_], _ => rfl
  have m3 := PySem.W.mg_of X G a3
  have F4 := fun_mk (st := sRPt) l4 c4 k4
  have b4 := F4.binds (ps := ["word"]) fun _ _ _ _ _ _ us hl => match us, hl with | [_], _ => rfl
  have m4 := PySem.W.mg_of X G a4
  have F5 := fun_mk (st := sPlace) l5 c5 k5
  have b5 := F5.binds (ps := ["word"]) fun _ _ _ _ _ _ us hl => match us, hl with | [_], _ => rfl
  have m5 := PySem.W.mg_of X G a5
  have F6 := fun_mk (st := sCell) l6 c6 k6
  have b6 := F6.binds (ps := ["script", "k"]) fun _ _ _ _ _ _ us hl => match us, hl with | [_, _], _ => rfl
  have m6 := PySem.W.mg_of X G a6
  have F7 := fun_mk (st := sNext) l7 c7 k7
  have b7 := F7.binds (ps := ["seed"]) fun _ _ _ _ _ _ us hl => match us, hl with | [_], _ => rfl
  have m7 := PySem.W.mg_of X G a7
  have F8 := fun_mk (st := sPts) l8 c8 k8
  have b8 := F8.binds (ps := ["script", "at", "most"]) fun _ _ _ _ _ _ us hl => match us, hl with | [_, _, _], _ => rfl
  have m8 := PySem.W.mg_of X G a8
  have F9 := fun_mk (st := sText) l9 c9 k9
  have b9 := F9.binds (ps := ["points"]) fun _ _ _ _ _ _ us hl => match us, hl with | [_], _ => rfl
  have m9 := PySem.W.mg_of X G a9
  have F10 := fun_mk (st := sKind) l10 c10 k10
  have b10 := F10.binds (ps := ["e"]) fun _ _ _ _ _ _ us hl => match us, hl with | [_], _ => rfl
  have m10 := PySem.W.mg_of X G a10
  have F11 := fun_mk (st := sTried) l11 c11 k11
  have b11 := F11.binds (ps := ["text"]) fun _ _ _ _ _ _ us hl => match us, hl with | [_], _ => rfl
  have m11 := PySem.W.mg_of X G a11
  have F12 := fun_mk (st := sSpoil) l12 c12 k12
  have b12 := F12.binds (ps := ["words", "way", "cell"]) fun _ _ _ _ _ _ us hl => match us, hl with | [_, _, _], _ => rfl
  have m12 := PySem.W.mg_of X G a12
  have F13 := fun_mk (st := sLaw) l13 c13 k13
  have b13 := F13.binds (ps := ["script"]) fun _ _ _ _ _ _ us hl => match us, hl with | [_], _ => rfl
  have m13 := PySem.W.mg_of X G a13
  refine ⟨PySem.W.fnOf "law" "law" (defArgs sLaw) (defBody sLaw) (defScope sLaw) .none kV13 dc13 pm13 an13 cd13 ct13, fun s v => .of_eq rfl, fun base _ _ => ?_⟩
  have O6 : FnOk l.prog w K mg base CX0 1 f6 _ _ _ := ok_cell F6 T
  have O7 : FnOk l.prog w K mg base CX0 1 f7 _ _ _ := ok_next F7
  have O8 : FnOk l.prog w K mg base CX0 2 f8 _ _ _ := ok_pts F8 T O6 b6 k6 m6 O7 b7 k7 m7
  have O12 : FnOk l.prog w K mg base CX0 1 f12 _ _ _ := ok_spoil F12 T
  have O5 : FnOk l.prog w K mg base CX0 1 f5 _ _ _ := ok_place F5 T
  have O5c : FnOk l.prog w K mg base CX0 1 f5 _ _ _ := ok_placeN F5 T
  have O4b : FnOk l.prog w K mg base (CXR AnyF l.prog w) 2 f4 _ _ _ := ok_rptX F4 T hE O5 b5 k5 m5 O5c b5 k5 m5
  have O1 : FnOk l.prog w K mg base CX0 1 f1 _ _ _ := ok_chk F1 T
  have O2 : FnOk l.prog w K mg base CX0 2 f2 _ _ _ := ok_chks F2 T O1 b1 k1 m1
  have O1b : FnOk l.prog w K mg base (CXR Ctx0 l.prog w) 1 f1 _ _ _ := ok_chkB F1 T hE
  have O2b : FnOk l.prog w K mg base (CXR Ctx0 l.prog w) 2 f2 _ _ _ := ok_chksB F2 T hE O1 b1 k1 m1 O1b b1 k1 m1
  have O3b : FnOk l.prog w K mg base (CXR AnyF l.prog w) 3 f3 _ _ _ := ok_readX F3 T hE O4b b4 k4 m4 O2 b2 k2 m2 O2b b2 k2 m2
  have O10h : FnOkH l.prog w K mg base 1 f10 _ _ _ := ok_kind F10 T hE
  have O11 : FnOk l.prog w K mg base CX0 4 f11 _ _ _ := ok_tried F11 T hE O3b b3 k3 m3 O10h b10 k10 m10
  have O9 : FnOk l.prog w K mg base CX0 1 f9 _ _ _ := ok_text F9 T
  exact ok_law F13 T O8 b8 k8 m8 O6 b6 k6 m6 O12 b12 k12 m12 O11 b11 k11 m11 O9 b9 k9 m9
theorem walk {l : PySem.W.OpenLaw} {q : Program} {loose : List Str} {XP : (Str → Option Value) → Heap → Prop} {YP : World → Heap → Prop} {d : DefRec} {K : Params → PySem.W.Frag} (hn : l.most = some 63) (hdf : d.params.defaults = [])
    (hY : ∀ (w : World) (h : Heap), YP w h → (K w.params).In h)
    (F : ∀ (w : World) (mg : Str → Option Value) (fa : Addr) (h : Heap), (K w.params).In h → h.Ns mainGlobals mg → mg d.name = some (.ref fa) →
      ∃ fd : FuncData, (∀ (s : Shared) (u : Value), BindsTo s fd ⟨[u], []⟩ [("script", u)]) ∧ ∀ base : Heap, (K w.params).In base → base.Ns mainGlobals mg → FnOk l.prog w (K w.params) mg base CX0 5 fa fd ["script"] (spLaw (K w.params))) :
    PySem.W.WalkO q loose XP YP l.row.toRowW d [] (fun f vs => PySem.call f vs) :=
  L2.walk_of (n := 63) (k := 5) (x := "script") (CX := fun _ => CX0) (sp := fun w => spLaw (K w.params)) hn (by decide) hdf ⟨rfl, by decide, by decide, rfl⟩ hY F (fun _ _ a ns hl _ hS => ⟨a, ns, rfl, hS, hl, fun _ => rfl⟩) fun _ _ _ _ _ z => z
end Toy
def PySem.W.Fast.tw8371795065541962482 : Nat := 0
def PySem.W.Fast.tw2301153765154206263 : Nat := 0
def PySem.W.Fast.tw18294486258538762349 : Nat := 0
def PySem.W.Fast.tw7013705087583053747 : Nat := 0
def PySem.W.Fast.tw5600441375429126710 : Nat := 0
def PySem.W.Fast.tw10441798604186613846 : Nat := 0
def PySem.W.Fast.tw6853774004499861560 : Nat := 0
def PySem.W.Fast.tw10467466835142941631 : Nat := 0
def PySem.W.Fast.tw15456595528689569688 : Nat := 0
def PySem.W.Fast.tw16979757005210207900 : Nat := 0
def PySem.W.Fast.tw12667550203736341317 : Nat := 0
def PySem.W.Fast.tw13026444559901398911 : Nat := 0
def PySem.W.Fast.tw15800576476557339248 : Nat := 0
open PySem PySem.W PyProof.Rows
set_option maxRecDepth 100000 in
set_option maxHeartbeats 0 in
theorem PySem.Challenge.cw_hullpart_k14_unread_holds : PySem.Challenge.rw_hullpart_k14_unread.Holds := by
  w_on; o_law; k_head; (case hw => w_witness2)
  k_fill
  refine Toy.walk (l := PySem.Challenge.rw_hullpart_k14_unread) rfl rfl (fun w h Y => PySem.W.kIn_of Y) ?F
  case F =>
    intro w mg fa h KX G hmg
    refine' Toy.all_mk KX G hmg ?a1 ?l1 ?c1 ?k1 ?a2 ?l2 ?c2 ?k2 ?a3 ?l3 ?c3 ?k3 ?a4 ?l4 ?c4 ?k4 ?a5 ?l5 ?c5 ?k5 ?a6 ?l6 ?c6 ?k6 ?a7 ?l7 ?c7 ?k7 ?a8 ?l8 ?c8 ?k8 ?a9 ?l9 ?c9 ?k9 ?a10 ?l10 ?c10 ?k10 ?a11 ?l11 ?c11 ?k11 ?a12 ?l12 ?c12 ?k12 ?a13 ?l13 ?c13 ?k13 ?x1 ?y1 ?y2 ?z1 ?z2 ?z3 ?z4 ?z5 ?z6 ?z7 ?z8 ?z9 ?z10 ?z11 ?z12 ?z13 ?z14 ?z15 ?z16 ?z17 ?z18 ?z19 ?z20 ?ex0 ?ex1 ?ex2 ?ex3 ?ex4 ?ex5 ?qx1 ?sx1 ?qx2 ?sx2 ?qx3 ?sx3 ?qx4 ?sx4 ?qx5 ?sx5
    (case a1 => k_is)
    (case l1 => k_is)
    (case c1 => k_is)
    (case k1 => k_is)
    (case a2 => k_is)
    (case l2 => k_is)
    (case c2 => k_is)
    (case k2 => k_is)
    (case a3 => k_is)
    (case l3 => k_is)
    (case c3 => k_is)
    (case k3 => k_is)
    (case a4 => k_is)
    (case l4 => k_is)
    (case c4 => k_is)
    (case k4 => k_is)
    (case a5 => k_is)
    (case l5 => k_is)
    (case c5 => k_is)
    (case k5 => k_is)
    (case a6 => k_is)
    (case l6 => k_is)
    (case c6 => k_is)
    (case k6 => k_is)
    (case a7 => k_is)
    (case l7 => k_is)
    (case c7 => k_is)
    (case k7 => k_is)
    (case a8 => k_is)
    (case l8 => k_is)
    (case c8 => k_is)
    (case k8 => k_is)
    (case a9 => k_is)
    (case l9 => k_is)
    (case c9 => k_is)
    (case k9 => k_is)
    (case a10 => k_is)
    (case l10 => k_is)
    (case c10 => k_is)
    (case k10 => k_is)
    (case a11 => k_is)
    (case l11 => k_is)
    (case c11 => k_is)
    (case k11 => k_is)
    (case a12 => k_is)
    (case l12 => k_is)
    (case c12 => k_is)
    (case k12 => k_is)
    (case a13 => k_is)
    (case l13 => k_is)
    (case c13 => k_is)
    (case k13 => k_is)
    (case x1 => k_is)
    (case y1 => k_is)
    (case y2 => k_is)
    (case z1 => k_is)
    (case z2 => k_is)
    (case z3 => k_is)
    (case z4 => k_is)
    (case z5 => k_is)
    (case z6 => k_is)
    (case z7 => k_is)
    (case z8 => k_is)
    (case z9 => k_is)
    (case z10 => k_is)
    (case z11 => k_is)
    (case z12 => k_is)
    (case z13 => k_is)
    (case z14 => k_is)
    (case z15 => k_is)
    (case z16 => k_is)
    (case z17 => k_is)
    (case z18 => k_is)
    (case z19 => k_is)
    (case z20 => k_is)
    (case ex0 => k_is)
    (case ex1 => k_is)
    (case ex2 => k_is)
    (case ex3 => k_is)
    (case ex4 => k_is)
    (case ex5 => k_is)
    (case qx1 => kernel_rfl)
    (case sx1 => kernel_rfl)
    (case qx2 => kernel_rfl)
    (case sx2 => kernel_rfl)
    (case qx3 => kernel_rfl)
    (case sx3 => kernel_rfl)
    (case qx4 => kernel_rfl)
    (case sx4 => kernel_rfl)
    (case qx5 => kernel_rfl)
    (case sx5 => kernel_rfl)
